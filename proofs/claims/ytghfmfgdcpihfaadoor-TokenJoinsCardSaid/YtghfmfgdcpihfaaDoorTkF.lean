import Derived.Test.YtghfmfgdcpihfaaDoorTkE
namespace Go.Proofs.YtghfmfgdcpihfaaDoor
open Go.RowKit

/-- As 'cut_zero'; the second way is none: it serves a region's walk, which wants a way on. -/
theorem cut_zero2 (b : Nat) (k : Int) (at_ : Nat) (w : World) :
    Calls Tryd.prog 31 #[.pointer (some ⟨b, 0, none⟩), .int .i64 k, .int .i64 at_, .int .i64 0] w fun e w' =>
      (e = .panicked [{ v := .iface 34 (.int .i64 at_), recovered := false }] ∧ Below w.heap.size w w') ∨
      (∃ x : ByteArray, e = .returned (.agg #[.int .i64 k, .string x, .int .i64 at_]) ∧ Below w.heap.size w w' ∧ Hid False) :=
  (cut_zero b k at_ w).mono fun _ _ h => .inl h

set_option maxHeartbeats 1600000 in
theorem token_zero (base b : Nat) (src : ByteArray) (tk nt : List Tok) (k : Int) (at_ : Nat) (w : World) (hS : Sc base b src tk nt w) (hl : tk.length ≤ 1000000) :
    Calls Tryd.prog 24 #[.pointer (some ⟨b, 0, none⟩), .int .i64 k, .int .i64 at_, .int .i64 0] w fun e w' =>
      e = .panicked [{ v := .iface 34 (.int .i64 at_), recovered := false }] ∧ Frm base b w w' := by
  obtain ⟨hb, vt, vn, h1, h2, h3, h4⟩ := hS
  have c0 := cell_of h1 0
  have c1 := cell_of h1 1
  have f1 := free_of h1 1
  have hlt := lt_of_block h1
  obtain ⟨i0, hi0, hz0, hz1, hz2⟩ := info_parts info38
  have H1 := Lib.hid h1
  have H2 := Lib.hid h2
  have H3 := Lib.hid h3
  have H4 := Lib.hid h4
  clear h1 h2 h3 h4
  go_enter Tryd.func24, Tryd.ntmps24
  go_wp2_with fail
  have hbw : base ≤ w.heap.size := by omega
  have hne : vt.ownBlock ≠ some b := own_ne H2.out H1.out (by decide)
  go_region_law
    (first
      | (go_simp; go_at_call 31; refine (cut_zero2 b k at_ _).mono ?_; rintro e w2 (⟨rfl, hb2⟩ | ⟨x, rfl, hb2, hff⟩); exact ⟨rfl, rfl, Frm.of_below ((⟨rfl, rfl, rfl, Nat.le_refl _, fun _ _ => rfl⟩ : Below w.heap.size w w.drew).trans hb2) hbw⟩
         have HB2 : Hid (Below w.heap.size w w2) := (⟨rfl, rfl, rfl, Nat.le_refl _, fun _ _ => rfl⟩ : Below w.heap.size w w.drew).trans hb2
         clear hb2
         have g0 : w2.cell? ⟨b, 0, none⟩ = some (.string src) := by rw [HB2.out.cell hlt]; exact cell_of H1.out 0
         have g1 : w2.cell? ⟨b, 1, none⟩ = some vt := by rw [HB2.out.cell hlt]; exact cell_of H1.out 1
         have g2 : w2.frozen? ⟨b, 1, none⟩ = false := by rw [HB2.out.frozen hlt]; exact free_of H1.out 1
         have hlt2 : b < w2.heap.size := Nat.lt_of_lt_of_le hlt HB2.out.size
         have hbw2 : base ≤ w2.heap.size := Nat.le_trans hbw HB2.out.size
         have HO2 : Hid (w2.ownsRow base 29 3 vt tk.length (flat tk)) := H2.out.kept (row := none) ⟨HB2.out.os, HB2.out.tape, HB2.out.output, HB2.out.size, fun k hk _ => HB2.out.block k hk⟩ (by cases vt.ownBlock <;> simp)
         clear c0 c1 f1)
      | ((refine step_append_lies _ (by rfl) _ _ _ (by rfl) base 29 i0 _ 3 32 Tryd.underlying23 hi0 hz0 hz1 hz2 rfl (by omega) vt tk.length (flat tk) (by rfl) (HO2.out.alloc _)
              ⟨w2.heap.size, 0, none⟩ 1 1 [.int .i64 k, .string (x), .int .i64 at_] (by rfl) (by rfl) (World.news_of_block (cs := #[.int .i64 k, .string (x), .int .i64 at_]) (t := 29) (fr := (0, 0)) (heap_alloc_new w2 _)) (by simp [Value.oneCell'])
              (by omega) (by unfold maxLen; omega) (by omega) (by simp; omega) (w2.heap.size + 1) (by simp) ?_; intro gg cap w3 hown hgrow hat hlt3
          have hf : w3.heap[b]? = some (.cells #[.string src, vt, vn] 37) := by
            rw [hgrow.block b (by simp; omega) (fun e => hne e.symm), Below.heap_alloc _ _ _ hlt2, HB2.out.block b hlt]; exact H1.out
          have p0 := cell_of hf 0
          have p1 := cell_of hf 1
          have p2 := free_of hf 1
          have HF := Lib.hid hf
          have HOWN := Lib.hid hown
          have HGROW := Lib.hid hgrow
          have HAT := Lib.hid hat
          clear hf hown hgrow hat g0 g1 g2)))
  all_goals exact hff.out.elim

end Go.Proofs.YtghfmfgdcpihfaaDoor
