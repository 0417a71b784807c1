import Derived.Test.YtghfmfgdcpihfaaDoorTkD
import Derived.Test.YtghfmfgdcpihfaaDoorReg
import Derived.Deep.AppendLies
import Derived.Deep.RegionWith
import Derived.Deep.RegionLaw
namespace Go.Proofs.YtghfmfgdcpihfaaDoor
open Go.RowKit

def flat (l : List Tok) : List Value := l.flatMap fun t => [.int .i64 t.kind, .string t.text, .int .i64 t.at_]
theorem flat_len (l : List Tok) : (flat l).length = l.length * 3 := by
  induction l with
  | nil => rfl
  | cons t l ih => simp only [flat, List.flatMap_cons, List.length_append, List.length_cons] at *; simp only [List.length_nil]; omega
theorem flat_snoc (l : List Tok) (t : Tok) : flat (l ++ [t]) = flat l ++ [.int .i64 t.kind, .string t.text, .int .i64 t.at_] := by
  simp [flat]

/-- A scanner in block b: its source, its tokens, its notes. -/
def Sc (base b : Nat) (src : ByteArray) (tk nt : List Tok) (w : World) : Prop := base ≤ b ∧ ∃ vt vn, w.heap[b]? = some (.cells #[.string src, vt, vn] 37) ∧
  w.ownsRow base 29 3 vt tk.length (flat tk) ∧ w.ownsRow base 29 3 vn nt.length (flat nt) ∧ ∀ k, vt.ownBlock = some k → vn.ownBlock = some k → False

theorem Sc.keep {base b : Nat} {src : ByteArray} {tk nt : List Tok} {w w' : World} (h : Sc base b src tk nt w) (hb : Below w.heap.size w w') : Sc base b src tk nt w' := by
  obtain ⟨h0, vt, vn, h1, h2, h3, h4⟩ := h
  have hg : w.grownBy w' none := ⟨hb.os, hb.tape, hb.output, hb.size, fun k hk _ => hb.block k hk⟩
  refine ⟨h0, vt, vn, ?_, h2.kept hg (by cases vt.ownBlock <;> simp), h3.kept hg (by cases vn.ownBlock <;> simp), h4⟩
  rw [hb.block b (lt_of_block h1)]; exact h1

set_option maxHeartbeats 400000 in
theorem cut_ok (b : Nat) (src : ByteArray) (k : Int) (at_ size : Nat) (w : World) (hc : w.cell? ⟨b, 0, none⟩ = some (.string src)) (h0 : size ≠ 0) (h : at_ + size ≤ src.size) (hs : src.size ≤ 1000000) :
    Calls Tryd.prog 31 #[.pointer (some ⟨b, 0, none⟩), .int .i64 k, .int .i64 at_, .int .i64 size] w fun e w' =>
      e = .returned (.agg #[.int .i64 k, .string (src.extract at_ (at_ + size)), .int .i64 at_]) ∧ Below w.heap.size w w' := by
  have hlt := World.block_lt_of_cell? _ _ hc
  simp only at hlt
  have hz : ((size : Int) == 0) = false := by simp; omega
  clear h0
  go_enter Tryd.func31, Tryd.ntmps31
  go_wp2_with fail
  refine bodyPost_ret (v := .agg #[.int .i64 k, .string (src.extract at_ (at_ + size)), .int .i64 at_]) ?_ rfl ⟨rfl, ?_⟩
  · simp [results, Tryd.results31, go_sem]
  · exact ((Below.refl _ _).alloc (Nat.le_refl _) _)

set_option maxHeartbeats 400000 in
theorem cut_zero (b : Nat) (k : Int) (at_ : Nat) (w : World) :
    Calls Tryd.prog 31 #[.pointer (some ⟨b, 0, none⟩), .int .i64 k, .int .i64 at_, .int .i64 0] w fun e w' =>
      e = .panicked [{ v := .iface 34 (.int .i64 at_), recovered := false }] ∧ Below w.heap.size w w' := by
  go_enter Tryd.func31, Tryd.ntmps31
  go_wp2_with fail
  exact ⟨rfl, rfl, (Below.refl _ _).alloc (Nat.le_refl _) _⟩

theorem info38 : (Tryd.prog.info? 29).map (fun i => (i.zero, i.size, i.bytes)) = some (some (.agg #[.int .i64 0, .string ⟨#[]⟩, .int .i64 0]), 3, 32) := by kernel_rfl

/-- What a step of the scanner leaves alone. -/
def Frm (base b : Nat) (w w' : World) : Prop := Below base w w' ∧ Lib.OthersKept 29 (some b) w w'
theorem Frm.trans {base b : Nat} {u v w : World} (h : Frm base b u v) (k : Frm base b v w) : Frm base b u w := ⟨h.1.trans k.1, h.2.trans k.2⟩
theorem Frm.of_below {base b : Nat} {w w' : World} (h : Below w.heap.size w w') (hb : base ≤ w.heap.size) : Frm base b w w' :=
  ⟨h.mono hb, fun k o hk _ _ => by rw [h.block k (lt_of_block hk)]; exact hk⟩

theorem own_ne {w : World} {base e b t n size : Nat} {v : Value} {xs : List Value} {c : Array Value} {fr : Nat × Nat} (h : w.ownsRow base e size v n xs) (hb : w.heap[b]? = some (.cells c t fr)) (hne : t ≠ e) : v.ownBlock ≠ some b := by
  intro hv
  rcases h.2 with ⟨rfl, _⟩ | ⟨g, cap, cur, rfl, _, hg, _⟩
  · simp [Value.ownBlock] at hv
  · simp only [Value.ownBlock, Option.some.injEq] at hv
    subst hv
    rw [hg] at hb
    simp only [Option.some.injEq, Obj.cells.injEq] at hb
    exact hne hb.2.1.symm

theorem row_kept {w w' : World} {base e size n : Nat} {v : Value} {xs : List Value} (h : w.ownsRow base e size v n xs) (hb : Below w.heap.size w w') : w'.ownsRow base e size v n xs :=
  h.kept (row := none) ⟨hb.os, hb.tape, hb.output, hb.size, fun k hk _ => hb.block k hk⟩ (by cases v.ownBlock <;> simp)

/-- What is left behind an append to a scanner's tokens. -/
theorem row_done {base b : Nat} (hbb : base ≤ b) {src : ByteArray} {vt vn : Value} {nt mt g cap : Nat} {xt xn news : List Value} {w w2 w3 : World}
    (H1 : w.heap[b]? = some (.cells #[.string src, vt, vn] 37)) (H2 : w.ownsRow base 29 3 vt nt xt) (H3 : w.ownsRow base 29 3 vn mt xn) (H4 : ∀ k, vt.ownBlock = some k → vn.ownBlock = some k → False)
    (HB2 : Below w.heap.size w w2) (o : Obj) (HG : (w2.alloc o).grownBy w3 vt.ownBlock)
    (HOWN : w3.ownsRow base 29 3 (.slice (some ⟨g, 0, none⟩) (nt + 1) cap) (nt + 1) (xt ++ news)) (HAT : vt.ownBlock = some g ∨ g = w2.heap.size + 1) :
    (base ≤ b ∧ ∃ vt' vn', (w3.setCell ⟨b, 1, none⟩ (.slice (some ⟨g, 0, none⟩) (nt + 1) cap)).heap[b]? = some (.cells #[.string src, vt', vn'] 37) ∧
      (w3.setCell ⟨b, 1, none⟩ (.slice (some ⟨g, 0, none⟩) (nt + 1) cap)).ownsRow base 29 3 vt' (nt + 1) (xt ++ news) ∧
      (w3.setCell ⟨b, 1, none⟩ (.slice (some ⟨g, 0, none⟩) (nt + 1) cap)).ownsRow base 29 3 vn' mt xn ∧ ∀ k, vt'.ownBlock = some k → vn'.ownBlock = some k → False) ∧
    Frm base b w (w3.setCell ⟨b, 1, none⟩ (.slice (some ⟨g, 0, none⟩) (nt + 1) cap)) := by
  have hlt := lt_of_block H1
  have hlt2 : b < w2.heap.size := Nat.lt_of_lt_of_le hlt HB2.size
  have hne := own_ne H2 H1 (by decide)
  have hnn := own_ne H3 H1 (by decide)
  have hgb : g ≠ b := by
    rintro rfl
    rcases HAT with h | h
    · exact hne h
    · omega
  have hf : w3.heap[b]? = some (.cells #[.string src, vt, vn] 37) := by
    rw [HG.block b (by simp; omega) (fun e => hne e.symm), Below.heap_alloc _ _ _ hlt2, HB2.block b hlt]; exact H1
  have hn3 : w3.ownsRow base 29 3 vn mt xn := by
    refine ((row_kept H3 HB2).alloc o).kept HG ?_
    cases hv : vn.ownBlock with
    | none => exact .inl rfl
    | some k => exact .inr (fun e => H4 k e.symm hv)
  refine ⟨⟨hbb, _, vn, heap_setCell hf _, ?_, ?_, ?_⟩, ?_, ?_⟩
  · refine ownsRow_setCell_other HOWN ?_ _
    simp only [Value.ownBlock]
    exact fun e => hgb (Option.some.inj e)
  · exact ownsRow_setCell_other hn3 hnn _
  · intro k h1 h2
    simp only [Value.ownBlock, Option.some.injEq] at h1
    subst h1
    rcases HAT with h | h
    · exact H4 _ h h2
    · have := (H3.lt _ h2).2
      have := HB2.size
      omega
  · have h1 : Below base w (w2.alloc o) := (HB2.mono (by omega)).alloc (by omega) o
    have h2 : Below base w w3 := h1.grown HG (by simp; omega) (fun k hk => (H2.lt k hk).1)
    exact h2.setCell hbb _
  · have h1 : Lib.OthersKept 29 (some b) w (w2.alloc o) := by
      refine Lib.OthersKept.alloc ?_ o
      intro k x hk _ _
      rw [HB2.block k (lt_of_block hk)]; exact hk
    have h2 : Lib.OthersKept 29 (some b) w w3 := by
      refine h1.grown HG ?_
      intro g' hg'
      rcases ((row_kept H2 HB2).alloc o).2 with ⟨rfl, _⟩ | ⟨g2, c2, cur, rfl, _, hh, _⟩
      · simp [Value.ownBlock] at hg'
      · simp only [Value.ownBlock, Option.some.injEq] at hg'
        subst hg'
        exact ⟨cur, _, hh⟩
    exact h2.setCell _ rfl _

set_option maxHeartbeats 1600000 in
theorem token_ok (base b : Nat) (src : ByteArray) (tk nt : List Tok) (k : Int) (at_ size : Nat) (w : World) (hS : Sc base b src tk nt w) (h0 : size ≠ 0) (h : at_ + size ≤ src.size) (hs : src.size ≤ 1000000) (hl : tk.length ≤ 1000000) :
    Calls Tryd.prog 24 #[.pointer (some ⟨b, 0, none⟩), .int .i64 k, .int .i64 at_, .int .i64 size] w fun e w' =>
      e = .returned (.int .i64 size) ∧ Sc base b src (tk ++ [⟨k, src.extract at_ (at_ + size), at_⟩]) nt w' ∧ Frm base b w w' := by
  obtain ⟨hb, vt, vn, h1, h2, h3, h4⟩ := hS
  have c0 := cell_of h1 0
  have c1 := cell_of h1 1
  have f1 := free_of h1 1
  have hlt := lt_of_block h1
  obtain ⟨i0, hi0, hz0, hz1, hz2⟩ := info_parts info38
  have H1 := Lib.hid h1
  have H2 := Lib.hid h2
  have H3 := Lib.hid h3
  have H4 := Lib.hid h4
  clear h1 h2 h3 h4
  go_enter Tryd.func24, Tryd.ntmps24
  go_wp2_with fail
  have hbw : base ≤ w.heap.size := by omega
  have hne : vt.ownBlock ≠ some b := own_ne H2.out H1.out (by decide)
  go_region_law
    (first
      | (go_simp; go_at_call 31; refine (cut_ok b src k at_ size _ ?_ h0 h hs).mono ?_; (simp [*]); rintro e w2 ⟨rfl, hb2⟩
         have HB2 : Hid (Below w.heap.size w w2) := (⟨rfl, rfl, rfl, Nat.le_refl _, fun _ _ => rfl⟩ : Below w.heap.size w w.drew).trans hb2
         clear hb2
         have g0 : w2.cell? ⟨b, 0, none⟩ = some (.string src) := by rw [HB2.out.cell hlt]; exact cell_of H1.out 0
         have g1 : w2.cell? ⟨b, 1, none⟩ = some vt := by rw [HB2.out.cell hlt]; exact cell_of H1.out 1
         have g2 : w2.frozen? ⟨b, 1, none⟩ = false := by rw [HB2.out.frozen hlt]; exact free_of H1.out 1
         have hlt2 : b < w2.heap.size := Nat.lt_of_lt_of_le hlt HB2.out.size
         have hbw2 : base ≤ w2.heap.size := Nat.le_trans hbw HB2.out.size
         have HO2 : Hid (w2.ownsRow base 29 3 vt tk.length (flat tk)) := H2.out.kept (row := none) ⟨HB2.out.os, HB2.out.tape, HB2.out.output, HB2.out.size, fun k hk _ => HB2.out.block k hk⟩ (by cases vt.ownBlock <;> simp)
         clear c0 c1 f1)
      | ((refine step_append_lies _ (by rfl) _ _ _ (by rfl) base 29 i0 _ 3 32 Tryd.underlying23 hi0 hz0 hz1 hz2 rfl (by omega) vt tk.length (flat tk) (by rfl) (HO2.out.alloc _)
              ⟨w2.heap.size, 0, none⟩ 1 1 [.int .i64 k, .string (src.extract at_ (at_ + size)), .int .i64 at_] (by rfl) (by rfl) (World.news_of_block (cs := #[.int .i64 k, .string (src.extract at_ (at_ + size)), .int .i64 at_]) (t := 29) (fr := (0, 0)) (heap_alloc_new w2 _)) (by simp [Value.oneCell'])
              (by omega) (by unfold maxLen; omega) (by omega) (by simp; omega) (w2.heap.size + 1) (by simp) ?_; intro gg cap w3 hown hgrow hat hlt3
          have hf : w3.heap[b]? = some (.cells #[.string src, vt, vn] 37) := by
            rw [hgrow.block b (by simp; omega) (fun e => hne e.symm), Below.heap_alloc _ _ _ hlt2, HB2.out.block b hlt]; exact H1.out
          have p0 := cell_of hf 0
          have p1 := cell_of hf 1
          have p2 := free_of hf 1
          have HF := Lib.hid hf
          have HOWN := Lib.hid hown
          have HGROW := Lib.hid hgrow
          have HAT := Lib.hid hat
          clear hf hown hgrow hat g0 g1 g2)))
  all_goals
    go_wp2_with fail
    go_ret
    refine ⟨rfl, ?_⟩
    have hd := row_done hb H1.out H2.out H3.out H4.out HB2.out _ HGROW.out HOWN.out HAT.out
    refine ⟨?_, hd.2⟩
    unfold Sc
    rw [flat_snoc, List.length_append]
    exact hd.1

end Go.Proofs.YtghfmfgdcpihfaaDoor
