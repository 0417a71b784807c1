import Derived.Test.YtghfmfgdcpihfaaDoorTkG
namespace Go.Proofs.YtghfmfgdcpihfaaDoor
open Go.RowKit
set_option linter.unusedSimpArgs false
set_option linter.unusedVariables false
set_option linter.unusedSectionVars false

set_option maxHeartbeats 400000 in
theorem note_zero (b : Nat) (at_ : Nat) (w : World) :
    Calls Tryd.prog 18 #[.pointer (some ⟨b, 0, none⟩), .int .i64 at_, .int .i64 0] w fun e w' =>
      e = .panicked [{ v := .iface 34 (.int .i64 at_), recovered := false }] ∧ Below w.heap.size w w' := by
  go_enter Tryd.func18, Tryd.ntmps18
  go_wp2_with (go_at_call 31; refine (cut_zero b 0 at_ _).mono ?_; rintro e w2 ⟨rfl, hb2⟩)
  exact ⟨rfl, rfl, hb2⟩

/-- What is left behind an append to a scanner's notes. -/
theorem note_done {base b : Nat} (hbb : base ≤ b) {src : ByteArray} {vt vn : Value} {nt mt g cap : Nat} {xt xn news : List Value} {w w2 w3 : World}
    (H1 : w.heap[b]? = some (.cells #[.string src, vt, vn] 37)) (H2 : w.ownsRow base 29 3 vt nt xt) (H3 : w.ownsRow base 29 3 vn mt xn) (H4 : ∀ k, vt.ownBlock = some k → vn.ownBlock = some k → False)
    (HB2 : Below w.heap.size w w2) (o : Obj) (HG : (w2.alloc o).grownBy w3 vn.ownBlock)
    (HOWN : w3.ownsRow base 29 3 (.slice (some ⟨g, 0, none⟩) (mt + 1) cap) (mt + 1) (xn ++ news)) (HAT : vn.ownBlock = some g ∨ g = w2.heap.size + 1) :
    (base ≤ b ∧ ∃ vt' vn', (w3.setCell ⟨b, 2, none⟩ (.slice (some ⟨g, 0, none⟩) (mt + 1) cap)).heap[b]? = some (.cells #[.string src, vt', vn'] 37) ∧
      (w3.setCell ⟨b, 2, none⟩ (.slice (some ⟨g, 0, none⟩) (mt + 1) cap)).ownsRow base 29 3 vt' nt xt ∧
      (w3.setCell ⟨b, 2, none⟩ (.slice (some ⟨g, 0, none⟩) (mt + 1) cap)).ownsRow base 29 3 vn' (mt + 1) (xn ++ news) ∧ ∀ k, vt'.ownBlock = some k → vn'.ownBlock = some k → False) ∧
    Frm base b w (w3.setCell ⟨b, 2, none⟩ (.slice (some ⟨g, 0, none⟩) (mt + 1) cap)) := by
  have hlt := lt_of_block H1
  have hlt2 : b < w2.heap.size := Nat.lt_of_lt_of_le hlt HB2.size
  have hne := own_ne H2 H1 (by decide)
  have hnn := own_ne H3 H1 (by decide)
  have hgb : g ≠ b := by
    rintro rfl
    rcases HAT with h | h
    · exact hnn h
    · omega
  have hf : w3.heap[b]? = some (.cells #[.string src, vt, vn] 37) := by
    rw [HG.block b (by simp; omega) (fun e => hnn e.symm), Below.heap_alloc _ _ _ hlt2, HB2.block b hlt]; exact H1
  have ht3 : w3.ownsRow base 29 3 vt nt xt := by
    refine ((row_kept H2 HB2).alloc o).kept HG ?_
    cases hv : vt.ownBlock with
    | none => exact .inl rfl
    | some k => exact .inr (fun e => H4 k hv e.symm)
  refine ⟨⟨hbb, vt, _, heap_setCell hf _, ?_, ?_, ?_⟩, ?_, ?_⟩
  · exact ownsRow_setCell_other ht3 hne _
  · refine ownsRow_setCell_other HOWN ?_ _
    simp only [Value.ownBlock]
    exact fun e => hgb (Option.some.inj e)
  · intro k h1 h2
    simp only [Value.ownBlock, Option.some.injEq] at h2
    subst h2
    rcases HAT with h | h
    · exact H4 _ h1 h
    · have := (H2.lt _ h1).2
      have := HB2.size
      omega
  · have h1 : Below base w (w2.alloc o) := (HB2.mono (by omega)).alloc (by omega) o
    have h2 : Below base w w3 := h1.grown HG (by simp; omega) (fun k hk => (H3.lt k hk).1)
    exact h2.setCell hbb _
  · have h1 : Lib.OthersKept 29 (some b) w (w2.alloc o) := by
      refine Lib.OthersKept.alloc ?_ o
      intro k x hk _ _
      rw [HB2.block k (lt_of_block hk)]; exact hk
    have h2 : Lib.OthersKept 29 (some b) w w3 := by
      refine h1.grown HG ?_
      intro g' hg'
      rcases ((row_kept H3 HB2).alloc o).2 with ⟨rfl, _⟩ | ⟨g2, c2, cur, rfl, _, hh, _⟩
      · simp [Value.ownBlock] at hg'
      · simp only [Value.ownBlock, Option.some.injEq] at hg'
        subst hg'
        exact ⟨cur, _, hh⟩
    exact h2.setCell _ rfl _

/-- The tokens behind a note. -/
def noteF (tk : List Tok) (s : ByteArray) (at_ : Nat) : List Tok := if 0 ≤ Lib.indexByte s.data.toList 10 then endF tk at_ else tk
theorem noteF_yes {tk : List Tok} {s : ByteArray} {at_ : Nat} (h : decide (0 ≤ Lib.indexByte s.data.toList 10) = true) : noteF tk s at_ = endF tk at_ := by simp at h; simp [noteF, h]
theorem noteF_no {tk : List Tok} {s : ByteArray} {at_ : Nat} (h : decide (0 ≤ Lib.indexByte s.data.toList 10) = false) : noteF tk s at_ = tk := by simp at h; simp [noteF]; omega

set_option maxHeartbeats 1600000 in
theorem note_ok (base b : Nat) (src : ByteArray) (tk nt : List Tok) (at_ size : Nat) (w : World) (hS : Sc base b src tk nt w) (h0 : size ≠ 0) (h : at_ + size ≤ src.size) (hs : src.size ≤ 1000000) (hl : tk.length ≤ 1000000) (hm : nt.length ≤ 1000000) :
    Calls Tryd.prog 18 #[.pointer (some ⟨b, 0, none⟩), .int .i64 at_, .int .i64 size] w fun e w' =>
      e = .returned (.int .i64 size) ∧ Sc base b src (noteF tk (src.extract at_ (at_ + size)) at_) (nt ++ [⟨0, src.extract at_ (at_ + size), at_⟩]) w' ∧ Frm base b w w' := by
  have HS := Lib.hid hS
  obtain ⟨hb, vt0, vn0, h1, h2, h3, h4⟩ := hS
  have c0 := cell_of h1 0
  have hlt := lt_of_block h1
  obtain ⟨i0, hi0, hz0, hz1, hz2⟩ := info_parts info38
  have HH1 := Lib.hid h1
  have HH2 := Lib.hid h2
  clear h1 h2 h3 h4
  go_enter Tryd.func18, Tryd.ntmps18
  go_wp2_with fail
  go_at_call 31
  refine (cut_ok b src 0 at_ size _ c0 h0 h hs).mono ?_
  rintro e w2 ⟨rfl, hb2⟩
  have HB2 := Lib.hid hb2
  clear hb2
  generalize htx : src.extract at_ (at_ + size) = tx
  go_wp2_with fail
  go_at_call 32
  refine (Tryd.strings_Contains_one tx 10 _).mono ?_
  rintro e w3 ⟨rfl, hw3⟩
  have hb3 : Below w.heap.size w w3 := by rw [hw3]; exact HB2.out.alloc HB2.out.size _
  have a0 : w3.cell? ⟨w2.heap.size, 0, none⟩ = some (.int .i64 0) := by rw [hw3]; exact cell_of (heap_alloc_new w2 _) 0
  have a1 : w3.cell? ⟨w2.heap.size, 1, none⟩ = some (.string tx) := by rw [hw3]; exact cell_of (heap_alloc_new w2 _) 1
  have a2 : w3.cell? ⟨w2.heap.size, 2, none⟩ = some (.int .i64 at_) := by rw [hw3]; exact cell_of (heap_alloc_new w2 _) 2
  have hz3 : w2.heap.size < w3.heap.size := by rw [hw3]; simp
  have HB3 := Lib.hid hb3
  have HS3 := Lib.hid (HS.out.keep hb3)
  clear hb3 hw3
  cases hcb : decide (0 ≤ Lib.indexByte tx.data.toList 10) with
  | false =>
    obtain ⟨_, vt, vn, h1, h2, h3, h4⟩ := HS3.out
    have c2 := cell_of h1 2
    have f2 := free_of h1 2
    have H1 := Lib.hid h1
    have H2 := Lib.hid h2
    have H3 := Lib.hid h3
    have H4 := Lib.hid h4
    clear h1 h2 h3 h4
    have HBD : Hid (Below w3.heap.size w3 w3.drew) := Lib.hid ⟨rfl, rfl, rfl, Nat.le_refl _, fun _ _ => rfl⟩
    have HO3 : Hid (w3.drew.ownsRow base 29 3 vn nt.length (flat nt)) := Lib.hid (row_kept H3.out HBD.out)
    have hnn : vn.ownBlock ≠ some b := own_ne H3.out H1.out (by decide)
    have hlt3 : b < w3.heap.size := lt_of_block H1.out
    have hwb : base ≤ w3.heap.size := by omega
    have HDB : Hid (∀ o, (w3.drew.alloc o).heap[b]? = some (.cells #[.string src, vt, vn] 37)) := Lib.hid fun o => by rw [Below.heap_alloc _ _ _ (by simpa using hlt3)]; exact H1.out
    go_wp2_with (with_reducible refine stop_region ?_)
    refine Lib.hid ?_
    go_region_law
      (refine step_append_lies _ (by rfl) _ _ _ (by rfl) base 29 i0 _ 3 32 Tryd.underlying23 hi0 hz0 hz1 hz2 rfl (by omega) vn nt.length (flat nt) (by rfl) (HO3.out.alloc _)
              ⟨w3.heap.size, 0, none⟩ 1 1 [.int .i64 0, .string tx, .int .i64 at_] (by rfl) (by rfl) (World.news_of_block (cs := #[.int .i64 0, .string tx, .int .i64 at_]) (t := 29) (fr := (0, 0)) (heap_alloc_new w3.drew _)) (by simp [Value.oneCell'])
              (by omega) (by unfold maxLen; omega) (by omega) (by simp; omega) (w3.heap.size + 1) (by simp) ?_
       intro gg cap w4 hown hgrow hat hlt4
       have HGROW : Hid ((w3.drew.alloc (.cells #[.int .i64 0, .string tx, .int .i64 at_] 29)).grownBy w4 vn.ownBlock) := Lib.hid hgrow
       have hf : w4.heap[b]? = some (.cells #[.string src, vt, vn] 37) := by
         rw [HGROW.out.block b (by simp; omega) (fun e => hnn e.symm)]; exact HDB.out _
       have p0 := cell_of hf 0
       have p1 := cell_of hf 2
       have p2 := free_of hf 2
       have HF := Lib.hid hf
       have HOWN := Lib.hid hown
       have HAT := Lib.hid hat
       clear hf hown hgrow hat c2 f2)
    all_goals
      go_wp2_with fail
      go_ret
      refine ⟨rfl, ?_⟩
      have hd := note_done hb H1.out H2.out H3.out H4.out HBD.out _ HGROW.out HOWN.out HAT.out
      refine ⟨?_, (Frm.of_below HB3.out (by omega)).trans hd.2⟩
      rw [htx, noteF_no hcb]
      unfold Sc
      rw [flat_snoc nt, List.length_append]
      exact hd.1
  | true =>
    go_wp2_with (go_at_call 14; refine (endLine_any base b src tk nt at_ _ HS3.out hl).mono ?_; rintro e w4 ⟨rfl, hs4, hf4, hk4⟩)
    have hne : ∀ i : Nat, w4.cell? ⟨w2.heap.size, i, none⟩ = w3.cell? ⟨w2.heap.size, i, none⟩ := by
      intro i
      have : w4.heap[w2.heap.size]? = w3.heap[w2.heap.size]? := by
        refine hk4.block _ hz3 ?_
        rintro (h | ⟨v, hv, ho⟩)
        · have := HB2.out.size; omega
        · have e1 : v = vt0 := by
            have := HB3.out.cell (p := ⟨b, 1, none⟩) hlt
            rw [this, cell_of HH1.out 1] at hv
            simpa using hv.symm
          have := (HH2.out.lt _ (e1 ▸ ho)).2
          have := HB2.out.size
          omega
      unfold World.cell?
      simp only [this]
    rw [← hne] at a0 a1 a2
    have HF3 : Hid (Frm base b w w4) := Lib.hid ((Frm.of_below HB3.out (by omega)).trans hf4)
    have HS4 := Lib.hid hs4
    have hz4 := Nat.lt_of_lt_of_le hz3 hk4.size
    clear hs4 hf4 hk4 hne HB3 HS3
    generalize he : endF tk at_ = tk' at HS4
    obtain ⟨_, vt, vn, h1, h2, h3, h4⟩ := HS4.out
    have c2 := cell_of h1 2
    have f2 := free_of h1 2
    have H1 := Lib.hid h1
    have H2 := Lib.hid h2
    have H3 := Lib.hid h3
    have H4 := Lib.hid h4
    clear h1 h2 h3 h4
    have HBD : Hid (Below w4.heap.size w4 w4.drew) := Lib.hid ⟨rfl, rfl, rfl, Nat.le_refl _, fun _ _ => rfl⟩
    have HO3 : Hid (w4.drew.ownsRow base 29 3 vn nt.length (flat nt)) := Lib.hid (row_kept H3.out HBD.out)
    have hnn : vn.ownBlock ≠ some b := own_ne H3.out H1.out (by decide)
    have hlt3 : b < w4.heap.size := lt_of_block H1.out
    have hwb : base ≤ w4.heap.size := by omega
    have HDB : Hid (∀ o, (w4.drew.alloc o).heap[b]? = some (.cells #[.string src, vt, vn] 37)) := Lib.hid fun o => by rw [Below.heap_alloc _ _ _ (by simpa using hlt3)]; exact H1.out
    go_wp2_with (with_reducible refine stop_region ?_)
    refine Lib.hid ?_
    go_region_law
      (refine step_append_lies _ (by rfl) _ _ _ (by rfl) base 29 i0 _ 3 32 Tryd.underlying23 hi0 hz0 hz1 hz2 rfl (by omega) vn nt.length (flat nt) (by rfl) (HO3.out.alloc _)
              ⟨w4.heap.size, 0, none⟩ 1 1 [.int .i64 0, .string tx, .int .i64 at_] (by rfl) (by rfl) (World.news_of_block (cs := #[.int .i64 0, .string tx, .int .i64 at_]) (t := 29) (fr := (0, 0)) (heap_alloc_new w4.drew _)) (by simp [Value.oneCell'])
              (by omega) (by unfold maxLen; omega) (by omega) (by simp; omega) (w4.heap.size + 1) (by simp) ?_
       intro gg cap w5 hown hgrow hat hlt4
       have HGROW : Hid ((w4.drew.alloc (.cells #[.int .i64 0, .string tx, .int .i64 at_] 29)).grownBy w5 vn.ownBlock) := Lib.hid hgrow
       have hf : w5.heap[b]? = some (.cells #[.string src, vt, vn] 37) := by
         rw [HGROW.out.block b (by simp; omega) (fun e => hnn e.symm)]; exact HDB.out _
       have p0 := cell_of hf 0
       have p1 := cell_of hf 2
       have p2 := free_of hf 2
       have HF := Lib.hid hf
       have HOWN := Lib.hid hown
       have HAT := Lib.hid hat
       clear hf hown hgrow hat c2 f2)
    all_goals
      go_wp2_with fail
      go_ret
      refine ⟨rfl, ?_⟩
      have hd := note_done hb H1.out H2.out H3.out H4.out HBD.out _ HGROW.out HOWN.out HAT.out
      refine ⟨?_, HF3.out.trans hd.2⟩
      rw [htx, noteF_yes hcb, he]
      unfold Sc
      rw [flat_snoc nt, List.length_append]
      exact hd.1
end Go.Proofs.YtghfmfgdcpihfaaDoor
