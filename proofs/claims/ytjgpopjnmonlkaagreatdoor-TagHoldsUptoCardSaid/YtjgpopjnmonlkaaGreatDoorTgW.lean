import Derived.Test.YtjgpopjnmonlkaaGreatDoorTgV
namespace Go.Proofs.YtjgpopjnmonlkaaGreatDoor
open Go.RowKit Go.Shelf
set_option linter.unusedSimpArgs false
set_option linter.unusedVariables false
set_option linter.unusedSectionVars false

/-! Layer 5: the reader: a constraint within so much room. -/
theorem consF_eq (fac : Part) (l : List UInt8) : consF fac l = rowF (rowF fac opAnd) ⟨#[124, 124]⟩ l := rfl
set_option maxHeartbeats 1600000 in
theorem constraint_v (n : Nat) (hf : FacC n) (rb d : Nat) (l : List UInt8) (W : World) (hd : d + n = 100) (h : RdAt W rb l d) (hl : l.length ≤ 1000) :
    Calls Tryz.prog 41 #[.pointer (some ⟨rb, 0, none⟩)] W fun e w' => PartP W rb d (consF (factorF n) l) e w' := by
  have hrl := lt_of_block h
  obtain ⟨W0, hW0⟩ : ∃ W0, (W.alloc (.cells #[.pointer (some ⟨rb, 0, none⟩)] 79)).alloc (.cells #[.string ⟨#[]⟩, .string ⟨#[]⟩, .slice none 0 0] 29) = W0 := ⟨_, rfl⟩
  have hb1 : Below W.heap.size W W0 := by rw [← hW0]; exact ((Below.refl _ _).alloc (Nat.le_refl _) _).alloc (by simp) _
  have hsz0 : W0.heap.size = W.heap.size + 2 := by rw [← hW0]; simp
  have hsz1 : (W.alloc (.cells #[.pointer (some ⟨rb, 0, none⟩)] 79)).heap.size = W.heap.size + 1 := by simp
  have hbox : W0.heap[W.heap.size + 1]? = some (.cells #[.string ⟨#[]⟩, .string ⟨#[]⟩, .slice none 0 0] 29 (0, 0)) := by
    have := heap_alloc_new (W.alloc (.cells #[.pointer (some ⟨rb, 0, none⟩)] 79)) (.cells #[.string ⟨#[]⟩, .string ⟨#[]⟩, .slice none 0 0] 29)
    rw [hsz1] at this
    rw [← hW0]; exact this
  have hptr : W0.heap[W.heap.size]? = some (.cells #[.pointer (some ⟨rb, 0, none⟩)] 79 (0, 0)) := by
    rw [← hW0, Below.heap_alloc _ _ _ (by rw [hsz1]; omega)]
    exact heap_alloc_new W _
  have hcl := cell_of hptr 0
  rw [← hW0] at hcl
  have hop : bs [124, 124] = ⟨#[124, 124]⟩ := rfl
  have hrow := row_or rb l d W0 (rowF (factorF n) opAnd) [124, 124] ⟨W.heap.size, 0, none⟩ (h.below hb1) hl (rowF_len (factorF_len n)) (fun W' l' hg hr' hl' => cons1_v n hf rb d W.heap.size l' W' hd hr' hl' (by
    have e : W'.heap[W.heap.size]? = _ := (hg.block W.heap.size (by omega) (fun e => by cases e; omega)).trans hptr
    exact cell_of e 0))
  rw [hop] at hrow
  have HROW := Lib.hid hrow
  have HW0 := Lib.hid hW0
  have HBOX := Lib.hid hbox
  have HG0 := Lib.hid (grow_of hb1 (some rb))
  rw [consF_eq]
  clear hrow hW0 hbox h hb1 hf hop hptr
  cases hr : rowF (rowF (factorF n) opAnd) ⟨#[124, 124]⟩ l with
  | none =>
    rw [hr] at HROW
    go_enter Tryz.func41, Tryz.ntmps41
    go_wp2_with (go_at_call 54; rw [HW0.out]; (with_reducible refine Calls.mono HROW.out ?_); rintro e w2 ⟨hg2, hth⟩; unfold thrown at hth; subst hth; have HG2 := Lib.hid hg2; clear hg2)
    exact ⟨rfl, HG0.out.trans HG2.out, rfl⟩
  | some xr =>
    obtain ⟨x, r⟩ := xr
    rw [hr] at HROW
    have HBW : Hid (∀ w5, W0.grownBy w5 (some rb) → w5.heap[W.heap.size + 1]? = some (.cells #[.string ⟨#[]⟩, .string ⟨#[]⟩, .slice none 0 0] 29 (0, 0))) := Lib.hid (fun w5 hg => by
      rw [hg.block (W.heap.size + 1) (by omega) (fun e => by cases e; omega)]
      exact HBOX.out)
    go_enter Tryz.func41, Tryz.ntmps41
    go_wp2_with (go_at_call 54; rw [HW0.out]; (with_reducible refine Calls.mono HROW.out ?_); rintro e w2 ⟨hg2, vs, rfl, hx2, hr2⟩; obtain ⟨yo, yt, ya, yn, yc, rfl⟩ := hx2.shape; have hz5 := HBW.out _ hg2; have HG2 := Lib.hid hg2; have HX2 := Lib.hid hx2; have HR2 := Lib.hid hr2; clear hg2 hx2 hr2; have HZ5 := Lib.hid hz5; have y0 := cell_of hz5 0; have y1 := cell_of hz5 1; have y2 := cell_of hz5 2; have u0 := free_of hz5 0; have u1 := free_of hz5 1; have u2 := free_of hz5 2; clear hz5)
    obtain ⟨p1, p2⟩ := put3_at HZ5.out (.string yo) (.string yt) (.slice ya yn yc)
    have hgw : W.grownBy _ (some rb) := grown_new (HG0.out.trans HG2.out) p2 (by omega)
    have hrd := HR2.out.far p2 (by omega)
    have hxw := HX2.out.keep (T := fun b => W.heap.size ≤ b) (W' := put3 _ _ _ _ _) ⟨p2.size, fun b hb hlt => p2.block b hlt (fun e => by cases e; omega)⟩ (fun b hb _ => by omega) _ _
    have r0 := cell_of p1 0
    have r1 := cell_of p1 1
    have r2 := cell_of p1 2
    unfold put3 at *
    refine bodyPost_ret (v := .agg #[.string yo, .string yt, .slice ya yn yc]) ?_ rfl ⟨hgw, ⟨[.string yo, .string yt, .slice ya yn yc], rfl, hxw, hrd⟩⟩
    simp [results, Tryz.results41, go_sem, r0, r1, r2]
theorem dw_twice (q : UInt8 → Bool) : ∀ l : List UInt8, (l.dropWhile q).dropWhile q = l.dropWhile q
  | [] => rfl
  | x :: l => by
    cases hq : q x with
    | true => rw [List.dropWhile_cons, if_pos hq]; exact dw_twice q l
    | false => rw [List.dropWhile_cons, if_neg (by rw [hq]; decide), List.dropWhile_cons, if_neg (by rw [hq]; decide)]
theorem skip_twice (l : List UInt8) : skipF (skipF l) = skipF l := dw_twice _ l
theorem takes_not {sg l : List UInt8} (h : takesB sg l = false) : takesL sg l = skipF l := by
  unfold takesL
  rw [h, if_neg (by decide)]
theorem takes_skip (sg l : List UInt8) : takesB sg (skipF l) = takesB sg l ∧ takesL sg (skipF l) = takesL sg l := by
  unfold takesL takesB
  rw [skip_twice]
  exact ⟨rfl, rfl⟩
theorem tagF_skip (l : List UInt8) : tagF (skipF l) = tagF l := by
  unfold tagF
  rw [skip_twice]
/-- What stands when a constraint is put into its box, and the depth is as it was. -/
theorem fac_facts {w5 : World} {rb d d1 b0 : Nat} {r : List UInt8} {x y z : Value} (hz : w5.heap[b0]? = some (.cells #[x, y, z] 29 (0, 0))) (hr : RdAt w5 rb r d1) (hne : b0 ≠ rb) (v0 v1 v2 : Value) :
    (put3 w5 b0 v0 v1 v2).cell? ⟨rb, 1, none⟩ = some (.int .i64 (d1 : Int)) ∧ (put3 w5 b0 v0 v1 v2).frozen? ⟨rb, 1, none⟩ = false ∧
    ((put3 w5 b0 v0 v1 v2).setCell ⟨rb, 1, none⟩ (.int .i64 (d : Int))).heap[b0]? = some (.cells #[v0, v1, v2] 29 (0, 0)) ∧
    RdAt ((put3 w5 b0 v0 v1 v2).setCell ⟨rb, 1, none⟩ (.int .i64 (d : Int))) rb r d ∧
    (∀ W : World, W.grownBy w5 (some rb) → W.heap.size ≤ b0 → W.grownBy ((put3 w5 b0 v0 v1 v2).setCell ⟨rb, 1, none⟩ (.int .i64 (d : Int))) (some rb)) ∧
    Same (fun b => b ≠ b0 ∧ b ≠ rb) w5 ((put3 w5 b0 v0 v1 v2).setCell ⟨rb, 1, none⟩ (.int .i64 (d : Int))) := by
  obtain ⟨p1, p2⟩ := put3_at hz v0 v1 v2
  have h6 := hr.far p2 hne
  have h7 := rd_set1 h6 d
  refine ⟨cell_of h6 1, free_of h6 1, ?_, h7.1, fun W hg hb => (grown_new hg p2 hb).trans h7.2, Nat.le_trans p2.size h7.2.size, fun b hb hlt => ?_⟩
  rotate_left
  · rw [h7.2.block b (Nat.lt_of_lt_of_le hlt p2.size) (fun e => hb.2 (Option.some.inj e)), p2.block b hlt (fun e => hb.1 (Option.some.inj e))]
  rw [heap_setCell_other _ ⟨rb, 1, none⟩ b0 _ hne]
  exact p1
/-- The same, where what is in the box stands there already. -/
theorem fac_facts2 {w8 : World} {rb d d1 b0 : Nat} {r : List UInt8} {v0 v1 v2 : Value} (hz : w8.heap[b0]? = some (.cells #[v0, v1, v2] 29 (0, 0))) (hr : RdAt w8 rb r d1) (hne : b0 ≠ rb) :
    (w8.setCell ⟨rb, 1, none⟩ (.int .i64 (d : Int))).heap[b0]? = some (.cells #[v0, v1, v2] 29 (0, 0)) ∧
    RdAt (w8.setCell ⟨rb, 1, none⟩ (.int .i64 (d : Int))) rb r d ∧ w8.grownBy (w8.setCell ⟨rb, 1, none⟩ (.int .i64 (d : Int))) (some rb) := by
  have h7 := rd_set1 hr d
  refine ⟨?_, h7.1, h7.2⟩
  rw [heap_setCell_other _ ⟨rb, 1, none⟩ b0 _ hne]
  exact hz
end Go.Proofs.YtjgpopjnmonlkaaGreatDoor
