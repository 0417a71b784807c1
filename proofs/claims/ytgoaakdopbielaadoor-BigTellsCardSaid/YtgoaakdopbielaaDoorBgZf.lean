import Derived.Test.YtgoaakdopbielaaDoorBgZd
namespace Go.Proofs.YtgoaakdopbielaaDoor
open Go.RowKit Go.Shelf
set_option linter.unusedSimpArgs false
set_option linter.unusedVariables false
set_option linter.unusedSectionVars false

/-! Layer 9: the law of orders. -/
theorem cmp_nn (x y : Int) (w : World) (hx : x.natAbs < LIM) (hy : y.natAbs < LIM) :
    Calls Tryd.prog 23 #[.string (nB x), .string (nB y)] w fun e w' => e = .returned (.int .i64 (Lib.compareInt x y)) ∧ Below w.heap.size w w' := by
  have h := Compare_v (nB x) (nB y) w
  rw [(nB_right hx).1, (nB_right hy).1, if_pos (show (true && true) = true from rfl)] at h
  rwa [(nB_right hx).2, (nB_right hy).2] at h
theorem cmp3 (x y : Int) : (x < y ∧ Lib.compareInt x y = -1 ∧ Lib.compareInt y x = 1 ∧ ((nB x).toList == (nB y).toList) = false) ∨ (x = y ∧ Lib.compareInt x y = 0 ∧ Lib.compareInt y x = 0 ∧ ((nB x).toList == (nB y).toList) = true) ∨ (y < x ∧ Lib.compareInt x y = 1 ∧ Lib.compareInt y x = -1 ∧ ((nB x).toList == (nB y).toList) = false) := by
  have hne : x ≠ y → ((nB x).toList == (nB y).toList) = false := by
    intro h
    rw [beq_eq_false_iff_ne, ByteArray.toList_eq, ByteArray.toList_eq]
    intro hh
    exact h (itoa_inj hh)
  unfold Lib.compareInt
  rcases Int.lt_trichotomy x y with h | h | h
  · exact .inl ⟨h, by simp [h], by simp [h, show ¬ y < x by omega], hne (by omega)⟩
  · subst h; exact .inr (.inl ⟨rfl, by simp, by simp, by simp⟩)
  · exact .inr (.inr ⟨h, by simp [h, show ¬ x < y by omega], by simp [h], hne (by omega)⟩)
set_option maxHeartbeats 3200000 in
theorem orders_no (a b c : ByteArray) (w : World) (hE : EnvB w) (h : (rightB a.data.toList && (rightB b.data.toList && rightB c.data.toList)) = false) : Calls Tryd.prog 7 #[.string a, .string b, .string c] w fun e w' => e = .returned (.bool true) ∧ Below w.heap.size w w' := by
  have h1 := fun w => right_v a w
  have h2 := fun w => right_v b w
  have h3 := fun w => right_v c w
  have hA := fun w hE => awake_v w hE
  generalize rightB a.data.toList = P at *
  generalize rightB b.data.toList = Q at *
  generalize rightB c.data.toList = R at *
  have H1 := Lib.hid h1
  have H2 := Lib.hid h2
  have H3 := Lib.hid h3
  have HA := Lib.hid hA
  have HE := Lib.hid hE
  clear h1 h2 h3 hA hE
  obtain rfl | ⟨rfl, rfl⟩ | ⟨rfl, rfl, rfl⟩ : P = false ∨ (P = true ∧ Q = false) ∨ (P = true ∧ Q = true ∧ R = false) := by cases P <;> cases Q <;> cases R <;> simp_all
  all_goals
    clear h
    go_enter Tryd.func7, Tryd.ntmps7
    go_wp2_with (first
      | (go_at_call 21; with_reducible refine Calls.mono (H1.out _) ?_; rintro e w1 ⟨rfl, hb1⟩; have HB1 := Lib.hid hb1; have HE1 := Lib.hid (HE.out.below hb1); clear hb1 H1)
      | (go_at_call 21; with_reducible refine Calls.mono (H2.out _) ?_; rintro e w2 ⟨rfl, hb2⟩; have HB2 := Lib.hid (HB1.out.trans (hb2.mono HB1.out.size)); have HE2 := Lib.hid (HE1.out.below hb2); clear hb2 H2)
      | (go_at_call 21; with_reducible refine Calls.mono (H3.out _) ?_; rintro e w3 ⟨rfl, hb3⟩; have HB3 := Lib.hid (HB2.out.trans (hb3.mono HB2.out.size)); have HE3 := Lib.hid (HE2.out.below hb3); clear hb3 H3)
      | (go_at_call 17; with_reducible refine Calls.mono (HA.out _ (by first | exact HE3.out | exact HE2.out | exact HE1.out)) ?_; rintro e w8 ⟨rfl, hb8⟩; first | have HB8 := Lib.hid (HB3.out.trans (hb8.mono HB3.out.size)) | have HB8 := Lib.hid (HB2.out.trans (hb8.mono HB2.out.size)) | have HB8 := Lib.hid (HB1.out.trans (hb8.mono HB1.out.size)); clear hb8))
    go_ret
    exact ⟨by first | rfl | simp, HB8.out⟩
/-- Three numbers in a row. -/
def Row3 (p q r : Int) (e : Bool) : Prop := (p = -1 ∧ q = 1 ∧ e = false ∨ p = 0 ∧ q = 0 ∧ e = true ∨ p = 1 ∧ q = -1 ∧ e = false)
set_option maxHeartbeats 6400000 in
theorem orders_v (a b c : ByteArray) (w : World) (hE : EnvB w) : Calls Tryd.prog 7 #[.string a, .string b, .string c] w fun e w' => e = .returned (.bool true) ∧ Below w.heap.size w w' := by
  cases h : (rightB a.data.toList && (rightB b.data.toList && rightB c.data.toList)) with
  | false => exact orders_no a b c w hE h
  | true =>
    rw [Bool.and_eq_true, Bool.and_eq_true] at h
    have h1 := fun w => right_v a w
    have h2 := fun w => right_v b w
    have h3 := fun w => right_v c w
    have hA := fun w hE => awake_v w hE
    rw [h.1] at h1
    rw [h.2.1] at h2
    rw [h.2.2] at h3
    obtain ⟨x, hx, rfl⟩ := nB_of h.1
    obtain ⟨y, hy, rfl⟩ := nB_of h.2.1
    obtain ⟨z, hz, rfl⟩ := nB_of h.2.2
    clear h
    have k1 := fun w => cmp_nn x y w hx hy
    have k2 := fun w => cmp_nn y z w hy hz
    have k3 := fun w => cmp_nn x z w hx hz
    have k4 := fun w => cmp_nn y x w hy hx
    have hxy := cmp3 x y
    have hyz := cmp3 y z
    have hxz := cmp3 x z
    generalize nB x = A at *
    generalize nB y = B at *
    generalize nB z = C at *
    have HE := Lib.hid hE
    have HA := Lib.hid hA
    have H1 := Lib.hid h1
    have H2 := Lib.hid h2
    have H3 := Lib.hid h3
    clear h1 h2 h3 hA hE hx hy hz
    rcases hxy with ⟨l1, e1, e2, e3⟩ | ⟨l1, e1, e2, e3⟩ | ⟨l1, e1, e2, e3⟩ <;> rcases hyz with ⟨l2, e4, _, _⟩ | ⟨l2, e4, _, _⟩ | ⟨l2, e4, _, _⟩ <;> rcases hxz with ⟨l3, e5, _, _⟩ | ⟨l3, e5, _, _⟩ | ⟨l3, e5, _, _⟩ <;> first | (exfalso; omega) | skip
    all_goals
      clear l1 l2 l3
      rw [e1] at k1
      rw [e4] at k2
      rw [e5] at k3
      rw [e2] at k4
      have K1 := Lib.hid k1
      have K2 := Lib.hid k2
      have K3 := Lib.hid k3
      have K4 := Lib.hid k4
      clear k1 k2 k3 k4 e1 e2 e4 e5
      try clear ‹Lib.compareInt _ _ = _›
      go_enter Tryd.func7, Tryd.ntmps7
      go_wp2_with (first
        | (go_at_call 21; with_reducible refine Calls.mono (H1.out _) ?_; rintro e w1 ⟨rfl, hb1⟩; have HB1 := Lib.hid hb1; have HE1 := Lib.hid (HE.out.below hb1); clear hb1 H1)
        | (go_at_call 21; with_reducible refine Calls.mono (H2.out _) ?_; rintro e w2 ⟨rfl, hb2⟩; have HB2 := Lib.hid (HB1.out.trans (hb2.mono HB1.out.size)); have HE2 := Lib.hid (HE1.out.below hb2); clear hb2 H2)
        | (go_at_call 21; with_reducible refine Calls.mono (H3.out _) ?_; rintro e w3 ⟨rfl, hb3⟩; have HB3 := Lib.hid (HB2.out.trans (hb3.mono HB2.out.size)); have HE3 := Lib.hid (HE2.out.below hb3); clear hb3 H3)
        | (go_at_call 23; with_reducible refine Calls.mono (K1.out _) ?_; rintro e w4 ⟨rfl, hb4⟩; have HB4 := Lib.hid (HB3.out.trans (hb4.mono HB3.out.size)); have HE4 := Lib.hid (HE3.out.below hb4); clear hb4 K1)
        | (go_at_call 23; with_reducible refine Calls.mono (K2.out _) ?_; rintro e w5 ⟨rfl, hb5⟩; have HB5 := Lib.hid (HB4.out.trans (hb5.mono HB4.out.size)); have HE5 := Lib.hid (HE4.out.below hb5); clear hb5 K2)
        | (go_at_call 23; with_reducible refine Calls.mono (K3.out _) ?_; rintro e w6 ⟨rfl, hb6⟩; have HB6 := Lib.hid (HB5.out.trans (hb6.mono HB5.out.size)); have HE6 := Lib.hid (HE5.out.below hb6); clear hb6 K3)
        | (go_at_call 23; with_reducible refine Calls.mono (K4.out _) ?_; rintro e w7 ⟨rfl, hb7⟩; have HB7 := Lib.hid (HB6.out.trans (hb7.mono HB6.out.size)); have HE7 := Lib.hid (HE6.out.below hb7); clear hb7 K4)
        | (go_at_call 17; with_reducible refine Calls.mono (HA.out _ HE7.out) ?_; rintro e w8 ⟨rfl, hb8⟩; have HB8 := Lib.hid (HB7.out.trans (hb8.mono HB7.out.size)); clear hb8))
      go_ret
      exact ⟨by first | rfl | simp, HB8.out⟩
end Go.Proofs.YtgoaakdopbielaaDoor
