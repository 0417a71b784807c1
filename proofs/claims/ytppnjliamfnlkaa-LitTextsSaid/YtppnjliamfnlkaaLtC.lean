import Derived.Test.YtppnjliamfnlkaaLtB
import Derived.Test.YtppnjliamfnlkaaPlB
namespace Go.Proofs.Ytppnjliamfnlkaa
open Go.RowKit
set_option linter.unusedSimpArgs false
set_option linter.unusedVariables false

/-- What stands ahead of a number's digits: the base, how many bytes it has; none: what begins so is no number. -/
def splitF (s : ByteArray) : Option (Nat × Nat) :=
  if pre s ⟨#[48, 120]⟩ then some (16, 2)
  else if pre s ⟨#[48, 88]⟩ then some (16, 2)
  else if pre s ⟨#[48, 98]⟩ then some (2, 2)
  else if pre s ⟨#[48, 66]⟩ then some (2, 2)
  else if pre s ⟨#[48, 111]⟩ then some (8, 2)
  else if pre s ⟨#[48, 79]⟩ then some (8, 2)
  else if pre s ⟨#[48]⟩ && !(s.toList == [48]) then some (8, 1)
  else if pre s ⟨#[95]⟩ then none
  else some (10, 0)
theorem pre_size {s p : ByteArray} (h : pre s p = true) : p.size ≤ s.size := by
  unfold pre at h
  simp only [Bool.and_eq_true, decide_eq_true_eq] at h
  exact h.1
theorem ofL0 {s : ByteArray} {l : List UInt8} (h : s.toList = l) : s = ⟨l.toArray⟩ := by
  apply ByteArray.ext
  rw [Lib.toList_data] at h
  apply Array.toList_inj.1
  rw [h]
theorem ext_zero (x : ByteArray) : x.extract 0 x.size = x := by
  apply ByteArray.ext
  apply Array.toList_inj.1
  rw [Lib.extract_data]
  exact List.take_of_length_le (by simp)

set_option maxHeartbeats 6400000 in
theorem split_any (s : ByteArray) (w : World) (hs : s.size ≤ 4611686018427387904) :
    Calls Try.prog 28 #[.string s] w fun e w' => (match splitF s with
      | some (b, n) => e = .returned (.tuple #[.int .u32 b, .string (s.extract n s.size)])
      | none => e = thrown 4) ∧ Below w.heap.size w w' := by
  have h0 := hp_any s ⟨#[48, 120]⟩ w (by omega) (by decide)
  have z0 := @pre_size s ⟨#[48, 120]⟩
  have h1 := hp_any s ⟨#[48, 88]⟩ w (by omega) (by decide)
  have z1 := @pre_size s ⟨#[48, 88]⟩
  have h2 := hp_any s ⟨#[48, 98]⟩ w (by omega) (by decide)
  have z2 := @pre_size s ⟨#[48, 98]⟩
  have h3 := hp_any s ⟨#[48, 66]⟩ w (by omega) (by decide)
  have z3 := @pre_size s ⟨#[48, 66]⟩
  have h4 := hp_any s ⟨#[48, 111]⟩ w (by omega) (by decide)
  have z4 := @pre_size s ⟨#[48, 111]⟩
  have h5 := hp_any s ⟨#[48, 79]⟩ w (by omega) (by decide)
  have z5 := @pre_size s ⟨#[48, 79]⟩
  have h6 := hp_any s ⟨#[48]⟩ w (by omega) (by decide)
  have z6 := @pre_size s ⟨#[48]⟩
  have h7 := hp_any s ⟨#[95]⟩ w (by omega) (by decide)
  cases c0 : pre s ⟨#[48, 120]⟩ with
  | true =>
    have hS : splitF s = some (16, 2) := by unfold splitF; simp only [c0, Bool.false_eq_true, if_false, if_true]
    rw [hS]
    rw [c0] at h0
    have hsz : 2 ≤ s.size := z0 c0
    clear z0 z1 z2 z3 z4 z5 z6 h7
    go_enter Try.func28, Try.ntmps28
    go_wp2_with (first | (go_at_call 40; with_reducible refine Calls.mono h0 ?_; rintro e w2 ⟨rfl, hw2⟩; replace hw2 := hw2.symm; subst hw2))
    first
      | (go_ret2
         exact ⟨rfl, Below.refl _ _⟩)
      | (go_region
         all_goals
           go_wp2_with fail
           go_ret2
           exact ⟨rfl, (Below.refl _ _).drew⟩)
  | false =>
  cases c1 : pre s ⟨#[48, 88]⟩ with
  | true =>
    have hS : splitF s = some (16, 2) := by unfold splitF; simp only [c0, c1, Bool.false_eq_true, if_false, if_true]
    rw [hS]
    rw [c0] at h0
    rw [c1] at h1
    have hsz : 2 ≤ s.size := z1 c1
    clear z0 z1 z2 z3 z4 z5 z6 h7
    go_enter Try.func28, Try.ntmps28
    go_wp2_with (first | (go_at_call 40; with_reducible refine Calls.mono h0 ?_; rintro e w2 ⟨rfl, hw2⟩; replace hw2 := hw2.symm; subst hw2) | (go_at_call 40; with_reducible refine Calls.mono h1 ?_; rintro e w2 ⟨rfl, hw2⟩; replace hw2 := hw2.symm; subst hw2))
    first
      | (go_ret2
         exact ⟨rfl, Below.refl _ _⟩)
      | (go_region
         all_goals
           go_wp2_with fail
           go_ret2
           exact ⟨rfl, (Below.refl _ _).drew⟩)
  | false =>
  cases c2 : pre s ⟨#[48, 98]⟩ with
  | true =>
    have hS : splitF s = some (2, 2) := by unfold splitF; simp only [c0, c1, c2, Bool.false_eq_true, if_false, if_true]
    rw [hS]
    rw [c0] at h0
    rw [c1] at h1
    rw [c2] at h2
    have hsz : 2 ≤ s.size := z2 c2
    clear z0 z1 z2 z3 z4 z5 z6 h7
    go_enter Try.func28, Try.ntmps28
    go_wp2_with (first | (go_at_call 40; with_reducible refine Calls.mono h0 ?_; rintro e w2 ⟨rfl, hw2⟩; replace hw2 := hw2.symm; subst hw2) | (go_at_call 40; with_reducible refine Calls.mono h1 ?_; rintro e w2 ⟨rfl, hw2⟩; replace hw2 := hw2.symm; subst hw2) | (go_at_call 40; with_reducible refine Calls.mono h2 ?_; rintro e w2 ⟨rfl, hw2⟩; replace hw2 := hw2.symm; subst hw2))
    first
      | (go_ret2
         exact ⟨rfl, Below.refl _ _⟩)
      | (go_region
         all_goals
           go_wp2_with fail
           go_ret2
           exact ⟨rfl, (Below.refl _ _).drew⟩)
  | false =>
  cases c3 : pre s ⟨#[48, 66]⟩ with
  | true =>
    have hS : splitF s = some (2, 2) := by unfold splitF; simp only [c0, c1, c2, c3, Bool.false_eq_true, if_false, if_true]
    rw [hS]
    rw [c0] at h0
    rw [c1] at h1
    rw [c2] at h2
    rw [c3] at h3
    have hsz : 2 ≤ s.size := z3 c3
    clear z0 z1 z2 z3 z4 z5 z6 h7
    go_enter Try.func28, Try.ntmps28
    go_wp2_with (first | (go_at_call 40; with_reducible refine Calls.mono h0 ?_; rintro e w2 ⟨rfl, hw2⟩; replace hw2 := hw2.symm; subst hw2) | (go_at_call 40; with_reducible refine Calls.mono h1 ?_; rintro e w2 ⟨rfl, hw2⟩; replace hw2 := hw2.symm; subst hw2) | (go_at_call 40; with_reducible refine Calls.mono h2 ?_; rintro e w2 ⟨rfl, hw2⟩; replace hw2 := hw2.symm; subst hw2) | (go_at_call 40; with_reducible refine Calls.mono h3 ?_; rintro e w2 ⟨rfl, hw2⟩; replace hw2 := hw2.symm; subst hw2))
    first
      | (go_ret2
         exact ⟨rfl, Below.refl _ _⟩)
      | (go_region
         all_goals
           go_wp2_with fail
           go_ret2
           exact ⟨rfl, (Below.refl _ _).drew⟩)
  | false =>
  cases c4 : pre s ⟨#[48, 111]⟩ with
  | true =>
    have hS : splitF s = some (8, 2) := by unfold splitF; simp only [c0, c1, c2, c3, c4, Bool.false_eq_true, if_false, if_true]
    rw [hS]
    rw [c0] at h0
    rw [c1] at h1
    rw [c2] at h2
    rw [c3] at h3
    rw [c4] at h4
    have hsz : 2 ≤ s.size := z4 c4
    clear z0 z1 z2 z3 z4 z5 z6 h7
    go_enter Try.func28, Try.ntmps28
    go_wp2_with (first | (go_at_call 40; with_reducible refine Calls.mono h0 ?_; rintro e w2 ⟨rfl, hw2⟩; replace hw2 := hw2.symm; subst hw2) | (go_at_call 40; with_reducible refine Calls.mono h1 ?_; rintro e w2 ⟨rfl, hw2⟩; replace hw2 := hw2.symm; subst hw2) | (go_at_call 40; with_reducible refine Calls.mono h2 ?_; rintro e w2 ⟨rfl, hw2⟩; replace hw2 := hw2.symm; subst hw2) | (go_at_call 40; with_reducible refine Calls.mono h3 ?_; rintro e w2 ⟨rfl, hw2⟩; replace hw2 := hw2.symm; subst hw2) | (go_at_call 40; with_reducible refine Calls.mono h4 ?_; rintro e w2 ⟨rfl, hw2⟩; replace hw2 := hw2.symm; subst hw2))
    first
      | (go_ret2
         exact ⟨rfl, Below.refl _ _⟩)
      | (go_region
         all_goals
           go_wp2_with fail
           go_ret2
           exact ⟨rfl, (Below.refl _ _).drew⟩)
  | false =>
  cases c5 : pre s ⟨#[48, 79]⟩ with
  | true =>
    have hS : splitF s = some (8, 2) := by unfold splitF; simp only [c0, c1, c2, c3, c4, c5, Bool.false_eq_true, if_false, if_true]
    rw [hS]
    rw [c0] at h0
    rw [c1] at h1
    rw [c2] at h2
    rw [c3] at h3
    rw [c4] at h4
    rw [c5] at h5
    have hsz : 2 ≤ s.size := z5 c5
    clear z0 z1 z2 z3 z4 z5 z6 h7
    go_enter Try.func28, Try.ntmps28
    go_wp2_with (first | (go_at_call 40; with_reducible refine Calls.mono h0 ?_; rintro e w2 ⟨rfl, hw2⟩; replace hw2 := hw2.symm; subst hw2) | (go_at_call 40; with_reducible refine Calls.mono h1 ?_; rintro e w2 ⟨rfl, hw2⟩; replace hw2 := hw2.symm; subst hw2) | (go_at_call 40; with_reducible refine Calls.mono h2 ?_; rintro e w2 ⟨rfl, hw2⟩; replace hw2 := hw2.symm; subst hw2) | (go_at_call 40; with_reducible refine Calls.mono h3 ?_; rintro e w2 ⟨rfl, hw2⟩; replace hw2 := hw2.symm; subst hw2) | (go_at_call 40; with_reducible refine Calls.mono h4 ?_; rintro e w2 ⟨rfl, hw2⟩; replace hw2 := hw2.symm; subst hw2) | (go_at_call 40; with_reducible refine Calls.mono h5 ?_; rintro e w2 ⟨rfl, hw2⟩; replace hw2 := hw2.symm; subst hw2))
    first
      | (go_ret2
         exact ⟨rfl, Below.refl _ _⟩)
      | (go_region
         all_goals
           go_wp2_with fail
           go_ret2
           exact ⟨rfl, (Below.refl _ _).drew⟩)
  | false =>
  cases c6 : pre s ⟨#[48]⟩ with
  | true =>
    by_cases hz : s.toList = [48]
    · have c7 : pre s ⟨#[95]⟩ = false := by
        have := ofL0 hz
        rw [this]; decide +kernel
      have hS : splitF s = some (10, 0) := by unfold splitF; rw [hz]; simp only [c0, c1, c2, c3, c4, c5, c6, c7, Bool.false_eq_true, if_false, if_true, beq_self_eq_true, Bool.not_true, Bool.and_false]
      rw [hS]
      rw [c0] at h0
      rw [c1] at h1
      rw [c2] at h2
      rw [c3] at h3
      rw [c4] at h4
      rw [c5] at h5
      rw [c6] at h6
      rw [c7] at h7
      have hz2 : (s.toList != [48]) = false := by simpa using hz
      have hx := ext_zero s
      clear z0 z1 z2 z3 z4 z5 z6
      go_enter Try.func28, Try.ntmps28
      go_wp2_with (first | (go_at_call 40; with_reducible refine Calls.mono h0 ?_; rintro e w2 ⟨rfl, hw2⟩; replace hw2 := hw2.symm; subst hw2) | (go_at_call 40; with_reducible refine Calls.mono h1 ?_; rintro e w2 ⟨rfl, hw2⟩; replace hw2 := hw2.symm; subst hw2) | (go_at_call 40; with_reducible refine Calls.mono h2 ?_; rintro e w2 ⟨rfl, hw2⟩; replace hw2 := hw2.symm; subst hw2) | (go_at_call 40; with_reducible refine Calls.mono h3 ?_; rintro e w2 ⟨rfl, hw2⟩; replace hw2 := hw2.symm; subst hw2) | (go_at_call 40; with_reducible refine Calls.mono h4 ?_; rintro e w2 ⟨rfl, hw2⟩; replace hw2 := hw2.symm; subst hw2) | (go_at_call 40; with_reducible refine Calls.mono h5 ?_; rintro e w2 ⟨rfl, hw2⟩; replace hw2 := hw2.symm; subst hw2) | (go_at_call 40; with_reducible refine Calls.mono h6 ?_; rintro e w2 ⟨rfl, hw2⟩; replace hw2 := hw2.symm; subst hw2) | (go_at_call 40; with_reducible refine Calls.mono h7 ?_; rintro e w2 ⟨rfl, hw2⟩; replace hw2 := hw2.symm; subst hw2) | (go_at_call 19; with_reducible refine Calls.mono (need_yes _ _) ?_; rintro e w2 ⟨rfl, hw2⟩; replace hw2 := hw2.symm; subst hw2))
      go_ret2
      exact ⟨by rw [hx]; rfl, Below.refl _ _⟩
    · have hS : splitF s = some (8, 1) := by
        have hb : (s.toList == [48]) = false := by simpa using hz
        unfold splitF; simp only [c0, c1, c2, c3, c4, c5, c6, hb, Bool.false_eq_true, if_false, if_true, Bool.not_false, Bool.and_true]
      rw [hS]
      rw [c0] at h0
      rw [c1] at h1
      rw [c2] at h2
      rw [c3] at h3
      rw [c4] at h4
      rw [c5] at h5
      rw [c6] at h6
      have hz2 : (s.toList != [48]) = true := by simpa using hz
      have hz3 : (s.toList == [48]) = false := by simpa using hz
      have hsz : 1 ≤ s.size := z6 c6
      clear z0 z1 z2 z3 z4 z5 z6 h7
      go_enter Try.func28, Try.ntmps28
      go_wp2_with (first | (go_at_call 40; with_reducible refine Calls.mono h0 ?_; rintro e w2 ⟨rfl, hw2⟩; replace hw2 := hw2.symm; subst hw2) | (go_at_call 40; with_reducible refine Calls.mono h1 ?_; rintro e w2 ⟨rfl, hw2⟩; replace hw2 := hw2.symm; subst hw2) | (go_at_call 40; with_reducible refine Calls.mono h2 ?_; rintro e w2 ⟨rfl, hw2⟩; replace hw2 := hw2.symm; subst hw2) | (go_at_call 40; with_reducible refine Calls.mono h3 ?_; rintro e w2 ⟨rfl, hw2⟩; replace hw2 := hw2.symm; subst hw2) | (go_at_call 40; with_reducible refine Calls.mono h4 ?_; rintro e w2 ⟨rfl, hw2⟩; replace hw2 := hw2.symm; subst hw2) | (go_at_call 40; with_reducible refine Calls.mono h5 ?_; rintro e w2 ⟨rfl, hw2⟩; replace hw2 := hw2.symm; subst hw2) | (go_at_call 40; with_reducible refine Calls.mono h6 ?_; rintro e w2 ⟨rfl, hw2⟩; replace hw2 := hw2.symm; subst hw2))
      first
        | (go_ret2
           exact ⟨rfl, Below.refl _ _⟩)
        | (go_region
           all_goals
             go_wp2_with fail
             go_ret2
             exact ⟨rfl, (Below.refl _ _).drew⟩)
  | false =>
    cases c7 : pre s ⟨#[95]⟩ with
    | true =>
      have hS : splitF s = none := by unfold splitF; simp only [c0, c1, c2, c3, c4, c5, c6, c7, Bool.false_eq_true, if_false, if_true, Bool.false_and]
      rw [hS]
      rw [c0] at h0
      rw [c1] at h1
      rw [c2] at h2
      rw [c3] at h3
      rw [c4] at h4
      rw [c5] at h5
      rw [c6] at h6
      rw [c7] at h7
      clear z0 z1 z2 z3 z4 z5 z6
      go_enter Try.func28, Try.ntmps28
      go_wp2_with (first | (go_at_call 40; with_reducible refine Calls.mono h0 ?_; rintro e w2 ⟨rfl, hw2⟩; replace hw2 := hw2.symm; subst hw2) | (go_at_call 40; with_reducible refine Calls.mono h1 ?_; rintro e w2 ⟨rfl, hw2⟩; replace hw2 := hw2.symm; subst hw2) | (go_at_call 40; with_reducible refine Calls.mono h2 ?_; rintro e w2 ⟨rfl, hw2⟩; replace hw2 := hw2.symm; subst hw2) | (go_at_call 40; with_reducible refine Calls.mono h3 ?_; rintro e w2 ⟨rfl, hw2⟩; replace hw2 := hw2.symm; subst hw2) | (go_at_call 40; with_reducible refine Calls.mono h4 ?_; rintro e w2 ⟨rfl, hw2⟩; replace hw2 := hw2.symm; subst hw2) | (go_at_call 40; with_reducible refine Calls.mono h5 ?_; rintro e w2 ⟨rfl, hw2⟩; replace hw2 := hw2.symm; subst hw2) | (go_at_call 40; with_reducible refine Calls.mono h6 ?_; rintro e w2 ⟨rfl, hw2⟩; replace hw2 := hw2.symm; subst hw2) | (go_at_call 40; with_reducible refine Calls.mono h7 ?_; rintro e w2 ⟨rfl, hw2⟩; replace hw2 := hw2.symm; subst hw2) | (go_at_call 19; with_reducible refine Calls.mono (need_no _ _) ?_; rintro e w2 ⟨rfl, hw2⟩; replace hw2 := hw2.symm; subst hw2))
      exact ⟨rfl, rfl, Below.refl _ _⟩
    | false =>
      have hS : splitF s = some (10, 0) := by unfold splitF; simp only [c0, c1, c2, c3, c4, c5, c6, c7, Bool.false_eq_true, if_false, if_true, Bool.false_and]
      rw [hS]
      rw [c0] at h0
      rw [c1] at h1
      rw [c2] at h2
      rw [c3] at h3
      rw [c4] at h4
      rw [c5] at h5
      rw [c6] at h6
      rw [c7] at h7
      have hx := ext_zero s
      clear z0 z1 z2 z3 z4 z5 z6
      go_enter Try.func28, Try.ntmps28
      go_wp2_with (first | (go_at_call 40; with_reducible refine Calls.mono h0 ?_; rintro e w2 ⟨rfl, hw2⟩; replace hw2 := hw2.symm; subst hw2) | (go_at_call 40; with_reducible refine Calls.mono h1 ?_; rintro e w2 ⟨rfl, hw2⟩; replace hw2 := hw2.symm; subst hw2) | (go_at_call 40; with_reducible refine Calls.mono h2 ?_; rintro e w2 ⟨rfl, hw2⟩; replace hw2 := hw2.symm; subst hw2) | (go_at_call 40; with_reducible refine Calls.mono h3 ?_; rintro e w2 ⟨rfl, hw2⟩; replace hw2 := hw2.symm; subst hw2) | (go_at_call 40; with_reducible refine Calls.mono h4 ?_; rintro e w2 ⟨rfl, hw2⟩; replace hw2 := hw2.symm; subst hw2) | (go_at_call 40; with_reducible refine Calls.mono h5 ?_; rintro e w2 ⟨rfl, hw2⟩; replace hw2 := hw2.symm; subst hw2) | (go_at_call 40; with_reducible refine Calls.mono h6 ?_; rintro e w2 ⟨rfl, hw2⟩; replace hw2 := hw2.symm; subst hw2) | (go_at_call 40; with_reducible refine Calls.mono h7 ?_; rintro e w2 ⟨rfl, hw2⟩; replace hw2 := hw2.symm; subst hw2) | (go_at_call 19; with_reducible refine Calls.mono (need_yes _ _) ?_; rintro e w2 ⟨rfl, hw2⟩; replace hw2 := hw2.symm; subst hw2))
      go_ret2
      exact ⟨by rw [hx]; rfl, Below.refl _ _⟩
end Go.Proofs.Ytppnjliamfnlkaa
