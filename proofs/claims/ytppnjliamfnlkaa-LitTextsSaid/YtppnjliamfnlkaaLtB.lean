import Derived.Test.YtppnjliamfnlkaaLtA
namespace Go.Proofs.Ytppnjliamfnlkaa
open Go.RowKit
set_option linter.unusedSimpArgs false
set_option linter.unusedVariables false

set_option maxHeartbeats 1600000 in
theorem digit_no (r base : Nat) (hr : r ≤ 1114111) (hb : base ≤ 16) (h : ¬ digitW r < base) (w : World) :
    Calls Try.prog 30 #[.int .i32 r, .int .u32 base] w fun e w' => e = thrown 4 ∧ w' = w := by
  unfold digitW at h
  by_cases c1 : 48 ≤ r ∧ r ≤ 57
  · rw [if_pos c1] at h
    obtain ⟨a1, a2⟩ := c1
    obtain ⟨m, rfl⟩ : ∃ m, r = m + 48 := ⟨r - 48, by omega⟩
    rw [Nat.add_sub_cancel] at h
    have hm : ((m + 48 : Nat) : Int) - 48 = (m : Int) := by omega
    have hd : decide ((m : Int) < (base : Int)) = false := by simp; omega
    go_enter Try.func30, Try.ntmps30
    go_wp2_with (go_at_call 19; with_reducible refine Calls.mono (need_no _ _) ?_; rintro e w2 ⟨rfl, hw2⟩; replace hw2 := hw2.symm; subst hw2)
    exact ⟨rfl, rfl, rfl⟩
  rw [if_neg c1] at h
  have n1 : ¬ ((48 : Int) ≤ r ∧ (r : Int) ≤ 57) := by omega
  by_cases c2 : 97 ≤ r ∧ r ≤ 102
  · rw [if_pos c2] at h
    obtain ⟨a1, a2⟩ := c2
    obtain ⟨m, rfl⟩ : ∃ m, r = m + 97 := ⟨r - 97, by omega⟩
    rw [show m + 97 - 87 = m + 10 from by omega] at h
    have hd : decide ((m : Int) + 10 < (base : Int)) = false := by simp; omega
    have hm : ((m + 97 : Nat) : Int) - 97 = (m : Int) := by omega
    clear c1 n1
    go_enter Try.func30, Try.ntmps30
    go_wp2_with (go_at_call 19; with_reducible refine Calls.mono (need_no _ _) ?_; rintro e w2 ⟨rfl, hw2⟩; replace hw2 := hw2.symm; subst hw2)
    exact ⟨rfl, rfl, rfl⟩
  rw [if_neg c2] at h
  by_cases c3 : 65 ≤ r ∧ r ≤ 70
  · rw [if_pos c3] at h
    obtain ⟨a1, a2⟩ := c3
    obtain ⟨m, rfl⟩ : ∃ m, r = m + 65 := ⟨r - 65, by omega⟩
    rw [show m + 65 - 55 = m + 10 from by omega] at h
    have hd : decide ((m : Int) + 10 < (base : Int)) = false := by simp; omega
    have hm : ((m + 65 : Nat) : Int) - 65 = (m : Int) := by omega
    clear c1 c2 n1
    go_enter Try.func30, Try.ntmps30
    go_wp2_with (go_at_call 19; with_reducible refine Calls.mono (need_no _ _) ?_; rintro e w2 ⟨rfl, hw2⟩; replace hw2 := hw2.symm; subst hw2)
    exact ⟨rfl, rfl, rfl⟩
  · have hbb : decide ((base : Int) < (base : Int)) = false := by simp
    go_enter Try.func30, Try.ntmps30
    go_wp2_with (go_at_call 19; with_reducible refine Calls.mono (need_no _ _) ?_; rintro e w2 ⟨rfl, hw2⟩; replace hw2 := hw2.symm; subst hw2)
    all_goals exact ⟨rfl, rfl, rfl⟩
end Go.Proofs.Ytppnjliamfnlkaa
