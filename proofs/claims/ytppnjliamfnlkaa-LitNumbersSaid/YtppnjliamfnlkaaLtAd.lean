import Derived.Test.YtppnjliamfnlkaaLtZ
import Derived.Test.YtppnjliamfnlkaaLtAc
import Derived.Test.YtppnjliamfnlkaaLtQ
namespace Go.Proofs.Ytppnjliamfnlkaa
open Go.RowKit
set_option linter.unusedSimpArgs false
set_option linter.unusedVariables false
set_option linter.unusedSectionVars false

/-! LitNumbers. -/
theorem refP_end {s : ByteArray} {b n : Nat} (h2 : refSplit s = some (b, n)) (hs : ¬ 200 < s.size) {e : Ending} (h : RefP b (refG s b (s.size + 1) n []) e) : e = .returned (.tuple #[.string (numV s), .int .i64 (numE s)]) := by
  have hr := refR_eq s
  unfold refR at hr
  rw [h2] at hr
  simp only at hr
  unfold numV numE
  rw [if_neg hs, if_neg hs, ← hr]
  cases hg : refG s b (s.size + 1) n [] with
  | none => rw [hg] at h; exact (show e = _ from h).trans (by simp)
  | some ds => rw [hg] at h; exact (show e = _ from h).trans (by simp)
theorem num_none {s : ByteArray} (h : refSplit s = none) (hs : ¬ 200 < s.size) : numV s = ⟨#[]⟩ ∧ numE s = 4 := by
  have hr := refR_eq s
  unfold refR at hr
  rw [h] at hr
  simp only at hr
  unfold numV numE
  rw [if_neg hs, if_neg hs, ← hr]
  exact ⟨rfl, rfl⟩
set_option maxHeartbeats 3200000 in
theorem refNumber_any (s : ByteArray) (w : World) (hs : s.size ≤ 4611686018427387904) :
    Calls Try.prog 9 #[.string s] w fun e w' => e = .returned (.tuple #[.string (numV s), .int .i64 (numE s)]) ∧ Below w.heap.size w w' := by
  by_cases h1 : 200 < s.size
  · rw [numV, numE, if_pos h1, if_pos h1]
    have hd : decide ((200 : Int) < (s.size : Int)) = true := by simp; omega
    go_enter Try.func9, Try.ntmps9
    go_wp2_with fail
    go_ret2
    exact ⟨rfl, Below.refl _ _⟩
  have hd1 : decide ((200 : Int) < (s.size : Int)) = false := by simp; omega
  by_cases hz : s.size = 0
  · obtain ⟨e1, e2⟩ := num_none (s := s) (by unfold refSplit; rw [if_pos (.inl hz)]) h1
    rw [e1, e2]
    have hz2 : ((s.size : Int) == 0) = true := by rw [hz]; rfl
    go_enter Try.func9, Try.ntmps9
    go_wp2_with fail
    go_ret2
    exact ⟨rfl, Below.refl _ _⟩
  have hz2 : ((s.size : Int) == 0) = false := by rw [beq_eq_false_iff_ne]; omega
  have hl0 : (0 : Int) < s.size := by omega
  have hl1 : 0 < s.size := by omega
  have hx0 := str_byte s 0 hl1
  by_cases hlo : byteN s 0 < 48
  · obtain ⟨e1, e2⟩ := num_none (s := s) (by unfold refSplit; rw [if_pos (.inr (.inl hlo))]) h1
    rw [e1, e2]
    generalize byteN s 0 = c at *
    have k : decide ((c : Int) < 48) = true := by simp; omega
    clear e1 e2
    go_enter Try.func9, Try.ntmps9
    go_wp2_with fail
    go_ret2
    exact ⟨rfl, Below.refl _ _⟩
  by_cases hhi : 57 < byteN s 0
  · obtain ⟨e1, e2⟩ := num_none (s := s) (by unfold refSplit; rw [if_pos (.inr (.inr hhi))]) h1
    rw [e1, e2]
    generalize byteN s 0 = c at *
    have k : decide ((c : Int) < 48) = false := by simp; omega
    have k2 : decide ((57 : Int) < (c : Int)) = true := by simp; omega
    clear e1 e2
    go_enter Try.func9, Try.ntmps9
    go_wp2_with fail
    go_ret2
    exact ⟨rfl, Below.refl _ _⟩
  have hc : ¬ (s.size = 0 ∨ byteN s 0 < 48 ∨ 57 < byteN s 0) := by omega
  by_cases h48 : byteN s 0 = 48
  · by_cases h2 : 1 < s.size
    · have hsp : refSplit s = (if byteN s 1 = 120 ∨ byteN s 1 = 88 then some (16, 2) else if byteN s 1 = 98 ∨ byteN s 1 = 66 then some (2, 2) else if byteN s 1 = 111 ∨ byteN s 1 = 79 then some (8, 2) else some (8, 1)) := by
        unfold refSplit; rw [if_neg hc, if_pos ⟨h48, h2⟩]
      by_cases a1 : byteN s 1 = 120
      · exact (refnum_120 s w (by omega) h2 h48 a1).mono fun e w' h => ⟨refP_end (by rw [hsp, if_pos (.inl a1)]) h1 h.1, h.2⟩
      by_cases a2 : byteN s 1 = 88
      · exact (refnum_88 s w (by omega) h2 h48 a2).mono fun e w' h => ⟨refP_end (by rw [hsp, if_pos (.inr a2)]) h1 h.1, h.2⟩
      by_cases a3 : byteN s 1 = 98
      · exact (refnum_98 s w (by omega) h2 h48 a3).mono fun e w' h => ⟨refP_end (by rw [hsp, if_neg (by omega), if_pos (.inl a3)]) h1 h.1, h.2⟩
      by_cases a4 : byteN s 1 = 66
      · exact (refnum_66 s w (by omega) h2 h48 a4).mono fun e w' h => ⟨refP_end (by rw [hsp, if_neg (by omega), if_pos (.inr a4)]) h1 h.1, h.2⟩
      by_cases a5 : byteN s 1 = 111
      · exact (refnum_111 s w (by omega) h2 h48 a5).mono fun e w' h => ⟨refP_end (by rw [hsp, if_neg (by omega), if_neg (by omega), if_pos (.inl a5)]) h1 h.1, h.2⟩
      by_cases a6 : byteN s 1 = 79
      · exact (refnum_79 s w (by omega) h2 h48 a6).mono fun e w' h => ⟨refP_end (by rw [hsp, if_neg (by omega), if_neg (by omega), if_pos (.inr a6)]) h1 h.1, h.2⟩
      exact (refnum_8 s w (by omega) h2 h48 ⟨a1, a2, a3, a4, a5, a6⟩).mono fun e w' h => ⟨refP_end (by rw [hsp, if_neg (by omega), if_neg (by omega), if_neg (by omega)]) h1 h.1, h.2⟩
    · exact (refnum_one s w (by omega) (by omega) h48).mono fun e w' h => ⟨refP_end (by unfold refSplit; rw [if_neg hc, if_neg (by omega)]) h1 h.1, h.2⟩
  · exact (refnum_ten s w (by omega) hl1 (by omega) (by omega)).mono fun e w' h => ⟨refP_end (by unfold refSplit; rw [if_neg hc, if_neg (by omega)]) h1 h.1, h.2⟩

set_option maxHeartbeats 3200000 in
theorem numbers_walk (s : ByteArray) (w : World) (hs : s.size ≤ 9223372036854775807) :
    Calls Try.prog 3 #[.string s] w fun e w' => e = .returned (.bool true) ∧ Below w.heap.size w w' := by
  by_cases h1 : 300 < s.size
  · have hd : decide ((300 : Int) < (s.size : Int)) = true := by simp; omega
    go_enter Try.func3, Try.ntmps3
    go_wp2_with fail
    go_ret
    exact ⟨rfl, Below.refl _ _⟩
  have hd1 : decide ((300 : Int) < (s.size : Int)) = false := by simp; omega
  have hN := fun w => Number_any s w (by omega)
  have hR := fun w => refNumber_any s w (by omega)
  have hP := fun w => plain_any s w (by omega)
  have hQ := fun w => refPlain_any s w (by omega)
  generalize numV s = v at *
  generalize numE s = x at *
  have hvv : (v.toList == v.toList) = true := by simp
  generalize plainF s = pl at *
  have hpp : (pl == pl) = true := by simp
  go_enter Try.func3, Try.ntmps3
  go_wp2_with (first
    | (go_at_call 8; with_reducible refine Calls.mono (hN _) ?_; rintro e w2 ⟨rfl, hb2⟩; have HB2 := Lib.hid hb2; clear hb2)
    | (go_at_call 9; with_reducible refine Calls.mono (hR _) ?_; rintro e w3 ⟨rfl, hb3⟩; have HB3 := Lib.hid hb3; clear hb3)
    | (go_at_call 10; with_reducible refine Calls.mono (hP _) ?_; rintro e w4 ⟨rfl, hb4⟩; have HB4 := Lib.hid hb4; clear hb4)
    | (go_at_call 11; with_reducible refine Calls.mono (hQ _) ?_; rintro e w5 ⟨rfl, hw5⟩; replace hw5 := hw5.symm; subst hw5)
    | (go_at_call 12; with_reducible refine Calls.mono (awake_any _) ?_; rintro e w6 ⟨rfl, hb6⟩; have HB6 := Lib.hid hb6; clear hb6))
  go_ret
  exact ⟨rfl, ((HB2.out.trans (HB3.out.mono HB2.out.size)).trans (HB4.out.mono (Nat.le_trans HB2.out.size HB3.out.size))).trans (HB6.out.mono (Nat.le_trans (Nat.le_trans HB2.out.size HB3.out.size) HB4.out.size))⟩
end Go.Proofs.Ytppnjliamfnlkaa
