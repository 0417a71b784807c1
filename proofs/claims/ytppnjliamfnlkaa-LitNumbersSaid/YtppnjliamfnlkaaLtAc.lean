import Derived.Test.YtppnjliamfnlkaaLtAb
import Derived.Test.YtppnjliamfnlkaaLtA
namespace Go.Proofs.Ytppnjliamfnlkaa
open Go.RowKit
set_option linter.unusedSimpArgs false
set_option linter.unusedVariables false
set_option linter.unusedSectionVars false

/-! The document's Plain. -/
def allD (s : ByteArray) : Nat → Nat → Bool
  | 0, _ => true
  | f + 1, i => if i < s.size then (if 48 ≤ byteN s i ∧ byteN s i ≤ 57 then allD s f (i + 1) else false) else true
theorem plainG_allD (s : ByteArray) : ∀ (f i : Nat), plainG s f i = allD s f i
  | 0, _ => rfl
  | f + 1, i => by
    unfold plainG allD
    by_cases hi : i < s.size
    · rw [if_pos hi, if_pos hi]
      by_cases hc : byteN s i < 128
      · rw [dec_ascii s i hi hc]
        simp only
        rw [plainG_allD s f]
      · have hr := dec_high s i hi (by omega)
        rw [if_neg (by omega), if_neg (by omega)]
    · rw [if_neg hi, if_neg hi]

set_option maxHeartbeats 3200000 in
theorem refPlain_in (s : ByteArray) (w : World) (h0 : 0 < s.size) (h2 : s.size ≤ 200) (h3 : ¬ (1 < s.size ∧ byteN s 0 = 48)) :
    Calls Try.prog 11 #[.string s] w fun e w' => e = .returned (.bool (allD s (s.size + 1) 0)) ∧ w' = w := by
  have hz : ((s.size : Int) == 0) = false := by rw [beq_eq_false_iff_ne]; omega
  have hd2 : decide ((200 : Int) < (s.size : Int)) = false := by simp; omega
  have hx0 := str_byte s 0 h0
  have body : ∀ (b1 b2 : Bool), decide ((1 : Int) < (s.size : Int)) = b1 → ((s[0].toNat : Int) == 48) = b2 → (b1 && b2) = false →
      Calls Try.prog 11 #[.string s] w fun e w' => e = .returned (.bool (allD s (s.size + 1) 0)) ∧ w' = w := by
    intro b1 b2 e1 e2 e3
    clear h3 hx0
    generalize hX : allD s (s.size + 1) 0 = X
    have HX := Lib.hid hX
    clear hX
    cases b1 <;> cases b2 <;> simp only [Bool.and_self, Bool.and_false, Bool.and_true, Bool.true_and, Bool.false_and, reduceCtorEq] at e3
    all_goals
      go_enter Try.func11, Try.ntmps11
      go_wp2_with fail
      go_loopw [3] (fun iv wr => ∃ (f i : Nat), iv = .int .i64 i ∧ i ≤ s.size ∧ s.size < f + i ∧ X = allD s f i ∧ wr = w) (fun iv _ => s.size - (intOf iv).toNat)
      case atStart => exact ⟨s.size + 1, 0, rfl, by omega, by omega, HX.out.symm, rfl⟩
      case round =>
        obtain ⟨f, i, rfl, hi, hf, he, rfl⟩ := hrel
        obtain ⟨f, rfl⟩ : ∃ g, f = g + 1 := ⟨f - 1, by omega⟩
        have HE := Lib.hid he
        clear he HX e1 e2
        by_cases hlt : i < s.size
        · have hb := str_byte s i hlt
          have hst : allD s (f + 1) i = (if 48 ≤ byteN s i ∧ byteN s i ≤ 57 then allD s f (i + 1) else false) := by rw [allD, if_pos hlt]
          generalize byteN s i = c at *
          by_cases c1 : 48 ≤ c
          · by_cases c2 : c ≤ 57
            · have HN : Hid (X = allD s f (i + 1)) := Lib.hid (by rw [HE.out, hst, if_pos ⟨c1, c2⟩])
              have k1 : decide ((c : Int) < 48) = false := by simp; omega
              have k2 : decide ((57 : Int) < (c : Int)) = false := by simp; omega
              clear hst
              go_wp2_with fail
              go_roundw
              case rel => exact ⟨f, i + 1, by go_num, by omega, by omega, HN.out, by first | rfl | trivial⟩
              case measure => simp [intOf]; omega
            · have HN : Hid (X = false) := Lib.hid (by rw [HE.out, hst, if_neg (fun h => c2 h.2)])
              have k1 : decide ((c : Int) < 48) = false := by simp; omega
              have k2 : decide ((57 : Int) < (c : Int)) = true := by simp; omega
              clear hst
              go_wp2_with fail
              go_ret
              exact ⟨by rw [HN.out]; rfl, rfl⟩
          · have HN : Hid (X = false) := Lib.hid (by rw [HE.out, hst, if_neg (fun h => c1 h.1)])
            have k1 : decide ((c : Int) < 48) = true := by simp; omega
            clear hst
            go_wp2_with fail
            go_ret
            exact ⟨by rw [HN.out]; rfl, rfl⟩
        · have HN : Hid (X = true) := Lib.hid (by rw [HE.out, allD, if_neg hlt])
          go_wp2_with fail
          go_ret
          exact ⟨by rw [HN.out]; rfl, rfl⟩
  refine body _ _ rfl rfl ?_
  rw [hx0]
  simp only [Bool.and_eq_false_iff, decide_eq_false_iff_not, beq_eq_false_iff_ne]
  omega

set_option maxHeartbeats 1600000 in
theorem refPlain_any (s : ByteArray) (w : World) (hs : s.size ≤ 4611686018427387904) :
    Calls Try.prog 11 #[.string s] w fun e w' => e = .returned (.bool (plainF s)) ∧ w' = w := by
  by_cases hz : s.size = 0
  · have hF : plainF s = false := by unfold plainF; rw [if_pos (.inl hz)]
    rw [hF]
    have hz2 : ((s.size : Int) == 0) = true := by rw [hz]; rfl
    clear hF
    go_enter Try.func11, Try.ntmps11
    go_wp2_with fail
    go_ret
    exact ⟨rfl, rfl⟩
  have hz2 : ((s.size : Int) == 0) = false := by rw [beq_eq_false_iff_ne]; omega
  by_cases h2 : 200 < s.size
  · have hF : plainF s = false := by unfold plainF; rw [if_pos (.inr (.inl h2))]
    rw [hF]
    have hd2 : decide ((200 : Int) < (s.size : Int)) = true := by simp; omega
    clear hF
    go_enter Try.func11, Try.ntmps11
    go_wp2_with fail
    go_ret
    exact ⟨rfl, rfl⟩
  by_cases h3 : 1 < s.size ∧ byteN s 0 = 48
  · have hF : plainF s = false := by
      unfold plainF
      rw [if_pos]
      refine .inr (.inr ⟨h3.2, ?_⟩)
      have := size_list s h3.1
      simpa using this
    rw [hF]
    have hd2 : decide ((200 : Int) < (s.size : Int)) = false := by simp; omega
    have hd1 : decide ((1 : Int) < (s.size : Int)) = true := by simp; omega
    have hx0 := str_byte s 0 (by omega)
    rw [h3.2] at hx0
    have hl0 : (0 : Int) < s.size := by omega
    have hl1 : 0 < s.size := by omega
    clear hF
    go_enter Try.func11, Try.ntmps11
    go_wp2_with fail
    go_ret
    exact ⟨rfl, rfl⟩
  · have hF : plainF s = allD s (s.size + 1) 0 := by
      unfold plainF
      rw [if_neg, plainG_allD]
      rintro (h | h | ⟨h, h'⟩)
      · exact hz h
      · exact h2 h
      · have h1 : s.size = 1 := by omega
        have := list_one s h1 h
        exact h' (by simpa using this)
    rw [hF]
    exact refPlain_in s w (by omega) (by omega) h3
end Go.Proofs.Ytppnjliamfnlkaa
