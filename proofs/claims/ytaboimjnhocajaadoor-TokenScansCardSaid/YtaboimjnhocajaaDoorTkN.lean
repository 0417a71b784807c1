import Derived.Test.YtaboimjnhocajaaDoorTkM
namespace Go.Proofs.YtaboimjnhocajaaDoor
open Go.RowKit
set_option linter.unusedSimpArgs false
set_option linter.unusedVariables false
set_option linter.unusedSectionVars false

def refG (s : ByteArray) : Nat → Nat → Bool
  | 0, _ => true
  | f + 1, i => if i < s.size then (if !letterN (byteN s i) && !figureN (byteN s i) then false else refG s f (i + 1)) else true
def refNameF (s : ByteArray) : Bool := if s.toList.isEmpty then false else if figureN (byteN s 0) then false else if wordL s.toList = 0 then refG s (s.size + 1) 0 else false

theorem dec_byte (s : ByteArray) (i : Nat) (h : i < s.size) : ((Utf8.decode s i).1 = byteN s i ∧ (Utf8.decode s i).2 = 1 ∧ byteN s i < 128) ∨ (128 ≤ (Utf8.decode s i).1 ∧ 128 ≤ byteN s i) := by
  have := sc_dec s i
  rw [← decode_B s i h] at this
  generalize Utf8.decode s i = d at *
  rcases this with ⟨h1, h2, h3⟩ | ⟨h1, h2, h3⟩ | ⟨h1, h2, h3, h4⟩
  · refine .inl ⟨?_, h1, h2⟩
    split at h3
    · omega
    · omega
  · refine .inr ⟨?_, h2⟩
    split at h3
    · rename_i e; rw [e]; decide
    · omega
  · refine .inr ⟨?_, by have := h4 0 (by omega); simpa using this⟩
    split at h3
    · rename_i e; rw [e]; decide
    · omega

theorem letter_byte (n : Nat) : letterI n = letterN n := by
  unfold letterI letterN; rw [Bool.eq_iff_iff]; simp only [Bool.or_eq_true, Bool.and_eq_true, decide_eq_true_eq, beq_iff_eq]; omega
theorem figure_byte (n : Nat) : figureI n = figureN n := by
  unfold figureI figureN; rw [Bool.eq_iff_iff]; simp only [Bool.or_eq_true, Bool.and_eq_true, decide_eq_true_eq, beq_iff_eq]; omega
theorem letter_big (n : Nat) (h : 128 ≤ n) : letterN n = false := by
  rw [← Bool.not_eq_true]; unfold letterN; simp only [Bool.or_eq_true, Bool.and_eq_true, decide_eq_true_eq, beq_iff_eq]; omega
theorem figure_big (n : Nat) (h : 128 ≤ n) : figureN n = false := by
  rw [← Bool.not_eq_true]; unfold figureN; simp only [Bool.or_eq_true, Bool.and_eq_true, decide_eq_true_eq, beq_iff_eq]; omega

theorem nameG_ref (s : ByteArray) : ∀ (f i : Nat), 0 < i → nameG s f i = refG s f i := by
  intro f
  induction f with
  | zero => intro i _; rfl
  | succ f ih =>
    intro i hi
    rw [nameG, refG]
    by_cases h : i < s.size
    · rw [if_pos h, if_pos h, letter_byte, figure_byte, show decide (i = 0) = false from by simp; omega, Bool.false_or]
      rcases dec_byte s i h with ⟨h1, h2, _⟩ | ⟨h1, h2⟩
      · rw [h1, h2, ih (i + 1) (by omega)]
      · rw [letter_big _ h1, figure_big _ h1, letter_big _ h2, figure_big _ h2]; rfl
    · rw [if_neg h, if_neg h]

theorem empty_iff (s : ByteArray) : s.toList.isEmpty = decide (s.size = 0) := by
  have h : s.toList.length = s.size := by rw [Lib.toList_data]; simp
  rw [Bool.eq_iff_iff, List.isEmpty_iff, decide_eq_true_eq]
  constructor
  · intro e; rw [e] at h; simpa using h.symm
  · intro e; exact List.eq_nil_of_length_eq_zero (h.trans e)

theorem name_eq (s : ByteArray) : nameF s = refNameF s := by
  unfold nameF refNameF
  rw [empty_iff]
  by_cases h0 : s.size = 0
  · simp [h0]
  · have hp : 0 < s.size := by omega
    simp only [h0, decide_false, Bool.not_false, Bool.and_true, Bool.false_eq_true, if_false]
    rw [nameG, refG, if_pos hp, if_pos hp, letter_byte, figure_byte]
    simp only [decide_true, Bool.true_or, Bool.and_true, Nat.zero_add]
    rcases dec_byte s 0 hp with ⟨h1, h2, _⟩ | ⟨h1, h2⟩
    · rw [h1, h2, nameG_ref s _ 1 (by omega)]
      have hx : letterN (byteN s 0) = true → figureN (byteN s 0) = false := by
        intro h
        rw [← Bool.not_eq_true]
        unfold letterN at h
        unfold figureN
        simp only [Bool.or_eq_true, Bool.and_eq_true, decide_eq_true_eq, beq_iff_eq] at *
        omega
      cases hl : letterN (byteN s 0)
      · cases hf : figureN (byteN s 0) <;> by_cases hw : wordL s.toList = 0 <;> simp [hw]
      · rw [hx hl]; by_cases hw : wordL s.toList = 0 <;> simp [hw]
    · rw [letter_big _ h1, letter_big _ h2, figure_big _ h2]
      by_cases hw : wordL s.toList = 0 <;> simp [hw]

theorem byte_at (s : ByteArray) (i : Nat) (h : i < s.size) : s[i].toNat = byteN s i := by
  unfold byteN
  rw [List.getD_eq_getElem?_getD, List.getElem?_eq_getElem (by simpa using h)]
  simp
  rfl

set_option maxHeartbeats 800000 in
theorem refName_any (s : ByteArray) (w : World) (hs : s.size ≤ 4611686018427387904) :
    Calls Tryd.prog 16 #[.string s] w fun e w' => e = .returned (.bool (refNameF s)) ∧ Below w.heap.size w w' := by
  have hse : s.toList.isEmpty = decide (s.size = 0) := empty_iff s
  by_cases h0 : s.toList = []
  · have HN : Hid (refNameF s = false) := Lib.hid (by unfold refNameF; rw [h0]; rfl)
    go_enter Tryd.func16, Tryd.ntmps16
    go_wp2_with fail
    go_ret
    exact ⟨by rw [HN.out]; rfl, Below.refl _ _⟩
  · have hem : s.toList.isEmpty = false := by simp [h0]
    have hp : 0 < s.size := by
      rw [hem] at hse
      have := of_decide_eq_false hse.symm; omega
    have hst : refNameF s = if figureN (byteN s 0) then false else if wordL s.toList = 0 then refG s (s.size + 1) 0 else false := by unfold refNameF; rw [hem]; rfl
    have hb0 : ∀ h : 0 < s.size, s[0].toNat = byteN s 0 := fun h => byte_at s 0 h
    have hbl := byteN_lt s 0
    have hba : ∀ i (h : i < s.size), s[i].toNat = byteN s i := fun i h => byte_at s i h
    have hwd := fun w => refWord_any s w
    have hwc := wordL_cases s.toList
    generalize wordL s.toList = q at hst hwd hwc
    have hfg := fun w => refFigure_any (byteN s 0) hbl w
    generalize figureN (byteN s 0) = g at hst hfg
    have HST := Lib.hid hst
    have HBA := Lib.hid hba
    clear hse hst hba
    go_enter Tryd.func16, Tryd.ntmps16
    cases g
    · by_cases hq : q = 0
      · have HN : Hid (refNameF s = refG s (s.size + 1) 0) := Lib.hid (by rw [HST.out, if_pos hq]; rfl)
        have hq2 : (q == 0) = true := by simp [hq]
        have hq3 : (q != 0) = false := by simp [hq]
        clear hwc hq
        go_wp2_with (first
          | (go_at_call 24; refine (hfg _).mono ?_; rintro e w2 ⟨rfl, hw2⟩; replace hw2 := hw2.symm; subst hw2)
          | (go_at_call 18; refine (hwd _).mono ?_; rintro e w2 ⟨rfl, hb2⟩))
        clear hfg hwd
        go_loop [3] (fun i => ∃ (f k : Nat), i = .int .i64 k ∧ s.size < f + k ∧ k ≤ s.size ∧ refG s (s.size + 1) 0 = refG s f k) (fun i => s.size - (intOf i).toNat)
        case atStart => exact ⟨s.size + 1, 0, rfl, by omega, by omega, rfl⟩
        case round =>
          obtain ⟨f, k, rfl, hf, hk, he⟩ := hrel
          obtain ⟨f, rfl⟩ : ∃ g, f = g + 1 := ⟨f - 1, by omega⟩
          have HE := Lib.hid he; clear he
          by_cases hlt : k < s.size
          · have hbk : ∀ h : k < s.size, s[k].toNat = byteN s k := fun h => byte_at s k h
            have hst : refG s (f + 1) k = if !letterN (byteN s k) && !figureN (byteN s k) then false else refG s f (k + 1) := by rw [refG, if_pos hlt]
            have hbl := byteN_lt s k
            have hl1 := fun w => refLetter_any (byteN s k) hbl w
            have hf1 := fun w => refFigure_any (byteN s k) hbl w
            generalize letterN (byteN s k) = l at hst hl1
            generalize figureN (byteN s k) = g at hst hf1
            have HST := Lib.hid hst
            clear hst hb0
            cases l
            · cases g
              · have HN2 : Hid (refG s (s.size + 1) 0 = false) := Lib.hid (by rw [HE.out, HST.out]; rfl)
                go_wp2_with (first
                  | (go_at_call 23; refine (hl1 _).mono ?_; rintro e w2 ⟨rfl, hw2⟩; replace hw2 := hw2.symm; subst hw2)
                  | (go_at_call 24; refine (hf1 _).mono ?_; rintro e w2 ⟨rfl, hw2⟩; replace hw2 := hw2.symm; subst hw2))
                go_ret
                exact ⟨by rw [HN.out, HN2.out]; rfl, hb2⟩
              · have HN2 : Hid (refG s (s.size + 1) 0 = refG s f (k + 1)) := Lib.hid (by rw [HE.out, HST.out]; rfl)
                go_wp2_with (first
                  | (go_at_call 23; refine (hl1 _).mono ?_; rintro e w2 ⟨rfl, hw2⟩; replace hw2 := hw2.symm; subst hw2)
                  | (go_at_call 24; refine (hf1 _).mono ?_; rintro e w2 ⟨rfl, hw2⟩; replace hw2 := hw2.symm; subst hw2))
                go_round
                case rel => exact ⟨f, k + 1, by go_num, by omega, by omega, HN2.out⟩
                case measure => simp [intOf]; omega
            · have HN2 : Hid (refG s (s.size + 1) 0 = refG s f (k + 1)) := Lib.hid (by rw [HE.out, HST.out]; rfl)
              go_wp2_with (first
                | (go_at_call 23; refine (hl1 _).mono ?_; rintro e w2 ⟨rfl, hw2⟩; replace hw2 := hw2.symm; subst hw2)
                | (go_at_call 24; refine (hf1 _).mono ?_; rintro e w2 ⟨rfl, hw2⟩; replace hw2 := hw2.symm; subst hw2))
              go_round
              case rel => exact ⟨f, k + 1, by go_num, by omega, by omega, HN2.out⟩
              case measure => simp [intOf]; omega
          · have HN2 : Hid (refG s (s.size + 1) 0 = true) := Lib.hid (by rw [HE.out, refG, if_neg hlt])
            go_wp2_with fail
            go_ret
            exact ⟨by rw [HN.out, HN2.out]; rfl, hb2⟩
      · have HN : Hid (refNameF s = false) := Lib.hid (by rw [HST.out, if_neg hq]; rfl)
        have hq2 : (q == 0) = false := by simp [hq]
        have hq3 : (q != 0) = true := by simp [hq]
        clear hwc hq
        go_wp2_with (first
          | (go_at_call 24; refine (hfg _).mono ?_; rintro e w2 ⟨rfl, hw2⟩; replace hw2 := hw2.symm; subst hw2)
          | (go_at_call 18; refine (hwd _).mono ?_; rintro e w2 ⟨rfl, hb2⟩))
        go_ret
        exact ⟨by rw [HN.out]; rfl, hb2⟩
    · have HN : Hid (refNameF s = false) := Lib.hid (by rw [HST.out]; rfl)
      go_wp2_with (go_at_call 24; refine (hfg _).mono ?_; rintro e w2 ⟨rfl, hw2⟩; replace hw2 := hw2.symm; subst hw2)
      go_ret
      exact ⟨by rw [HN.out]; rfl, Below.refl _ _⟩
end Go.Proofs.YtaboimjnhocajaaDoor
