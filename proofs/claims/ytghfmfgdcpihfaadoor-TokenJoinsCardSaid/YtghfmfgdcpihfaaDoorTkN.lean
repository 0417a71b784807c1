import Derived.Test.YtghfmfgdcpihfaaDoorTkM
namespace Go.Proofs.YtghfmfgdcpihfaaDoor
open Go.RowKit
set_option linter.unusedSimpArgs false
set_option linter.unusedVariables false
set_option linter.unusedSectionVars false

def refG (s : ByteArray) : Nat → Nat → Bool
  | 0, _ => true
  | f + 1, i => if i < s.size then (if !letterN (byteN s i) && !figureN (byteN s i) then false else refG s f (i + 1)) else true
def refNameF (s : ByteArray) : Bool := if s.toList.isEmpty then false else if figureN (byteN s 0) then false else if wordL s.toList = 0 then refG s (s.size + 1) 0 else false

theorem dec_byte (s : ByteArray) (i : Nat) (h : i < s.size) : ((Utf8.decode s i).1 = byteN s i ∧ (Utf8.decode s i).2 = 1 ∧ byteN s i < 128) ∨ (128 ≤ (Utf8.decode s i).1 ∧ 128 ≤ byteN s i) := by
  have := sc_dec s i
  rw [← decode_B s i h] at this
  generalize Utf8.decode s i = d at *
  rcases this with ⟨h1, h2, h3⟩ | ⟨h1, h2, h3⟩ | ⟨h1, h2, h3, h4⟩
  · refine .inl ⟨?_, h1, h2⟩
    split at h3
    · omega
    · omega
  · refine .inr ⟨?_, h2⟩
    split at h3
    · rename_i e; rw [e]; decide
    · omega
  · refine .inr ⟨?_, by have := h4 0 (by omega); simpa using this⟩
    split at h3
    · rename_i e; rw [e]; decide
    · omega

theorem letter_byte (n : Nat) : letterI n = letterN n := by
  unfold letterI letterN; rw [Bool.eq_iff_iff]; simp only [Bool.or_eq_true, Bool.and_eq_true, decide_eq_true_eq, beq_iff_eq]; omega
theorem figure_byte (n : Nat) : figureI n = figureN n := by
  unfold figureI figureN; rw [Bool.eq_iff_iff]; simp only [Bool.or_eq_true, Bool.and_eq_true, decide_eq_true_eq, beq_iff_eq]; omega
theorem letter_big (n : Nat) (h : 128 ≤ n) : letterN n = false := by
  rw [← Bool.not_eq_true]; unfold letterN; simp only [Bool.or_eq_true, Bool.and_eq_true, decide_eq_true_eq, beq_iff_eq]; omega
theorem figure_big (n : Nat) (h : 128 ≤ n) : figureN n = false := by
  rw [← Bool.not_eq_true]; unfold figureN; simp only [Bool.or_eq_true, Bool.and_eq_true, decide_eq_true_eq, beq_iff_eq]; omega

theorem nameG_ref (s : ByteArray) : ∀ (f i : Nat), 0 < i → nameG s f i = refG s f i := by
  intro f
  induction f with
  | zero => intro i _; rfl
  | succ f ih =>
    intro i hi
    rw [nameG, refG]
    by_cases h : i < s.size
    · rw [if_pos h, if_pos h, letter_byte, figure_byte, show decide (i = 0) = false from by simp; omega, Bool.false_or]
      rcases dec_byte s i h with ⟨h1, h2, _⟩ | ⟨h1, h2⟩
      · rw [h1, h2, ih (i + 1) (by omega)]
      · rw [letter_big _ h1, figure_big _ h1, letter_big _ h2, figure_big _ h2]; rfl
    · rw [if_neg h, if_neg h]

theorem empty_iff (s : ByteArray) : s.toList.isEmpty = decide (s.size = 0) := by
  have h : s.toList.length = s.size := by rw [Lib.toList_data]; simp
  rw [Bool.eq_iff_iff, List.isEmpty_iff, decide_eq_true_eq]
  constructor
  · intro e; rw [e] at h; simpa using h.symm
  · intro e; exact List.eq_nil_of_length_eq_zero (h.trans e)

theorem name_eq (s : ByteArray) : nameF s = refNameF s := by
  unfold nameF refNameF
  rw [empty_iff]
  by_cases h0 : s.size = 0
  · simp [h0]
  · have hp : 0 < s.size := by omega
    simp only [h0, decide_false, Bool.not_false, Bool.and_true, Bool.false_eq_true, if_false]
    rw [nameG, refG, if_pos hp, if_pos hp, letter_byte, figure_byte]
    simp only [decide_true, Bool.true_or, Bool.and_true, Nat.zero_add]
    rcases dec_byte s 0 hp with ⟨h1, h2, _⟩ | ⟨h1, h2⟩
    · rw [h1, h2, nameG_ref s _ 1 (by omega)]
      have hx : letterN (byteN s 0) = true → figureN (byteN s 0) = false := by
        intro h
        rw [← Bool.not_eq_true]
        unfold letterN at h
        unfold figureN
        simp only [Bool.or_eq_true, Bool.and_eq_true, decide_eq_true_eq, beq_iff_eq] at *
        omega
      cases hl : letterN (byteN s 0)
      · cases hf : figureN (byteN s 0) <;> by_cases hw : wordL s.toList = 0 <;> simp [hw]
      · rw [hx hl]; by_cases hw : wordL s.toList = 0 <;> simp [hw]
    · rw [letter_big _ h1, letter_big _ h2, figure_big _ h2]
      by_cases hw : wordL s.toList = 0 <;> simp [hw]

theorem byte_at (s : ByteArray) (i : Nat) (h : i < s.size) : s[i].toNat = byteN s i := by
  unfold byteN
  rw [List.getD_eq_getElem?_getD, List.getElem?_eq_getElem (by simpa using h)]
  simp
  rfl

end Go.Proofs.YtghfmfgdcpihfaaDoor
