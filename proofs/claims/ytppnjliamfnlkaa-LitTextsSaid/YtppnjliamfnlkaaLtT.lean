import Derived.Test.YtppnjliamfnlkaaLtS
namespace Go.Proofs.Ytppnjliamfnlkaa
open Go.RowKit
set_option linter.unusedSimpArgs false
set_option linter.unusedVariables false
set_option linter.unusedSectionVars false

/-! A nought more behind a base's sign; a plain number is itself. -/
theorem digF_last {t : ByteArray} {b : Nat} {f : Nat} {l r : List Nat} (h : digF t b f 0 0 l = some r) : digF t b f 0 48 l = some r := by
  cases f with
  | zero => simp [digF] at h
  | succ f =>
    unfold digF at h ⊢
    by_cases h0 : 0 < t.size
    · rw [if_pos h0] at h ⊢
      by_cases h1 : (Utf8.decode t 0).1 = 95
      · rw [if_pos h1] at h ⊢
        rw [if_neg (by decide)] at h ⊢
        exact h
      · rw [if_neg h1] at h ⊢
        exact h
    · rw [if_neg h0] at h
      simp at h
theorem byteN_shift {t t' : ByteArray} (h : t'.data.toList = 48 :: t.data.toList) (i : Nat) : byteN t' (i + 1) = byteN t i := by
  simp [byteN, h]
theorem size_shift {t t' : ByteArray} (h : t'.data.toList = 48 :: t.data.toList) : t'.size = t.size + 1 := by
  have := congrArg List.length h
  simpa using this
theorem dec_shift {t t' : ByteArray} (h : t'.data.toList = 48 :: t.data.toList) (i : Nat) (hi : i < t.size) : Utf8.decode t' (i + 1) = Utf8.decode t i := by
  have hs := size_shift h
  rw [decode_B t' (i + 1) (by omega), decode_B t i hi, byteN_shift h, show i + 1 + 1 = (i + 1) + 1 from rfl, byteN_shift h, show i + 1 + 2 = (i + 2) + 1 from rfl, byteN_shift h, show i + 1 + 3 = (i + 3) + 1 from rfl, byteN_shift h, show t'.size - (i + 1) = t.size - i by omega]
theorem digF_shift {t t' : ByteArray} (h : t'.data.toList = 48 :: t.data.toList) (b : Nat) : ∀ (f pos last : Nat) (l : List Nat), digF t' b f (pos + 1) last l = digF t b f pos last l
  | 0, _, _, _ => rfl
  | f + 1, pos, last, l => by
    have hs := size_shift h
    unfold digF
    by_cases hp : pos < t.size
    · rw [if_pos hp, if_pos (by omega), dec_shift h pos hp]
      rw [show pos + 1 + (Utf8.decode t pos).2 = (pos + (Utf8.decode t pos).2) + 1 by omega, digF_shift h b f, digF_shift h b f]
    · rw [if_neg hp, if_neg (by omega)]
theorem digF_nought {t t' : ByteArray} (h : t'.data.toList = 48 :: t.data.toList) {b : Nat} (hb : 2 ≤ b) {r : List Nat} (hr : digF t b (t.size + 1) 0 0 [] = some r) : digF t' b (t'.size + 1) 0 0 [] = some r := by
  have hs := size_shift h
  have h0 : byteN t' 0 = 48 := by simp [byteN, h]
  rw [digF, if_pos (by omega), dec_ascii t' 0 (by omega) (by omega), h0]
  rw [if_neg (by decide), if_pos (show digitW 48 < b from by unfold digitW; simp; omega)]
  have h1 : timesF b [] (digitW 48) = [] := rfl
  rw [h1, hs]
  rw [digF_shift h b]
  exact digF_last hr

theorem pre_two (s : ByteArray) (a b : UInt8) : pre s ⟨#[a, b]⟩ = decide (2 ≤ s.size ∧ byteN s 0 = a.toNat ∧ byteN s 1 = b.toNat) := by
  by_cases h : 2 ≤ s.size
  · rw [pre_yes (by exact h)]
    have hL : s.data.toList.length = s.size := by simp
    rw [Lib.extract_toList, List.drop_zero]
    obtain ⟨x, y, r, hl⟩ : ∃ x y r, s.data.toList = x :: y :: r := by
      rcases hs : s.data.toList with _ | ⟨x, _ | ⟨y, r⟩⟩
      · rw [hs] at hL; simp at hL; omega
      · rw [hs] at hL; simp at hL; omega
      · exact ⟨x, y, r, rfl⟩
    have : (⟨#[a, b]⟩ : ByteArray).toList = [a, b] := by rw [Lib.toList_data]
    rw [this, hl, Bool.eq_iff_iff]
    have hz : (⟨#[a, b]⟩ : ByteArray).size = 2 := rfl
    simp only [byteN, hl, hz, beq_iff_eq, decide_eq_true_eq, h, true_and, Nat.sub_zero, List.take_succ_cons, List.take_zero, List.cons.injEq, and_true, List.getD_cons_zero, List.getD_cons_succ, ← UInt8.toNat_inj]
  · rw [pre_no (by exact h)]
    symm; simp; omega
theorem split_16 {s : ByteArray} (h : 2 ≤ s.size) (h0 : byteN s 0 = 48) (h1 : byteN s 1 = 120) : splitF s = some (16, 2) := by
  unfold splitF
  rw [pre_two]; simp [h, h0, h1]
theorem split_2 {s : ByteArray} (h : 2 ≤ s.size) (h0 : byteN s 0 = 48) (h1 : byteN s 1 = 98) : splitF s = some (2, 2) := by
  unfold splitF
  rw [pre_two, pre_two, pre_two]; simp [h, h0, h1]
theorem split_8 {s : ByteArray} (h : 2 ≤ s.size) (h0 : byteN s 0 = 48) (h1 : byteN s 1 = 111) : splitF s = some (8, 2) := by
  unfold splitF
  rw [pre_two, pre_two, pre_two, pre_two, pre_two]; simp [h, h0, h1]
/-- A nought more behind the base's sign. -/
def nought (s : ByteArray) : ByteArray := s.extract 0 2 ++ ⟨#[48]⟩ ++ s.extract 2 s.size
theorem nought_size (s : ByteArray) (h : 2 ≤ s.size) : (nought s).size = s.size + 1 := by
  have h1 : (⟨#[48]⟩ : ByteArray).size = 1 := rfl
  simp only [nought, ByteArray.size_append, ByteArray.size_extract, h1]; omega
theorem nought_list (s : ByteArray) : (nought s).data.toList = s.data.toList.take 2 ++ 48 :: s.data.toList.drop 2 := by
  simp only [nought, ByteArray.data_append, Array.toList_append, Lib.extract_data, List.drop_zero]
  have : (s.data.toList.drop 2).take (s.size - 2) = s.data.toList.drop 2 := List.take_of_length_le (by simp)
  rw [this]
  simp
theorem nought_num {s : ByteArray} {b : Nat} (h : 2 < s.size) (hs : splitF s = some (b, 2)) (hs2 : splitF (nought s) = some (b, 2)) {r : ByteArray} (hr : numR s = some r) : numR (nought s) = some r := by
  obtain ⟨hb, _, _⟩ := split_base hs
  unfold numR at hr ⊢
  rw [hs] at hr
  rw [hs2]
  simp only [Option.map_eq_some_iff] at hr ⊢
  obtain ⟨l, hl, rfl⟩ := hr
  refine ⟨l, digF_nought (t := s.extract 2 s.size) ?_ hb hl, rfl⟩
  have h1 : (s.data.toList.drop 2).take (s.size - 2) = s.data.toList.drop 2 := List.take_of_length_le (by simp)
  rw [Lib.extract_data, Lib.extract_data, nought_list, h1]
  have h2 : (s.data.toList.take 2).length = 2 := by simp; omega
  rw [List.drop_append_of_le_length (by omega), List.drop_of_length_le (by omega), List.nil_append, nought_size s (by omega)]
  exact List.take_of_length_le (by simp; omega)
theorem nought_byte (s : ByteArray) (h : 2 ≤ s.size) (i : Nat) (hi : i < 2) : byteN (nought s) i = byteN s i := by
  have h2 : (s.data.toList.take 2).length = 2 := by simp; omega
  simp only [byteN, nought_list, List.getD_eq_getElem?_getD]
  rw [List.getElem?_append_left (by omega), List.getElem?_take, if_pos hi]
theorem nought_all {s : ByteArray} (h : 2 < s.size) (h2 : s.size ≤ 199) (h0 : byteN s 0 = 48) (h1 : byteN s 1 = 120 ∨ byteN s 1 = 98 ∨ byteN s 1 = 111) (he : numE s = 0) : numE (nought s) = 0 ∧ numV (nought s) = numV s := by
  have hsz := nought_size s (by omega)
  have b0 := nought_byte s (by omega) 0 (by omega)
  have b1 := nought_byte s (by omega) 1 (by omega)
  have key : ∀ r, numR s = some r → numR (nought s) = some r := by
    intro r hr
    rcases h1 with h1 | h1 | h1
    · exact nought_num h (split_16 (by omega) h0 h1) (split_16 (by omega) (by omega) (by omega)) hr
    · exact nought_num h (split_2 (by omega) h0 h1) (split_2 (by omega) (by omega) (by omega)) hr
    · exact nought_num h (split_8 (by omega) h0 h1) (split_8 (by omega) (by omega) (by omega)) hr
  have n1 : ¬ 200 < s.size := by omega
  have n2 : ¬ 200 < (nought s).size := by omega
  unfold numE at he ⊢
  unfold numV
  rw [if_neg n1] at he
  rw [if_neg n2, if_neg n2, if_neg n1]
  cases hr : numR s with
  | none => rw [hr] at he; simp at he
  | some r => rw [key r hr]; simp
end Go.Proofs.Ytppnjliamfnlkaa
