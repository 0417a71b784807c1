import Derived.Test.YtgoaakdopbielaaDoorPlM
import Derived.Test.YtgoaakdopbielaaDoorPlB
namespace Go.Proofs.YtgoaakdopbielaaDoor
open Go.RowKit

theorem drop3 (L : List UInt8) (i : Nat) (h : i + 3 ≤ L.length) : (L.drop i).take 3 = [L.getD i 0, L.getD (i + 1) 0, L.getD (i + 2) 0] := by
  have e0 := List.drop_eq_getElem_cons (show i < L.length by omega)
  have e1 := List.drop_eq_getElem_cons (show i + 1 < L.length by omega)
  have e2 := List.drop_eq_getElem_cons (show i + 1 + 1 < L.length by omega)
  rw [e0, e1, e2]
  have d0 : L.getD i 0 = L[i] := by simp [List.getD, List.getElem?_eq_getElem (show i < L.length by omega)]
  have d1 : L.getD (i + 1) 0 = L[i + 1] := by simp [List.getD, List.getElem?_eq_getElem (show i + 1 < L.length by omega)]
  have d2 : L.getD (i + 2) 0 = L[i + 2] := by simp [List.getD, List.getElem?_eq_getElem (show i + 2 < L.length by omega)]
  rw [d0, d1, d2]
  rfl

theorem pre_mk3 (s : ByteArray) (i : Nat) (hi : i ≤ s.size) : pre (s.extract i s.size) mk3 = decide (i + 3 ≤ s.size ∧ byteN s i = 239 ∧ byteN s (i + 1) = 191 ∧ byteN s (i + 2) = 189) := by
  have hs : (s.extract i s.size).size = s.size - i := by simp
  have h3 : mk3.size = 3 := rfl
  have hL : s.data.toList.length = s.size := by simp
  by_cases h : i + 3 ≤ s.size
  · rw [pre_yes (by omega), h3]
    rw [Lib.extract_toList, Lib.extract_data, List.drop_zero, Nat.sub_zero, List.take_take, Nat.min_eq_left (by omega), drop3 _ _ (by omega)]
    have : mk3.toList = [239, 191, 189] := by decide +kernel
    rw [this, Bool.eq_iff_iff]
    simp only [byteN, beq_iff_eq, List.cons.injEq, decide_eq_true_eq, h, true_and, and_true, ← UInt8.toNat_inj]
    rfl
  · rw [pre_no (by omega)]
    symm; simp; omega

theorem byteN_hi (s : ByteArray) (i : Nat) : byteN s i < 256 := byteN_lt s i

/-- FFFD is decoded where no sign begins, and where it is written out. -/
theorem dec_fffd (s : ByteArray) (i : Nat) (h : i < s.size) (hd : (Utf8.decode s i).1 = 65533) :
    (Utf8.decode s i = (65533, 1)) ↔ ¬ (i + 3 ≤ s.size ∧ byteN s i = 239 ∧ byteN s (i + 1) = 191 ∧ byteN s (i + 2) = 189) := by
  rw [decode_B s i h] at hd ⊢
  have h0 := byteN_lt s i
  have h1 := byteN_lt s (i + 1)
  have h2 := byteN_lt s (i + 2)
  have h3 := byteN_lt s (i + 3)
  revert hd
  simp only [decB]
  generalize byteN s i = b0 at *
  generalize byteN s (i + 1) = b1 at *
  generalize byteN s (i + 2) = b2 at *
  generalize byteN s (i + 3) = b3 at *
  repeat' split
  all_goals (intro hd; (try simp only at hd); simp only [Prod.mk.injEq, true_iff, and_true]; omega)

theorem bad_iff (s : ByteArray) (i : Nat) (h : i < s.size) : badAt s i (Utf8.decode s i).1 = true ↔ (signV s i ≤ 0 ∨ (signV s i = 65279 ∧ 0 < i)) := by
  have hv : signV s i = (told (Utf8.decode s i)).2 := by rw [signV, signF_told s i h]
  rw [hv]
  unfold badAt noSg
  rw [pre_mk3 s i (by omega)]
  have hf := dec_fffd s i h
  generalize Utf8.decode s i = d at *
  obtain ⟨c, k⟩ := d
  simp only at hf ⊢
  by_cases hc : c = 65533
  · subst hc
    simp only [true_implies] at hf
    by_cases hk : k = 1
    · subst hk
      have := hf.1 rfl
      simp [told, this]
    · have : ¬¬ _ := fun hn => hk (by have := hf.2 hn; simpa using this)
      have := Decidable.not_not.1 this
      simp [told, hk, this]
  · have e : told (c, k) = ((k : Int), (c : Int)) := by unfold told; rw [if_neg (by simp [hc])]
    rw [e]
    simp
    omega

end Go.Proofs.YtgoaakdopbielaaDoor
