import Derived.Test.YtjgpopjnmonlkaaGreatDoorPlE1
namespace Go.Proofs.YtjgpopjnmonlkaaGreatDoor
open Go.RowKit

theorem get_byteN (s : ByteArray) (j : Nat) : (s.get! j).toNat = byteN s j := by
  unfold byteN ByteArray.get!
  cases s with
  | mk d =>
    show (d[j]!).toNat = _
    rw [getElem!_def, List.getD]
    simp only [Array.getElem?_toList]
    cases h : d[j]? <;> simp
    rfl

def decB (b0 b1 b2 b3 n : Nat) : Nat × Nat :=
  if b0 < 128 then (b0, 1)
  else if 192 ≤ b0 ∧ b0 < 224 ∧ 1 < n ∧ 128 ≤ b1 ∧ b1 < 192 then
    (if 128 ≤ (b0 - 192) * 64 + (b1 - 128) then ((b0 - 192) * 64 + (b1 - 128), 2) else (65533, 1))
  else if 224 ≤ b0 ∧ b0 < 240 ∧ (1 < n ∧ 128 ≤ b1 ∧ b1 < 192) ∧ (2 < n ∧ 128 ≤ b2 ∧ b2 < 192) then
    (if 2048 ≤ (b0 - 224) * 4096 + (b1 - 128) * 64 + (b2 - 128) ∧ ((b0 - 224) * 4096 + (b1 - 128) * 64 + (b2 - 128) < 55296 ∨ 57344 ≤ (b0 - 224) * 4096 + (b1 - 128) * 64 + (b2 - 128)) then
      ((b0 - 224) * 4096 + (b1 - 128) * 64 + (b2 - 128), 3) else (65533, 1))
  else if 240 ≤ b0 ∧ b0 < 248 ∧ (1 < n ∧ 128 ≤ b1 ∧ b1 < 192) ∧ (2 < n ∧ 128 ≤ b2 ∧ b2 < 192) ∧ (3 < n ∧ 128 ≤ b3 ∧ b3 < 192) then
    (if 65536 ≤ (b0 - 240) * 262144 + (b1 - 128) * 4096 + (b2 - 128) * 64 + (b3 - 128) ∧ (b0 - 240) * 262144 + (b1 - 128) * 4096 + (b2 - 128) * 64 + (b3 - 128) ≤ 1114111 then
      ((b0 - 240) * 262144 + (b1 - 128) * 4096 + (b2 - 128) * 64 + (b3 - 128), 4) else (65533, 1))
  else (65533, 1)

theorem decode_B (s : ByteArray) (i : Nat) (h : i < s.size) : Utf8.decode s i = decB (byteN s i) (byteN s (i + 1)) (byteN s (i + 2)) (byteN s (i + 3)) (s.size - i) := by
  have h0 := byteN_lt s i
  have h1 := byteN_lt s (i + 1)
  have h2 := byteN_lt s (i + 2)
  have h3 := byteN_lt s (i + 3)
  simp only [Utf8.decode, get_byteN, Nat.add_zero, decB]
  generalize byteN s i = b0 at *
  generalize byteN s (i + 1) = b1 at *
  generalize byteN s (i + 2) = b2 at *
  generalize byteN s (i + 3) = b3 at *
  have e1 : (b0 / 32 == 6 && (decide (i + 1 < s.size) && b1 / 64 == 2)) = decide (192 ≤ b0 ∧ b0 < 224 ∧ 1 < s.size - i ∧ 128 ≤ b1 ∧ b1 < 192) := by
    rw [Bool.eq_iff_iff]; simp only [Bool.and_eq_true, decide_eq_true_eq, beq_iff_eq]; omega
  have e2 : (b0 / 16 == 14 && (decide (i + 1 < s.size) && b1 / 64 == 2) && (decide (i + 2 < s.size) && b2 / 64 == 2)) = decide (224 ≤ b0 ∧ b0 < 240 ∧ (1 < s.size - i ∧ 128 ≤ b1 ∧ b1 < 192) ∧ (2 < s.size - i ∧ 128 ≤ b2 ∧ b2 < 192)) := by
    rw [Bool.eq_iff_iff]; simp only [Bool.and_eq_true, decide_eq_true_eq, beq_iff_eq]; omega
  have e3 : (b0 / 8 == 30 && (decide (i + 1 < s.size) && b1 / 64 == 2) && (decide (i + 2 < s.size) && b2 / 64 == 2) && (decide (i + 3 < s.size) && b3 / 64 == 2)) = decide (240 ≤ b0 ∧ b0 < 248 ∧ (1 < s.size - i ∧ 128 ≤ b1 ∧ b1 < 192) ∧ (2 < s.size - i ∧ 128 ≤ b2 ∧ b2 < 192) ∧ (3 < s.size - i ∧ 128 ≤ b3 ∧ b3 < 192)) := by
    rw [Bool.eq_iff_iff]; simp only [Bool.and_eq_true, decide_eq_true_eq, beq_iff_eq]; omega
  rw [e1, e2, e3]
  simp only [decide_eq_true_eq]
  clear e1 e2 e3
  split
  · rfl
  split
  · rename_i hc
    rw [show b0 % 32 = b0 - 192 by omega, show b1 % 64 = b1 - 128 by omega]
    rfl
  split
  · rename_i hc
    rw [show b0 % 16 = b0 - 224 by omega, show b1 % 64 = b1 - 128 by omega, show b2 % 64 = b2 - 128 by omega]
    have hb : (b0 - 224) * 4096 + (b1 - 128) * 64 + (b2 - 128) ≤ 65535 := by omega
    generalize (b0 - 224) * 4096 + (b1 - 128) * 64 + (b2 - 128) = c at hb ⊢
    have e : (decide (c ≥ 2048) && Utf8.valid c) = decide (2048 ≤ c ∧ (c < 55296 ∨ 57344 ≤ c)) := by
      rw [Bool.eq_iff_iff]; simp only [Utf8.valid, Bool.and_eq_true, Bool.or_eq_true, decide_eq_true_eq]; omega
    rw [e]
    simp only [decide_eq_true_eq]
    rfl
  split
  · rename_i hc
    rw [show b0 % 8 = b0 - 240 by omega, show b1 % 64 = b1 - 128 by omega, show b2 % 64 = b2 - 128 by omega, show b3 % 64 = b3 - 128 by omega]
    generalize (b0 - 240) * 262144 + (b1 - 128) * 4096 + (b2 - 128) * 64 + (b3 - 128) = c
    have e : (decide (c ≥ 65536) && Utf8.valid c) = decide (65536 ≤ c ∧ c ≤ 1114111) := by
      rw [Bool.eq_iff_iff]; simp only [Utf8.valid, Bool.and_eq_true, Bool.or_eq_true, decide_eq_true_eq]; omega
    rw [e]
    simp only [decide_eq_true_eq]
    rfl
  · rfl

def sgT (n k : Nat) (r : Option Int) (least : Int) : Int × Int :=
  if n < k then (1, -1) else match r with
  | none => (1, -1)
  | some v => if oddV v least then (1, -1) else ((k : Int), v)
def c1B (b1 : Nat) (v : Int) : Option Int := if b1 < 128 ∨ 191 < b1 then none else some (64 * v + b1 - 128)

/-- What is told of a sign, out of what is decoded. -/
def told (d : Nat × Nat) : Int × Int := ((d.2 : Int), if d = (65533, 1) then -1 else (d.1 : Int))
theorem told_bad : told (65533, 1) = (1, -1) := rfl
theorem told_ok {c k : Nat} (h : 1 < k ∨ c < 128) : told (c, k) = ((k : Int), (c : Int)) := by
  unfold told; rw [if_neg (by simp; omega)]

theorem oddV_no {v l : Int} (h : l ≤ v) (h2 : v ≤ 1114111) (h3 : v < 55296 ∨ 57343 < v) : oddV v l = false := by
  simp [oddV]; omega
theorem oddV_yes {v l : Int} (h : v < l ∨ 1114111 < v ∨ (55296 ≤ v ∧ v ≤ 57343)) : oddV v l = true := by
  simp [oddV]; omega

theorem signF_told (s : ByteArray) (i : Nat) (h : i < s.size) : signF s i = told (Utf8.decode s i) := by
  rw [decode_B s i h]
  have h0 := byteN_lt s i
  have h1 := byteN_lt s (i + 1)
  have h2 := byteN_lt s (i + 2)
  have h3 := byteN_lt s (i + 3)
  simp only [signF, tailV, contV, decB]
  rw [show i + (1 + 1) = i + 2 from rfl, show i + (1 + 1 + 1) = i + 3 from rfl]
  generalize byteN s i = b0 at *
  generalize byteN s (i + 1) = b1 at *
  generalize byteN s (i + 2) = b2 at *
  generalize byteN s (i + 3) = b3 at *
  by_cases g0 : b0 < 128
  · rw [if_pos g0, if_pos g0, told_ok (.inr g0)]; rfl
  rw [if_neg g0, if_neg g0]
  by_cases g1 : 194 ≤ b0 ∧ b0 ≤ 223
  · rw [if_pos g1]
    by_cases n1 : s.size < i + 2
    · rw [if_pos n1, if_neg (by omega), if_neg (by omega), if_neg (by omega)]; rfl
    rw [if_neg n1]
    by_cases k1 : b1 < 128 ∨ 191 < b1
    · rw [if_pos k1, if_neg (by omega), if_neg (by omega), if_neg (by omega)]; rfl
    rw [if_neg k1, if_pos (by omega), if_pos (by omega), told_ok (.inl (by omega))]
    simp only
    rw [oddV_no (by omega) (by omega) (by omega)]
    simp; omega
  rw [if_neg g1]
  by_cases g2 : 224 ≤ b0 ∧ b0 ≤ 239
  · rw [if_pos g2]
    by_cases n1 : s.size < i + 3
    · rw [if_pos n1, if_neg (by omega), if_neg (by omega), if_neg (by omega)]; rfl
    rw [if_neg n1]
    by_cases k1 : b1 < 128 ∨ 191 < b1
    · rw [if_pos k1, if_neg (by omega), if_neg (by omega), if_neg (by omega)]; rfl
    rw [if_neg k1]
    by_cases k2 : b2 < 128 ∨ 191 < b2
    · rw [if_pos k2, if_neg (by omega), if_neg (by omega), if_neg (by omega)]; rfl
    rw [if_neg k2, if_neg (by omega), if_pos (show 224 ≤ b0 ∧ b0 < 240 ∧ (1 < s.size - i ∧ 128 ≤ b1 ∧ b1 < 192) ∧ 2 < s.size - i ∧ 128 ≤ b2 ∧ b2 < 192 by omega)]
    simp only
    have e : (64 * (64 * ((b0 : Int) - 224) + b1 - 128) + b2 - 128) = (((b0 - 224) * 4096 + (b1 - 128) * 64 + (b2 - 128) : Nat) : Int) := by omega
    rw [e]
    have hb : (b0 - 224) * 4096 + (b1 - 128) * 64 + (b2 - 128) ≤ 65535 := by omega
    generalize (b0 - 224) * 4096 + (b1 - 128) * 64 + (b2 - 128) = c at hb ⊢
    by_cases hc : 2048 ≤ c ∧ (c < 55296 ∨ 57344 ≤ c)
    · rw [if_pos hc, oddV_no (by omega) (by omega) (by omega), told_ok (.inl (by omega))]; rfl
    · rw [if_neg hc, oddV_yes (by omega)]; rfl
  rw [if_neg g2]
  by_cases g3 : 240 ≤ b0 ∧ b0 ≤ 244
  · rw [if_pos g3]
    by_cases n1 : s.size < i + 4
    · rw [if_pos n1, if_neg (by omega), if_neg (by omega), if_neg (by omega)]; rfl
    rw [if_neg n1]
    by_cases k1 : b1 < 128 ∨ 191 < b1
    · rw [if_pos k1, if_neg (by omega), if_neg (by omega), if_neg (by omega)]; rfl
    rw [if_neg k1]
    by_cases k2 : b2 < 128 ∨ 191 < b2
    · rw [if_pos k2, if_neg (by omega), if_neg (by omega), if_neg (by omega)]; rfl
    rw [if_neg k2]
    by_cases k3 : b3 < 128 ∨ 191 < b3
    · rw [if_pos k3, if_neg (by omega), if_neg (by omega), if_neg (by omega)]; rfl
    rw [if_neg k3, if_neg (by omega), if_neg (by omega), if_pos (by omega)]
    simp only
    have e : (64 * (64 * (64 * ((b0 : Int) - 240) + b1 - 128) + b2 - 128) + b3 - 128) = (((b0 - 240) * 262144 + (b1 - 128) * 4096 + (b2 - 128) * 64 + (b3 - 128) : Nat) : Int) := by omega
    rw [e]
    generalize (b0 - 240) * 262144 + (b1 - 128) * 4096 + (b2 - 128) * 64 + (b3 - 128) = c
    by_cases hc : 65536 ≤ c ∧ c ≤ 1114111
    · rw [if_pos hc, oddV_no (by omega) (by omega) (by omega), told_ok (.inl (by omega))]; rfl
    · rw [if_neg hc, oddV_yes (by omega)]; rfl
  rw [if_neg g3]
  by_cases q1 : 192 ≤ b0 ∧ b0 < 224 ∧ 1 < s.size - i ∧ 128 ≤ b1 ∧ b1 < 192
  · rw [if_pos q1, if_neg (by omega)]; rfl
  rw [if_neg q1, if_neg (by omega)]
  split
  · rw [if_neg (by omega)]; rfl
  · rfl

end Go.Proofs.YtjgpopjnmonlkaaGreatDoor
