import Derived.Test.YtppnjliamfnlkaaLtAb
import Derived.Test.YtppnjliamfnlkaaLtK
namespace Go.Proofs.Ytppnjliamfnlkaa
open Go.RowKit
set_option linter.unusedSimpArgs false
set_option linter.unusedVariables false
set_option linter.unusedSectionVars false

/-! The document's value: so many digits of a base. -/
def valF (s : ByteArray) (base : Nat) : Nat → Nat → Nat → Option Nat
  | 0, _, v => some v
  | n + 1, i, v => if digitW (byteN s i) < base then valF s base n (i + 1) (v * base + digitW (byteN s i)) else none
def refVal (s : ByteArray) (at_ n base : Nat) : Option Nat := if s.size < at_ + n then none else valF s base n at_ 0
theorem byteN_cut (s : ByteArray) (n j : Nat) (h : j < n) : byteN (s.extract 0 n) j = byteN s j := by
  simp only [byteN, Lib.extract_data, List.drop_zero, Nat.sub_zero, List.getD_eq_getElem?_getD]
  rw [List.getElem?_take, if_pos h]
theorem reck_val {t s : ByteArray} {base n a : Nat} (hb : base ≤ 16) (ht : t.size = n) (hbt : ∀ j, j < n → byteN t j = byteN s (a + j)) : ∀ (k pos f v : Nat), n - pos = k → pos ≤ n → n < f + pos → reckF t base f pos v = valF s base k (a + pos) v := by
  intro k
  induction k with
  | zero =>
    intro pos f v hk hp hf
    obtain ⟨f, rfl⟩ : ∃ g, f = g + 1 := ⟨f - 1, by omega⟩
    rw [reckF, if_neg (by rw [ht]; omega)]; rfl
  | succ k ih =>
    intro pos f v hk hp hf
    obtain ⟨f, rfl⟩ : ∃ g, f = g + 1 := ⟨f - 1, by omega⟩
    have hlt : pos < t.size := by rw [ht]; omega
    have hbp := hbt pos (by omega)
    have e2 : valF s base (k + 1) (a + pos) v = if digitW (byteN s (a + pos)) < base then valF s base k (a + pos + 1) (v * base + digitW (byteN s (a + pos))) else none := rfl
    have e1 : reckF t base (f + 1) pos v = (if digitW (Utf8.decode t pos).1 < base then reckF t base f (pos + (Utf8.decode t pos).2) (v * base + digitW (Utf8.decode t pos).1) else none) := by rw [reckF, if_pos hlt]
    rw [e1, e2]
    by_cases hc : byteN s (a + pos) < 128
    · rw [dec_ascii t pos hlt (by rw [hbp]; exact hc), hbp]
      simp only
      by_cases hd : digitW (byteN s (a + pos)) < base
      · rw [if_pos hd, if_pos hd, ih (pos + 1) f _ (by omega) (by omega) (by omega), show a + (pos + 1) = a + pos + 1 by omega]
      · rw [if_neg hd, if_neg hd]
    · have hr := dec_high t pos hlt (by rw [hbp]; omega)
      rw [digitW_high hr, digitW_high (show 128 ≤ byteN s (a + pos) by omega), if_neg (by omega), if_neg (by omega)]
/-- Digits behind a place: as the program reckons them. -/
theorem reckR_val (s : ByteArray) (a n base : Nat) (hb : base ≤ 16) (ha : a ≤ s.size) : reckR (s.extract a s.size) n base = refVal s a n base := by
  have hz : (s.extract a s.size).size = s.size - a := by simp
  unfold reckR refVal
  by_cases h : s.size < a + n
  · rw [if_pos (by rw [hz]; omega), if_pos h]
  · rw [if_neg (by rw [hz]; omega), if_neg h]
    have := reck_val (t := (s.extract a s.size).extract 0 n) (s := s) (base := base) (n := n) (a := a) hb (by simp; omega) (fun j hj => by rw [byteN_cut _ n j hj, byteN_ext]) n 0 (n + 1) 0 (by omega) (by omega) (by omega)
    rw [this, Nat.add_zero]

def valI : Option Nat → Int
  | some v => (v : Int)
  | none => -1

set_option maxHeartbeats 3200000 in
theorem refval_any (s : ByteArray) (a n base : Nat) (w : World) (hs : s.size ≤ 100000000) (ha : a ≤ s.size) (hn : n ≤ 8) (hb2 : 2 ≤ base) (hb : base ≤ 16) (hp : base ^ n ≤ 4294967296) :
    Calls Try.prog 38 #[.string s, .int .i64 a, .int .i64 n, .int .i64 base] w fun e w' => e = .returned (.int .i64 (valI (refVal s a n base))) ∧ w' = w := by
  have hsaI : (s.size : Int) - (a : Int) = ((s.size - a : Nat) : Int) := by omega
  by_cases h : s.size < a + n
  · have hR : refVal s a n base = none := by unfold refVal; rw [if_pos h]
    rw [hR]
    have hd : decide (((s.size - a : Nat) : Int) < (n : Int)) = true := by simp; omega
    have hd2 : decide (s.size - a < n) = true := by simp; omega
    obtain ⟨m, hm⟩ : ∃ m, s.size - a = m := ⟨_, rfl⟩
    rw [hm] at hsaI hd hd2
    clear hm hR hp
    go_enter Try.func38, Try.ntmps38
    go_wp2_with fail
    go_ret
    exact ⟨rfl, rfl⟩
  · have hR : refVal s a n base = valF s base n a 0 := by unfold refVal; rw [if_neg h]
    rw [hR]
    generalize hX : valF s base n a 0 = X
    have HX := Lib.hid hX
    obtain ⟨Z, hZ⟩ : ∃ Z : Int, valI X = Z := ⟨_, rfl⟩
    have HZ := Lib.hid hZ
    rw [hZ]
    obtain ⟨m, hm⟩ : ∃ m, s.size - a = m := ⟨_, rfl⟩
    have hd : decide ((m : Int) < (n : Int)) = false := by simp; omega
    have hd2 : decide (m < n) = false := by simp; omega
    have hnm : n ≤ m := by omega
    have hams : a + m = s.size := by omega
    rw [hm] at hsaI
    clear hm hR hX hZ h
    go_enter Try.func38, Try.ntmps38
    go_wp2_with fail
    go_loopw [9, 10] (fun vv iv wr => ∃ i v : Nat, vv = .int .i64 v ∧ iv = .int .i64 i ∧ i ≤ n ∧ X = valF s base (n - i) (a + i) v ∧ v < base ^ i ∧ wr = w) (fun _ iv _ => n - (intOf iv).toNat)
    case atStart => exact ⟨0, 0, rfl, rfl, by omega, HX.out.symm, by simp, rfl⟩
    case round =>
      obtain ⟨i, v, rfl, rfl, hi, he, hv, rfl⟩ := hrel
      have HE := Lib.hid he
      clear he HX
      by_cases hlt : i < n
      · obtain ⟨q, hq⟩ : ∃ q, n - i = q + 1 := ⟨n - i - 1, by omega⟩
        have hst : valF s base (n - i) (a + i) v = if digitW (byteN s (a + i)) < base then valF s base q (a + i + 1) (v * base + digitW (byteN s (a + i))) else none := by rw [hq]; rfl
        obtain ⟨p, hpp⟩ : ∃ p, a + i = p := ⟨_, rfl⟩
        have hpI : (a : Int) + (i : Int) = (p : Int) := by omega
        have hps : p < s.size := by omega
        have hpsI : (p : Int) < s.size := by omega
        rw [hpp] at hst
        have hbx := str_byte s p hps
        have hc := byteN_lt s p
        have hdg := fun w => rdigit_any (byteN s p) hc w
        by_cases hdb : digitW (byteN s p) < base
        · rw [if_pos hdb] at hst
          have hlt2 := step_lt hv hdb
          have hle1 : base ^ (i + 1) ≤ base ^ n := Nat.pow_le_pow_right (by omega) (by omega)
          have hmx : v * base + digitW (byteN s p) < 4294967296 := by omega
          have HN : Hid (X = valF s base (n - (i + 1)) (a + (i + 1)) (v * base + digitW (byteN s p))) := Lib.hid (by rw [HE.out]; rw [hpp, hst, show n - (i + 1) = q by omega, show a + (i + 1) = p + 1 by omega])
          have HV : Hid (v * base + digitW (byteN s p) < base ^ (i + 1)) := Lib.hid hlt2
          clear hst hlt2 hle1 hv hp
          generalize byteN s p = c at *
          generalize digitW c = dw at *
          obtain ⟨y, hy⟩ : ∃ y, v * base = y := ⟨_, rfl⟩
          have hyI : (v : Int) * (base : Int) = (y : Int) := by rw [← hy, Int.natCast_mul]
          rw [hy] at HN HV hmx
          clear hy hpp hq
          go_wp2_with (go_at_call 21; with_reducible refine Calls.mono (hdg _) ?_; rintro e w2 ⟨rfl, hw2⟩; replace hw2 := hw2.symm; subst hw2)
          go_roundw
          case rel => exact ⟨i + 1, y + dw, by go_num, by go_num, by omega, HN.out, HV.out, by first | rfl | trivial⟩
          case measure => simp [intOf]; omega
        · rw [if_neg hdb] at hst
          have HN : Hid (X = none) := Lib.hid (by rw [HE.out, hpp, hst])
          have hdb2 : decide (base ≤ digitW (byteN s p)) = true := by simp; omega
          have hdb3 : decide ((base : Int) ≤ (digitW (byteN s p) : Int)) = true := by simp; omega
          clear hst hv hp
          generalize byteN s p = c at *
          generalize digitW c = dw at *
          clear hpp hq
          go_wp2_with (go_at_call 21; with_reducible refine Calls.mono (hdg _) ?_; rintro e w2 ⟨rfl, hw2⟩; replace hw2 := hw2.symm; subst hw2)
          go_ret
          exact ⟨by rw [← HZ.out]; unfold Hid at HN; rw [HN]; rfl, rfl⟩
      · have HN : Hid (X = some v) := Lib.hid (by rw [HE.out, show n - i = 0 by omega]; rfl)
        clear hv hp
        go_wp2_with fail
        go_ret
        exact ⟨by rw [← HZ.out]; unfold Hid at HN; rw [HN]; rfl, rfl⟩
end Go.Proofs.Ytppnjliamfnlkaa
