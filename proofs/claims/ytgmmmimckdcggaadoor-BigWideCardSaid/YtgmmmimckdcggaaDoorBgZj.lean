import Derived.Test.YtgmmmimckdcggaaDoorBgZh
namespace Go.Proofs.YtgmmmimckdcggaaDoor
open Go.RowKit Go.Shelf
set_option linter.unusedSimpArgs false
set_option linter.unusedVariables false
set_option linter.unusedSectionVars false

/-! Layer 9: the law of wide numbers. -/
theorem pow_up {a b : Nat} (h : a ≤ b) : (2 : Nat) ^ a ≤ 2 ^ b := Nat.pow_le_pow_right (by decide) h
theorem lim_pow : ∃ N, N = 512 ∧ LIM = 2 ^ N := ⟨512, rfl, by unfold LIM; exact Eq.refl _⟩
theorem dbl_abs (n : Int) (k : Nat) : (n * 2 ^ k).natAbs = n.natAbs * 2 ^ k := by
  rw [Int.natAbs_mul, Int.natAbs_pow]; rfl
theorem dbl_step (n : Int) (k : Nat) : n * 2 ^ k + n * 2 ^ k = n * 2 ^ (k + 1) := by
  rw [Int.pow_succ, ← Int.mul_assoc]
  generalize n * 2 ^ k = x
  omega
theorem wide_hi {n : Int} {k : Nat} (hn : n ≠ 0) (h : (n * 2 ^ k).natAbs < LIM) : k ≤ 511 := by
  obtain ⟨N, hN, hL⟩ := lim_pow
  rw [dbl_abs, hL] at h
  refine Nat.le_of_not_lt fun hk => ?_
  have hk2 : N ≤ k := by clear h hL; omega
  have h1 : (2 : Nat) ^ N ≤ 2 ^ k := pow_up hk2
  have hn1 : 1 ≤ n.natAbs := by clear h h1 hL; omega
  have h2 : 1 * 2 ^ k ≤ n.natAbs * 2 ^ k := Nat.mul_le_mul_right _ hn1
  rw [Nat.one_mul] at h2
  exact absurd (Nat.le_trans h1 h2) (Nat.not_le_of_lt h)
theorem wide_lo {n : Int} {k : Nat} (hn : n.natAbs ≤ 9223372036854775808) (h : LIM ≤ (n * 2 ^ (k + 1)).natAbs) : 448 ≤ k := by
  obtain ⟨N, hN, hL⟩ := lim_pow
  rw [dbl_abs, hL] at h
  refine Nat.le_of_not_lt fun hk => ?_
  have hk2 : k + 1 ≤ N - 64 := by clear h hL; omega
  have h1 : (2 : Nat) ^ (k + 1) ≤ 2 ^ (N - 64) := pow_up hk2
  have hn2 : n.natAbs ≤ 2 ^ 63 := by clear h h1 hL; omega
  have h2 : n.natAbs * 2 ^ (k + 1) ≤ 2 ^ 63 * 2 ^ (N - 64) := Nat.mul_le_mul hn2 h1
  rw [← Nat.pow_add] at h2
  have hk3 : 63 + (N - 64) < N := by clear h h1 h2 hL; omega
  have h3 : (2 : Nat) ^ (63 + (N - 64)) < 2 ^ N := Nat.pow_lt_pow_right (by decide) hk3
  exact absurd (Nat.le_trans h h2) (Nat.not_le_of_lt h3)
set_option maxHeartbeats 3200000 in
theorem wides_v (n : Int) (w : World) (w0 : (Lit.int .i64 n).wf = true) (hE : EnvB w) :
    Calls Tryd.prog 6 #[.int .i64 n] w fun e w' => e = .returned (.bool true) ∧ Below w.heap.size w w' := by
  have z1 : IntKind.i64.min = -9223372036854775808 := rfl
  have z2 : IntKind.i64.max = 9223372036854775807 := rfl
  have hn : (-9223372036854775808 : Int) ≤ n ∧ n ≤ 9223372036854775807 := by simp [Lit.wf, z1, z2] at w0; omega
  clear w0 z1 z2
  have hT := fun w hE => text_nB n w hn.1 hn.2 hE
  have hS := fun k w (hl : (n * 2 ^ k).natAbs < LIM) hE => sum_nn (n * 2 ^ k) (n * 2 ^ k) w hl hl hE
  have hA := fun w hE => awake_v w hE
  have HB := Lib.hid (Below.refl w.heap.size w)
  have HT := Lib.hid hT
  have HS := Lib.hid hS
  have HA := Lib.hid hA
  have HE := Lib.hid hE
  have HN := Lib.hid hn
  have HL0 : Hid ((n * 2 ^ 0).natAbs < LIM) := Lib.hid (by rw [Int.pow_zero, Int.mul_one]; exact lim_small _ (by omega))
  have HN0 : Hid (nB n = nB (n * 2 ^ 0)) := Lib.hid (by rw [Int.pow_zero, Int.mul_one])
  clear hT hS hA hE hn
  go_enter Tryd.func6, Tryd.ntmps6
  go_wp2_with (first
    | (go_at_call 20; with_reducible refine Calls.mono (HT.out _ (HE.out.below HB.out)) ?_; rintro e w1 ⟨rfl, hb⟩; replace HB := Lib.hid (HB.out.trans (hb.mono HB.out.size)); clear hb))
  go_loopw [3, 4] (fun sv kv wr => ∃ k : Nat, sv = .string (nB (n * 2 ^ k)) ∧ kv = .int .i64 k ∧ (n * 2 ^ k).natAbs < LIM ∧ k ≤ 600 ∧ Below w.heap.size w wr) (fun _ kv _ => 600 - (intOf kv).toNat)
  case atStart => exact ⟨0, by rw [HN0.out], rfl, HL0.out, by omega, HB.out⟩
  case round =>
    clear HB
    obtain ⟨k, rfl, rfl, hl, hk, hbw⟩ := hrel
    have HB := Lib.hid hbw
    have hn := HN.out
    by_cases hk6 : k < 600
    · have hs := fun w hE => HS.out k w hl hE
      rw [dbl_step] at hs
      have hki : (k : Int) < 600 := by omega
      have q1 : IntKind.i64.wrap ((k : Int) + 1) = (k : Int) + 1 := IntWalk.i64_in _ (by omega)
      by_cases hbig : LIM ≤ (n * 2 ^ (k + 1)).natAbs
      · have hn0 : n ≠ 0 := by
          rintro rfl
          rw [Int.zero_mul] at hbig
          exact absurd hbig (by decide +kernel)
        have k1 := wide_hi hn0 hl
        have k2 := wide_lo (by clear hbig hl; omega) hbig
        have d1 : (448 : Int) ≤ (k : Int) := by clear hbig hl; omega
        have d2 : (k : Int) ≤ 511 := by clear hbig hl; omega
        have b0 : (n == 0) = false := by rw [beq_eq_false_iff_ne]; exact hn0
        have e1 : wS (n * 2 ^ (k + 1)) = ⟨#[]⟩ := by unfold wS; rw [if_pos hbig]
        have e2 : wE (n * 2 ^ (k + 1)) = 10 := by unfold wE; rw [if_pos hbig]
        rw [e1, e2] at hs
        have HS2 := Lib.hid hs
        generalize nB (n * 2 ^ k) = T at *
        clear hs hbig hl e1 e2 hbw hn k1 k2 hk hk6
        go_wp2_with (first
          | (go_at_call 11; with_reducible refine Calls.mono (HS2.out _ (HE.out.below HB.out)) ?_; rintro e w1 ⟨rfl, hb⟩; replace HB := Lib.hid (HB.out.trans (hb.mono HB.out.size)); clear hb)
          | (go_at_call 17; with_reducible refine Calls.mono (HA.out _ (HE.out.below HB.out)) ?_; rintro e w8 ⟨rfl, hb⟩; replace HB := Lib.hid (HB.out.trans (hb.mono HB.out.size)); clear hb))
        go_ret
        exact ⟨by first | rfl | simp, HB.out⟩
      · have hsm : (n * 2 ^ (k + 1)).natAbs < LIM := Nat.lt_of_not_le hbig
        rw [(wS_in hsm).1, (wS_in hsm).2] at hs
        have HS2 := Lib.hid hs
        have HL2 := Lib.hid hsm
        have hk1 : k + 1 ≤ 600 := by omega
        obtain ⟨T, hT⟩ : ∃ T, nB (n * 2 ^ k) = T := ⟨_, rfl⟩
        obtain ⟨T2, hT2⟩ : ∃ T2, nB (n * 2 ^ (k + 1)) = T2 := ⟨_, rfl⟩
        rw [hT, hT2] at HS2
        rw [hT]
        have HT2 := Lib.hid hT2
        clear hs hbig hl hsm hbw hn hT hT2
        go_wp2_with (first
          | (go_at_call 11; with_reducible refine Calls.mono (HS2.out _ (HE.out.below HB.out)) ?_; rintro e w1 ⟨rfl, hb⟩; replace HB := Lib.hid (HB.out.trans (hb.mono HB.out.size)); clear hb))
        go_roundw
        case rel => exact ⟨k + 1, by rw [HT2.out], by first | rfl | go_num, HL2.out, hk1, HB.out⟩
        case measure => first | (simp [intOf]; done) | (simp [intOf]; omega)
    · obtain rfl : k = 600 := by omega
      obtain rfl : n = 0 := Classical.byContradiction fun hn0 => by have := wide_hi hn0 hl; omega
      generalize nB (0 * 2 ^ 600) = T at *
      clear hl hbw hn hk hk6
      go_wp2_with (first
          | (go_at_call 17; with_reducible refine Calls.mono (HA.out _ (HE.out.below HB.out)) ?_; rintro e w8 ⟨rfl, hb⟩; replace HB := Lib.hid (HB.out.trans (hb.mono HB.out.size)); clear hb))
      go_ret
      exact ⟨by first | rfl | simp, HB.out⟩
end Go.Proofs.YtgmmmimckdcggaaDoor
