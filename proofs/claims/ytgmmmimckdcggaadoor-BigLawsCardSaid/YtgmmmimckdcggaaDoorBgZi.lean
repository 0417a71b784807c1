import Derived.Test.YtgmmmimckdcggaaDoorBgZd
namespace Go.Proofs.YtgmmmimckdcggaaDoor
open Go.RowKit Go.Shelf
set_option linter.unusedSimpArgs false
set_option linter.unusedVariables false
set_option linter.unusedSectionVars false

/-! Layer 9: the law of sums and products. -/
theorem nB_small (z : Int) (h : (nB z).size ≤ 70) : z.natAbs < 10 ^ 70 := by
  have hsz : (nB z).size = (Lib.itoa z).length := by simp [nB, ByteArray.size]
  have hd := dec_plain z.natAbs
  have hl : (Lib.decDigits z.natAbs).length ≤ 70 := by
    rw [hsz] at h
    rcases itoa_cases z with ⟨_, h2⟩ | ⟨_, h2⟩
    · rw [h2, List.length_cons] at h; omega
    · rw [h2] at h; exact h
  have := undec_lt _ hd.2.1
  rw [undec_dec] at this
  exact Nat.lt_of_lt_of_le this (Nat.pow_le_pow_right (by decide) hl)
theorem lim_big (z : Int) (h : z.natAbs < 3 * (10 ^ 70 * 10 ^ 70)) : z.natAbs < LIM := Nat.lt_of_lt_of_le h (by decide +kernel)
set_option maxRecDepth 100000 in
set_option maxHeartbeats 3200000 in
theorem laws_long (a b c : ByteArray) (w : World) (h : 70 < a.size ∨ 70 < b.size ∨ 70 < c.size) : Calls Tryd.prog 5 #[.string a, .string b, .string c] w fun e w' => e = .returned (.bool true) ∧ Below w.heap.size w w' := by
  have HB := Lib.hid (Below.refl w.heap.size w)
  by_cases h1 : 70 < a.size
  · have i1 : (70 : Int) < (a.size : Int) := by omega
    clear h
    go_enter Tryd.func5, Tryd.ntmps5
    go_wp2_with fail
    go_ret
    exact ⟨by first | rfl | simp, HB.out⟩
  have n1 : ¬ (70 : Int) < (a.size : Int) := by omega
  by_cases h2 : 70 < b.size
  · have i2 : (70 : Int) < (b.size : Int) := by omega
    clear h
    go_enter Tryd.func5, Tryd.ntmps5
    go_wp2_with fail
    go_ret
    exact ⟨by first | rfl | simp, HB.out⟩
  have n2 : ¬ (70 : Int) < (b.size : Int) := by omega
  have h3 : 70 < c.size := by omega
  · have i3 : (70 : Int) < (c.size : Int) := by omega
    clear h
    go_enter Tryd.func5, Tryd.ntmps5
    go_wp2_with fail
    go_ret
    exact ⟨by first | rfl | simp, HB.out⟩
set_option maxRecDepth 100000 in
set_option maxHeartbeats 3200000 in
theorem laws_no (a b c : ByteArray) (w : World) (hE : EnvB w) (ha : a.size ≤ 70) (hb : b.size ≤ 70) (hc : c.size ≤ 70) (h : (rightB a.data.toList && (rightB b.data.toList && rightB c.data.toList)) = false) : Calls Tryd.prog 5 #[.string a, .string b, .string c] w fun e w' => e = .returned (.bool true) ∧ Below w.heap.size w w' := by
  have HB := Lib.hid (Below.refl w.heap.size w)
  have n1 : ¬ (70 : Int) < (a.size : Int) := by omega
  have n2 : ¬ (70 : Int) < (b.size : Int) := by omega
  have n3 : ¬ (70 : Int) < (c.size : Int) := by omega
  have m1 : ¬ (a.size : Int) > 70 := by omega
  have m2 : ¬ (b.size : Int) > 70 := by omega
  have m3 : ¬ (c.size : Int) > 70 := by omega
  have h1 := fun w => right_v a w
  have h2 := fun w => right_v b w
  have h3 := fun w => right_v c w
  have hA := fun w hE => awake_v w hE
  generalize rightB a.data.toList = P at *
  generalize rightB b.data.toList = Q at *
  generalize rightB c.data.toList = R at *
  have H1 := Lib.hid h1
  have H2 := Lib.hid h2
  have H3 := Lib.hid h3
  have HA := Lib.hid hA
  have HE := Lib.hid hE
  clear h1 h2 h3 hA hE ha hb hc
  obtain rfl | ⟨rfl, rfl⟩ | ⟨rfl, rfl, rfl⟩ : P = false ∨ (P = true ∧ Q = false) ∨ (P = true ∧ Q = true ∧ R = false) := by cases P <;> cases Q <;> cases R <;> simp_all
  all_goals
    clear h
    go_enter Tryd.func5, Tryd.ntmps5
    go_wp2_with (first
      | (go_at_call 21; with_reducible refine Calls.mono (H1.out _) ?_; rintro e w1 ⟨rfl, hb⟩; replace HB := Lib.hid (HB.out.trans (hb.mono HB.out.size)); clear hb)
      | (go_at_call 21; with_reducible refine Calls.mono (H2.out _) ?_; rintro e w1 ⟨rfl, hb⟩; replace HB := Lib.hid (HB.out.trans (hb.mono HB.out.size)); clear hb)
      | (go_at_call 21; with_reducible refine Calls.mono (H3.out _) ?_; rintro e w1 ⟨rfl, hb⟩; replace HB := Lib.hid (HB.out.trans (hb.mono HB.out.size)); clear hb)
      | (go_at_call 17; with_reducible refine Calls.mono (HA.out _ (HE.out.below HB.out)) ?_; rintro e w1 ⟨rfl, hb⟩; replace HB := Lib.hid (HB.out.trans (hb.mono HB.out.size)); clear hb))
    go_ret
    exact ⟨by first | rfl | simp, HB.out⟩
set_option maxRecDepth 100000 in
set_option maxHeartbeats 6400000 in
theorem laws_v (a b c : ByteArray) (w : World) (hE : EnvB w) : Calls Tryd.prog 5 #[.string a, .string b, .string c] w fun e w' => e = .returned (.bool true) ∧ Below w.heap.size w w' := by
  by_cases hl : 70 < a.size ∨ 70 < b.size ∨ 70 < c.size
  · exact laws_long a b c w hl
  have ha : a.size ≤ 70 := by omega
  have hb : b.size ≤ 70 := by omega
  have hc : c.size ≤ 70 := by omega
  clear hl
  cases h : (rightB a.data.toList && (rightB b.data.toList && rightB c.data.toList)) with
  | false => exact laws_no a b c w hE ha hb hc h
  | true =>
    rw [Bool.and_eq_true, Bool.and_eq_true] at h
    have HB := Lib.hid (Below.refl w.heap.size w)
    have h1 := fun w => right_v a w
    have h2 := fun w => right_v b w
    have h3 := fun w => right_v c w
    have hA := fun w hE => awake_v w hE
    rw [h.1] at h1
    rw [h.2.1] at h2
    rw [h.2.2] at h3
    obtain ⟨x, hx, rfl⟩ := nB_of h.1
    obtain ⟨y, hy, rfl⟩ := nB_of h.2.1
    obtain ⟨z, hz, rfl⟩ := nB_of h.2.2
    clear h
    have n1 : ¬ (70 : Int) < ((nB x).size : Int) := by omega
    have n2 : ¬ (70 : Int) < ((nB y).size : Int) := by omega
    have n3 : ¬ (70 : Int) < ((nB z).size : Int) := by omega
    have bx := nB_small x ha
    have by' := nB_small y hb
    have bz := nB_small z hc
    have g1 : (x * y).natAbs < 10 ^ 70 * 10 ^ 70 := by rw [Int.natAbs_mul]; exact Nat.mul_lt_mul'' bx by'
    have g2 : (x * z).natAbs < 10 ^ 70 * 10 ^ 70 := by rw [Int.natAbs_mul]; exact Nat.mul_lt_mul'' bx bz
    have g3 : (y * z).natAbs < 10 ^ 70 * 10 ^ 70 := by rw [Int.natAbs_mul]; exact Nat.mul_lt_mul'' by' bz
    have g4 : (x + y).natAbs < 2 * 10 ^ 70 := by omega
    have hd : (x + y) * z = x * z + y * z := Int.add_mul x y z
    have g5 : (x * z + y * z).natAbs < 3 * (10 ^ 70 * 10 ^ 70) := by
      generalize x * z = p at *
      generalize y * z = q at *
      generalize (10 ^ 70 * 10 ^ 70 : Nat) = L at *
      omega
    have s1 : (x + y).natAbs < LIM := lim_big _ (by omega)
    have s2 : (x * y).natAbs < LIM := lim_big _ (by omega)
    have s3 : (x * z).natAbs < LIM := lim_big _ (by omega)
    have s4 : (y * z).natAbs < LIM := lim_big _ (by omega)
    have s5 : (x * z + y * z).natAbs < LIM := lim_big _ g5
    have k1 := fun w hE => sum_nn x y w hx hy hE
    have k2 := fun w hE => sum_nn y x w hy hx hE
    have k3 := fun w hE => less_nn (x + y) y w s1 hy hE
    have k4 := fun w hE => times_nn x y w hx hy hE
    have k5 := fun w hE => times_nn y x w hy hx hE
    have k6 := fun w hE => times_nn (x + y) z w s1 hz hE
    have k7 := fun w hE => times_nn x z w hx hz hE
    have k8 := fun w hE => times_nn y z w hy hz hE
    have k9 := fun w hE => sum_nn (x * z) (y * z) w s3 s4 hE
    rw [(wS_in s1).1, (wS_in s1).2] at k1
    rw [Int.add_comm y x, (wS_in s1).1, (wS_in s1).2] at k2
    rw [show x + y - y = x by omega, (wS_in hx).1, (wS_in hx).2] at k3
    rw [(wS_in s2).1, (wS_in s2).2] at k4
    rw [Int.mul_comm y x, (wS_in s2).1, (wS_in s2).2] at k5
    rw [hd, (wS_in s5).1, (wS_in s5).2] at k6
    rw [(wS_in s3).1, (wS_in s3).2] at k7
    rw [(wS_in s4).1, (wS_in s4).2] at k8
    rw [(wS_in s5).1, (wS_in s5).2] at k9
    have HA := Lib.hid hA
    have HE := Lib.hid hE
    have H1 := Lib.hid h1
    have H2 := Lib.hid h2
    have H3 := Lib.hid h3
    clear hA hE h1 h2 h3 g1 g2 g3 g4 g5 bx by' bz ha hb hc hd
    by_cases hy0 : y = 0
    · have hw : ((nB y).toList == [48]) = true := by rw [ByteArray.toList_eq, (nB_zero_iff y).mpr hy0]; rfl
      clear hx hy hz s1 s2 s3 s4 s5 hy0
      generalize nB (x * z + y * z) = SXY at *
      generalize nB (x + y) = SS at *
      generalize nB (x * y) = PP at *
      generalize nB (x * z) = XZ at *
      generalize nB (y * z) = YZ at *
      generalize nB x = X at *
      generalize nB y = Y at *
      generalize nB z = Z at *
      have K1 := Lib.hid k1
      have K2 := Lib.hid k2
      have K3 := Lib.hid k3
      have K4 := Lib.hid k4
      have K5 := Lib.hid k5
      have K6 := Lib.hid k6
      have K7 := Lib.hid k7
      have K8 := Lib.hid k8
      have K9 := Lib.hid k9
      clear k1 k2 k3 k4 k5 k6 k7 k8 k9
      go_enter Tryd.func5, Tryd.ntmps5
      go_wp2_with (first
        | (go_at_call 21; with_reducible refine Calls.mono (H1.out _) ?_; rintro e w1 ⟨rfl, hb⟩; replace HB := Lib.hid (HB.out.trans (hb.mono HB.out.size)); clear hb)
        | (go_at_call 21; with_reducible refine Calls.mono (H2.out _) ?_; rintro e w1 ⟨rfl, hb⟩; replace HB := Lib.hid (HB.out.trans (hb.mono HB.out.size)); clear hb)
        | (go_at_call 21; with_reducible refine Calls.mono (H3.out _) ?_; rintro e w1 ⟨rfl, hb⟩; replace HB := Lib.hid (HB.out.trans (hb.mono HB.out.size)); clear hb)
        | (go_at_call 11; with_reducible refine Calls.mono (K1.out _ (HE.out.below HB.out)) ?_; rintro e w1 ⟨rfl, hb⟩; replace HB := Lib.hid (HB.out.trans (hb.mono HB.out.size)); clear hb)
        | (go_at_call 11; with_reducible refine Calls.mono (K2.out _ (HE.out.below HB.out)) ?_; rintro e w1 ⟨rfl, hb⟩; replace HB := Lib.hid (HB.out.trans (hb.mono HB.out.size)); clear hb)
        | (go_at_call 12; with_reducible refine Calls.mono (K3.out _ (HE.out.below HB.out)) ?_; rintro e w1 ⟨rfl, hb⟩; replace HB := Lib.hid (HB.out.trans (hb.mono HB.out.size)); clear hb)
        | (go_at_call 13; with_reducible refine Calls.mono (K4.out _ (HE.out.below HB.out)) ?_; rintro e w1 ⟨rfl, hb⟩; replace HB := Lib.hid (HB.out.trans (hb.mono HB.out.size)); clear hb)
        | (go_at_call 13; with_reducible refine Calls.mono (K5.out _ (HE.out.below HB.out)) ?_; rintro e w1 ⟨rfl, hb⟩; replace HB := Lib.hid (HB.out.trans (hb.mono HB.out.size)); clear hb)
        | (go_at_call 13; with_reducible refine Calls.mono (K6.out _ (HE.out.below HB.out)) ?_; rintro e w1 ⟨rfl, hb⟩; replace HB := Lib.hid (HB.out.trans (hb.mono HB.out.size)); clear hb)
        | (go_at_call 13; with_reducible refine Calls.mono (K7.out _ (HE.out.below HB.out)) ?_; rintro e w1 ⟨rfl, hb⟩; replace HB := Lib.hid (HB.out.trans (hb.mono HB.out.size)); clear hb)
        | (go_at_call 13; with_reducible refine Calls.mono (K8.out _ (HE.out.below HB.out)) ?_; rintro e w1 ⟨rfl, hb⟩; replace HB := Lib.hid (HB.out.trans (hb.mono HB.out.size)); clear hb)
        | (go_at_call 11; with_reducible refine Calls.mono (K9.out _ (HE.out.below HB.out)) ?_; rintro e w1 ⟨rfl, hb⟩; replace HB := Lib.hid (HB.out.trans (hb.mono HB.out.size)); clear hb)
        | (go_at_call 17; with_reducible refine Calls.mono (HA.out _ (HE.out.below HB.out)) ?_; rintro e w1 ⟨rfl, hb⟩; replace HB := Lib.hid (HB.out.trans (hb.mono HB.out.size)); clear hb))
      go_ret
      exact ⟨by first | rfl | simp, HB.out⟩
    · have hw : ((nB y).toList == [48]) = false := by rw [ByteArray.toList_eq, beq_eq_false_iff_ne]; exact fun hh => hy0 ((nB_zero_iff y).mp hh)
      have t1 : (Int.tdiv x y).natAbs < LIM := by rw [Int.natAbs_tdiv]; exact Nat.lt_of_le_of_lt (Nat.div_le_self _ _) hx
      have t2 : (Int.tmod x y).natAbs < LIM := by rw [Int.natAbs_tmod]; exact Nat.lt_of_le_of_lt (Nat.mod_le _ _) hx
      have t3 : (Int.tdiv x y * y).natAbs < LIM := by rw [Int.natAbs_mul, Int.natAbs_tdiv]; exact Nat.lt_of_le_of_lt (Nat.div_mul_le_self _ _) hx
      have t4 : Int.tdiv x y * y + Int.tmod x y = x := by have := Int.tmod_add_tdiv_mul x y; omega
      have j1 := fun w hE => quot_nn x y w hx hy hy0 hE
      have j2 := fun w hE => rest_nn x y w hx hy hy0 hE
      have j3 := fun w hE => times_nn (Int.tdiv x y) y w t1 hy hE
      have j4 := fun w hE => sum_nn (Int.tdiv x y * y) (Int.tmod x y) w t3 t2 hE
      rw [(wS_in t1).1, (wS_in t1).2] at j1
      rw [(wS_in t2).1, (wS_in t2).2] at j2
      rw [(wS_in t3).1, (wS_in t3).2] at j3
      rw [t4, (wS_in hx).1, (wS_in hx).2] at j4
      clear hx hy hz s1 s2 s3 s4 s5 hy0 t1 t2 t3 t4
      generalize nB (Int.tdiv x y * y) = VV at *
      generalize nB (Int.tdiv x y) = DD at *
      generalize nB (Int.tmod x y) = RR at *
      generalize nB (x * z + y * z) = SXY at *
      generalize nB (x + y) = SS at *
      generalize nB (x * y) = PP at *
      generalize nB (x * z) = XZ at *
      generalize nB (y * z) = YZ at *
      generalize nB x = X at *
      generalize nB y = Y at *
      generalize nB z = Z at *
      have J1 := Lib.hid j1
      have J2 := Lib.hid j2
      have J3 := Lib.hid j3
      have J4 := Lib.hid j4
      clear j1 j2 j3 j4
      have K1 := Lib.hid k1
      have K2 := Lib.hid k2
      have K3 := Lib.hid k3
      have K4 := Lib.hid k4
      have K5 := Lib.hid k5
      have K6 := Lib.hid k6
      have K7 := Lib.hid k7
      have K8 := Lib.hid k8
      have K9 := Lib.hid k9
      clear k1 k2 k3 k4 k5 k6 k7 k8 k9
      go_enter Tryd.func5, Tryd.ntmps5
      go_wp2_with (first
        | (go_at_call 21; with_reducible refine Calls.mono (H1.out _) ?_; rintro e w1 ⟨rfl, hb⟩; replace HB := Lib.hid (HB.out.trans (hb.mono HB.out.size)); clear hb)
        | (go_at_call 21; with_reducible refine Calls.mono (H2.out _) ?_; rintro e w1 ⟨rfl, hb⟩; replace HB := Lib.hid (HB.out.trans (hb.mono HB.out.size)); clear hb)
        | (go_at_call 21; with_reducible refine Calls.mono (H3.out _) ?_; rintro e w1 ⟨rfl, hb⟩; replace HB := Lib.hid (HB.out.trans (hb.mono HB.out.size)); clear hb)
        | (go_at_call 11; with_reducible refine Calls.mono (K1.out _ (HE.out.below HB.out)) ?_; rintro e w1 ⟨rfl, hb⟩; replace HB := Lib.hid (HB.out.trans (hb.mono HB.out.size)); clear hb)
        | (go_at_call 11; with_reducible refine Calls.mono (K2.out _ (HE.out.below HB.out)) ?_; rintro e w1 ⟨rfl, hb⟩; replace HB := Lib.hid (HB.out.trans (hb.mono HB.out.size)); clear hb)
        | (go_at_call 12; with_reducible refine Calls.mono (K3.out _ (HE.out.below HB.out)) ?_; rintro e w1 ⟨rfl, hb⟩; replace HB := Lib.hid (HB.out.trans (hb.mono HB.out.size)); clear hb)
        | (go_at_call 13; with_reducible refine Calls.mono (K4.out _ (HE.out.below HB.out)) ?_; rintro e w1 ⟨rfl, hb⟩; replace HB := Lib.hid (HB.out.trans (hb.mono HB.out.size)); clear hb)
        | (go_at_call 13; with_reducible refine Calls.mono (K5.out _ (HE.out.below HB.out)) ?_; rintro e w1 ⟨rfl, hb⟩; replace HB := Lib.hid (HB.out.trans (hb.mono HB.out.size)); clear hb)
        | (go_at_call 13; with_reducible refine Calls.mono (K6.out _ (HE.out.below HB.out)) ?_; rintro e w1 ⟨rfl, hb⟩; replace HB := Lib.hid (HB.out.trans (hb.mono HB.out.size)); clear hb)
        | (go_at_call 13; with_reducible refine Calls.mono (K7.out _ (HE.out.below HB.out)) ?_; rintro e w1 ⟨rfl, hb⟩; replace HB := Lib.hid (HB.out.trans (hb.mono HB.out.size)); clear hb)
        | (go_at_call 13; with_reducible refine Calls.mono (K8.out _ (HE.out.below HB.out)) ?_; rintro e w1 ⟨rfl, hb⟩; replace HB := Lib.hid (HB.out.trans (hb.mono HB.out.size)); clear hb)
        | (go_at_call 11; with_reducible refine Calls.mono (K9.out _ (HE.out.below HB.out)) ?_; rintro e w1 ⟨rfl, hb⟩; replace HB := Lib.hid (HB.out.trans (hb.mono HB.out.size)); clear hb)
        | (go_at_call 14; with_reducible refine Calls.mono (J1.out _ (HE.out.below HB.out)) ?_; rintro e w1 ⟨rfl, hb⟩; replace HB := Lib.hid (HB.out.trans (hb.mono HB.out.size)); clear hb)
        | (go_at_call 15; with_reducible refine Calls.mono (J2.out _ (HE.out.below HB.out)) ?_; rintro e w1 ⟨rfl, hb⟩; replace HB := Lib.hid (HB.out.trans (hb.mono HB.out.size)); clear hb)
        | (go_at_call 13; with_reducible refine Calls.mono (J3.out _ (HE.out.below HB.out)) ?_; rintro e w1 ⟨rfl, hb⟩; replace HB := Lib.hid (HB.out.trans (hb.mono HB.out.size)); clear hb)
        | (go_at_call 11; with_reducible refine Calls.mono (J4.out _ (HE.out.below HB.out)) ?_; rintro e w1 ⟨rfl, hb⟩; replace HB := Lib.hid (HB.out.trans (hb.mono HB.out.size)); clear hb)
        | (go_at_call 17; with_reducible refine Calls.mono (HA.out _ (HE.out.below HB.out)) ?_; rintro e w1 ⟨rfl, hb⟩; replace HB := Lib.hid (HB.out.trans (hb.mono HB.out.size)); clear hb))
      go_ret
      exact ⟨by first | rfl | simp, HB.out⟩
end Go.Proofs.YtgmmmimckdcggaaDoor
