import Derived.Test.YtgmmmimckdcggaaDoorBgZd
namespace Go.Proofs.YtgmmmimckdcggaaDoor
open Go.RowKit Go.Shelf
set_option linter.unusedSimpArgs false
set_option linter.unusedVariables false
set_option linter.unusedSectionVars false

/-! Layer 9: the law of numbers within 64 bits. -/
theorem text_nB (z : Int) (w : World) (h0 : -9223372036854775808 ≤ z) (h1 : z ≤ 9223372036854775807) (hE : EnvB w) :
    Calls Tryd.prog 20 #[.int .i64 z] w fun e w' => e = .returned (.string (nB z)) ∧ Below w.heap.size w w' := Text_v z h0 h1 w hE
set_option maxRecDepth 100000 in
set_option maxHeartbeats 3200000 in
theorem ints_v (a b : Int) (w : World) (w0 : (Lit.int .i32 a).wf = true) (w1 : (Lit.int .i32 b).wf = true) (hE : EnvB w) :
    Calls Tryd.prog 8 #[.int .i32 a, .int .i32 b] w fun e w' => e = .returned (.bool true) ∧ Below w.heap.size w w' := by
  have z1 : IntKind.i32.min = -2147483648 := rfl
  have z2 : IntKind.i32.max = 2147483647 := rfl
  have ha : (-2147483648 : Int) ≤ a ∧ a ≤ 2147483647 := by simp [Lit.wf, z1, z2] at w0; omega
  have hb : (-2147483648 : Int) ≤ b ∧ b ≤ 2147483647 := by simp [Lit.wf, z1, z2] at w1; omega
  clear w0 w1 z1 z2
  have hmul : (a * b).natAbs ≤ 4611686018427387904 := by
    rw [Int.natAbs_mul]
    exact Nat.le_trans (Nat.mul_le_mul (show a.natAbs ≤ 2147483648 by omega) (show b.natAbs ≤ 2147483648 by omega)) (by decide)
  have q1 : IntKind.i64.wrap (a + b) = a + b := IntWalk.i64_in _ (by omega)
  have q2 : IntKind.i64.wrap (a * b) = a * b := IntWalk.i64_in _ (by omega)
  have q3 : IntKind.i64.wrap a = a := IntWalk.i64_in _ (by omega)
  have q4 : IntKind.i64.wrap b = b := IntWalk.i64_in _ (by omega)
  have hTa := fun w hE => text_nB a w (by omega) (by omega) hE
  have hTb := fun w hE => text_nB b w (by omega) (by omega) hE
  have hTs := fun w hE => text_nB (a + b) w (by omega) (by omega) hE
  have hTp := fun w hE => text_nB (a * b) w (by omega) (by omega) hE
  have la : a.natAbs < LIM := lim_small _ (by omega)
  have lb : b.natAbs < LIM := lim_small _ (by omega)
  have ls : (a + b).natAbs < LIM := lim_small _ (by omega)
  have lp : (a * b).natAbs < LIM := lim_small _ (by omega)
  have hS := fun w hE => sum_nn a b w la lb hE
  have hP := fun w hE => times_nn a b w la lb hE
  rw [(wS_in ls).1, (wS_in ls).2] at hS
  rw [(wS_in lp).1, (wS_in lp).2] at hP
  have hA := fun w hE => awake_v w hE
  have HB := Lib.hid (Below.refl w.heap.size w)
  have HTa := Lib.hid hTa
  have HTb := Lib.hid hTb
  have HTs := Lib.hid hTs
  have HTp := Lib.hid hTp
  have HS := Lib.hid hS
  have HP := Lib.hid hP
  have HA := Lib.hid hA
  have HE := Lib.hid hE
  clear hTa hTb hTs hTp hS hP hA hE ls lp
  by_cases hb0 : b = 0
  · have b0 : (b == 0) = true := by rw [hb0]; rfl
    have b1 : decide (b = 0) = true := decide_eq_true hb0
    clear la lb hmul ha hb hb0
    generalize nB (a + b) = SS at *
    generalize nB (a * b) = PP at *
    generalize nB a = AA at *
    generalize nB b = BB at *
    go_enter Tryd.func8, Tryd.ntmps8
    go_wp2_with (first
      | (go_at_call 20; with_reducible refine Calls.mono (HTa.out _ (HE.out.below HB.out)) ?_; rintro e w1 ⟨rfl, hb⟩; replace HB := Lib.hid (HB.out.trans (hb.mono HB.out.size)); clear hb)
      | (go_at_call 20; with_reducible refine Calls.mono (HTb.out _ (HE.out.below HB.out)) ?_; rintro e w1 ⟨rfl, hb⟩; replace HB := Lib.hid (HB.out.trans (hb.mono HB.out.size)); clear hb)
      | (go_at_call 20; with_reducible refine Calls.mono (HTs.out _ (HE.out.below HB.out)) ?_; rintro e w1 ⟨rfl, hb⟩; replace HB := Lib.hid (HB.out.trans (hb.mono HB.out.size)); clear hb)
      | (go_at_call 20; with_reducible refine Calls.mono (HTp.out _ (HE.out.below HB.out)) ?_; rintro e w1 ⟨rfl, hb⟩; replace HB := Lib.hid (HB.out.trans (hb.mono HB.out.size)); clear hb)
      | (go_at_call 11; with_reducible refine Calls.mono (HS.out _ (HE.out.below HB.out)) ?_; rintro e w1 ⟨rfl, hb⟩; replace HB := Lib.hid (HB.out.trans (hb.mono HB.out.size)); clear hb)
      | (go_at_call 13; with_reducible refine Calls.mono (HP.out _ (HE.out.below HB.out)) ?_; rintro e w1 ⟨rfl, hb⟩; replace HB := Lib.hid (HB.out.trans (hb.mono HB.out.size)); clear hb)
      | (go_at_call 17; with_reducible refine Calls.mono (HA.out _ (HE.out.below HB.out)) ?_; rintro e w8 ⟨rfl, hb⟩; replace HB := Lib.hid (HB.out.trans (hb.mono HB.out.size)); clear hb))
    go_ret
    exact ⟨by first | rfl | simp, HB.out⟩
  · have b0 : (b == 0) = false := by rw [beq_eq_false_iff_ne]; exact hb0
    have d1 : (Int.tdiv a b).natAbs ≤ 2147483648 := by rw [Int.natAbs_tdiv]; exact Nat.le_trans (Nat.div_le_self _ _) (by omega)
    have d2 : (Int.tmod a b).natAbs ≤ 2147483648 := by rw [Int.natAbs_tmod]; exact Nat.le_trans (Nat.mod_le _ _) (by omega)
    have q5 : IntKind.i64.wrap (Int.tdiv a b) = Int.tdiv a b := IntWalk.i64_in _ (by omega)
    have q6 : IntKind.i64.wrap (Int.tmod a b) = Int.tmod a b := IntWalk.i64_in _ (by omega)
    have hTq := fun w hE => text_nB (Int.tdiv a b) w (by omega) (by omega) hE
    have hTr := fun w hE => text_nB (Int.tmod a b) w (by omega) (by omega) hE
    have lq : (Int.tdiv a b).natAbs < LIM := lim_small _ (by omega)
    have lr : (Int.tmod a b).natAbs < LIM := lim_small _ (by omega)
    have hQ := fun w hE => quot_nn a b w la lb hb0 hE
    have hR := fun w hE => rest_nn a b w la lb hb0 hE
    rw [(wS_in lq).1, (wS_in lq).2] at hQ
    rw [(wS_in lr).1, (wS_in lr).2] at hR
    have HTq := Lib.hid hTq
    have HTr := Lib.hid hTr
    have HQ := Lib.hid hQ
    have HR := Lib.hid hR
    clear hTq hTr hQ hR lq lr la lb d1 d2 hmul
    generalize nB (a + b) = SS at *
    generalize nB (a * b) = PP at *
    generalize nB (Int.tdiv a b) = QQ at *
    generalize nB (Int.tmod a b) = RR at *
    generalize nB a = AA at *
    generalize nB b = BB at *
    go_enter Tryd.func8, Tryd.ntmps8
    go_wp2_with (first
      | (go_at_call 20; with_reducible refine Calls.mono (HTa.out _ (HE.out.below HB.out)) ?_; rintro e w1 ⟨rfl, hb⟩; replace HB := Lib.hid (HB.out.trans (hb.mono HB.out.size)); clear hb)
      | (go_at_call 20; with_reducible refine Calls.mono (HTb.out _ (HE.out.below HB.out)) ?_; rintro e w1 ⟨rfl, hb⟩; replace HB := Lib.hid (HB.out.trans (hb.mono HB.out.size)); clear hb)
      | (go_at_call 20; with_reducible refine Calls.mono (HTs.out _ (HE.out.below HB.out)) ?_; rintro e w1 ⟨rfl, hb⟩; replace HB := Lib.hid (HB.out.trans (hb.mono HB.out.size)); clear hb)
      | (go_at_call 20; with_reducible refine Calls.mono (HTp.out _ (HE.out.below HB.out)) ?_; rintro e w1 ⟨rfl, hb⟩; replace HB := Lib.hid (HB.out.trans (hb.mono HB.out.size)); clear hb)
      | (go_at_call 20; with_reducible refine Calls.mono (HTq.out _ (HE.out.below HB.out)) ?_; rintro e w1 ⟨rfl, hb⟩; replace HB := Lib.hid (HB.out.trans (hb.mono HB.out.size)); clear hb)
      | (go_at_call 20; with_reducible refine Calls.mono (HTr.out _ (HE.out.below HB.out)) ?_; rintro e w1 ⟨rfl, hb⟩; replace HB := Lib.hid (HB.out.trans (hb.mono HB.out.size)); clear hb)
      | (go_at_call 11; with_reducible refine Calls.mono (HS.out _ (HE.out.below HB.out)) ?_; rintro e w1 ⟨rfl, hb⟩; replace HB := Lib.hid (HB.out.trans (hb.mono HB.out.size)); clear hb)
      | (go_at_call 13; with_reducible refine Calls.mono (HP.out _ (HE.out.below HB.out)) ?_; rintro e w1 ⟨rfl, hb⟩; replace HB := Lib.hid (HB.out.trans (hb.mono HB.out.size)); clear hb)
      | (go_at_call 14; with_reducible refine Calls.mono (HQ.out _ (HE.out.below HB.out)) ?_; rintro e w1 ⟨rfl, hb⟩; replace HB := Lib.hid (HB.out.trans (hb.mono HB.out.size)); clear hb)
      | (go_at_call 15; with_reducible refine Calls.mono (HR.out _ (HE.out.below HB.out)) ?_; rintro e w1 ⟨rfl, hb⟩; replace HB := Lib.hid (HB.out.trans (hb.mono HB.out.size)); clear hb)
      | (go_at_call 17; with_reducible refine Calls.mono (HA.out _ (HE.out.below HB.out)) ?_; rintro e w8 ⟨rfl, hb⟩; replace HB := Lib.hid (HB.out.trans (hb.mono HB.out.size)); clear hb))
    go_ret
    exact ⟨by first | rfl | simp, HB.out⟩
end Go.Proofs.YtgmmmimckdcggaaDoor
