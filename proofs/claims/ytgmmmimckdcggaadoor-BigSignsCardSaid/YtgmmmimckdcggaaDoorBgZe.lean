import Derived.Test.YtgmmmimckdcggaaDoorBgZd
namespace Go.Proofs.YtgmmmimckdcggaaDoor
open Go.RowKit Go.Shelf
set_option linter.unusedSimpArgs false
set_option linter.unusedVariables false
set_option linter.unusedSectionVars false

/-! Layer 9: the law of signs. -/
theorem ne_list {a b : ByteArray} (h : a = b) : (a.toList == b.toList) = true := by rw [h]; simp
set_option maxHeartbeats 3200000 in
theorem signs_v (s : ByteArray) (w : World) (hE : EnvB w) : Calls Tryd.prog 9 #[.string s] w fun e w' => e = .returned (.bool true) ∧ Below w.heap.size w w' := by
  have hr := fun w => right_v s w
  have hA := fun w hE => awake_v w hE
  cases hR : rightB s.data.toList with
  | false =>
    have hs := fun w hE => Sum_v s ⟨#[48]⟩ w hE
    unfold recS recE at hs
    rw [hR, Bool.false_and, if_neg (by decide), if_neg (by decide)] at hs
    rw [hR] at hr
    have HR := Lib.hid hr
    have HS := Lib.hid hs
    have HA := Lib.hid hA
    have HE := Lib.hid hE
    clear hr hs hA hR hE
    go_enter Tryd.func9, Tryd.ntmps9
    go_wp2_with (first
      | (go_at_call 21; refine Calls.mono (HR.out _) ?_; rintro e w1 ⟨rfl, hb1⟩; have HB1 := Lib.hid hb1; have HE1 := Lib.hid (HE.out.below hb1); clear hb1)
      | (go_at_call 11; refine Calls.mono (HS.out _ HE1.out) ?_; rintro e w2 ⟨rfl, hb2⟩; have HB2 := Lib.hid (HB1.out.trans (hb2.mono HB1.out.size)); have HE2 := Lib.hid (HE1.out.below hb2); clear hb2)
      | (go_at_call 17; refine Calls.mono (HA.out _ HE2.out) ?_; rintro e w3 ⟨rfl, hb3⟩; have HB3 := Lib.hid (HB2.out.trans (hb3.mono HB2.out.size)); clear hb3))
    go_ret
    exact ⟨by first | rfl | simp, HB3.out⟩
  | true =>
    obtain ⟨z, hz, rfl⟩ := nB_of hR
    rw [hR] at hr
    have hz2 : (0 - z).natAbs < LIM := by omega
    have h0 := lim_small 0 (by decide)
    have h1 := fun w hE => less_nn 0 z w h0 hz hE
    have h2 := fun w hE => less_nn 0 (0 - z) w h0 hz2 hE
    have h3 := fun w hE => times_nn (-1) z w (lim_small _ (by decide)) hz hE
    have h4 := fun w hE => times_nn 0 z w h0 hz hE
    have h5 := fun w hE => times_nn 1 z w (lim_small _ (by decide)) hz hE
    have h6 := fun w hE => sum_nn z (0 - z) w hz hz2 hE
    rw [(wS_in hz2).1, (wS_in hz2).2] at h1
    rw [show (0 : Int) - (0 - z) = z by omega, (wS_in hz).1, (wS_in hz).2] at h2
    rw [show (-1 : Int) * z = 0 - z by omega, (wS_in hz2).1, (wS_in hz2).2] at h3
    rw [Int.zero_mul, (wS_in h0).1, (wS_in h0).2] at h4
    rw [Int.one_mul, (wS_in hz).1, (wS_in hz).2] at h5
    rw [show z + (0 - z) = 0 by omega, (wS_in h0).1, (wS_in h0).2] at h6
    rw [show nB 0 = ⟨#[48]⟩ by decide +kernel] at h1 h2 h4 h6
    rw [show nB (-1) = ⟨#[45, 49]⟩ by decide +kernel] at h3
    rw [show nB 1 = ⟨#[49]⟩ by decide +kernel] at h5
    generalize nB z = S at *
    generalize nB (0 - z) = X at *
    have HR := Lib.hid hr
    have HA := Lib.hid hA
    have HE := Lib.hid hE
    have H1 := Lib.hid h1
    have H2 := Lib.hid h2
    have H3 := Lib.hid h3
    have H4 := Lib.hid h4
    have H5 := Lib.hid h5
    have H6 := Lib.hid h6
    clear hr hA hR hE h1 h2 h3 h4 h5 h6 h0 hz hz2
    go_enter Tryd.func9, Tryd.ntmps9
    go_wp2_with (first
      | (go_at_call 21; refine Calls.mono (HR.out _) ?_; rintro e w1 ⟨rfl, hb1⟩; have HB1 := Lib.hid hb1; have HE1 := Lib.hid (HE.out.below hb1); clear hb1)
      | (go_at_call 12; with_reducible refine Calls.mono (H1.out _ HE1.out) ?_; rintro e w2 ⟨rfl, hb2⟩; have HB2 := Lib.hid (HB1.out.trans (hb2.mono HB1.out.size)); have HE2 := Lib.hid (HE1.out.below hb2); clear hb2)
      | (go_at_call 12; with_reducible refine Calls.mono (H2.out _ HE2.out) ?_; rintro e w3 ⟨rfl, hb3⟩; have HB3 := Lib.hid (HB2.out.trans (hb3.mono HB2.out.size)); have HE3 := Lib.hid (HE2.out.below hb3); clear hb3)
      | (go_at_call 13; with_reducible refine Calls.mono (H3.out _ HE3.out) ?_; rintro e w4 ⟨rfl, hb4⟩; have HB4 := Lib.hid (HB3.out.trans (hb4.mono HB3.out.size)); have HE4 := Lib.hid (HE3.out.below hb4); clear hb4)
      | (go_at_call 13; with_reducible refine Calls.mono (H4.out _ HE4.out) ?_; rintro e w5 ⟨rfl, hb5⟩; have HB5 := Lib.hid (HB4.out.trans (hb5.mono HB4.out.size)); have HE5 := Lib.hid (HE4.out.below hb5); clear hb5)
      | (go_at_call 13; with_reducible refine Calls.mono (H5.out _ HE5.out) ?_; rintro e w6 ⟨rfl, hb6⟩; have HB6 := Lib.hid (HB5.out.trans (hb6.mono HB5.out.size)); have HE6 := Lib.hid (HE5.out.below hb6); clear hb6)
      | (go_at_call 11; with_reducible refine Calls.mono (H6.out _ HE6.out) ?_; rintro e w7 ⟨rfl, hb7⟩; have HB7 := Lib.hid (HB6.out.trans (hb7.mono HB6.out.size)); have HE7 := Lib.hid (HE6.out.below hb7); clear hb7)
      | (go_at_call 17; refine Calls.mono (HA.out _ HE7.out) ?_; rintro e w8 ⟨rfl, hb8⟩; have HB8 := Lib.hid (HB7.out.trans (hb8.mono HB7.out.size)); clear hb8))
    go_ret
    exact ⟨by first | rfl | simp, HB8.out⟩
end Go.Proofs.YtgmmmimckdcggaaDoor
