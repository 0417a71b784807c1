import Derived.Test.YtgoaakdopbielaaDoorBgRl
namespace Go.Proofs.YtgoaakdopbielaaDoor
open Go.RowKit Go.Shelf
set_option linter.unusedSimpArgs false
set_option linter.unusedVariables false
set_option linter.unusedSectionVars false

/-! Layer 9: the law of what comes of two numbers. -/
set_option maxRecDepth 100000 in
set_option maxHeartbeats 3200000 in
theorem reckons_v (s t : ByteArray) (w : World) (hE : EnvB w) : Calls Tryd.prog 3 #[.string s, .string t] w fun e w' => e = .returned (.bool true) ∧ Below w.heap.size w w' := by
  have HB := Lib.hid (Below.refl w.heap.size w)
  by_cases hs : s.size ≤ 200
  · have i1 : ¬ (200 : Int) < (s.size : Int) := by omega
    by_cases ht : t.size ≤ 200
    · have i2 : ¬ (200 : Int) < (t.size : Int) := by omega
      have H1 := Lib.hid (fun w hE => Sum_v s t w hE)
      have H2 := Lib.hid (fun w hE => Less_v s t w hE)
      have H3 := Lib.hid (fun w hE => Times_v s t w hE)
      have H4 := Lib.hid (fun w hE => Quotient_v s t w hE)
      have H5 := Lib.hid (fun w hE => Rest_v s t w hE)
      have T1 := Lib.hid (fun w => told_v _ _ s t _ w (fun w => rdo_Sum s t w hs ht))
      have T2 := Lib.hid (fun w => told_v _ _ s t _ w (fun w => rdo_Less s t w hs ht))
      have T3 := Lib.hid (fun w => told_v _ _ s t _ w (fun w => rdo_Times s t w hs ht))
      have T4 := Lib.hid (fun w => told_v _ _ s t _ w (fun w => rdo_Quotient s t w hs ht))
      have T5 := Lib.hid (fun w => told_v _ _ s t _ w (fun w => rdo_Rest s t w hs ht))
      have HAW := Lib.hid (fun w hE => awake_v w hE)
      have HE := Lib.hid hE
      clear hE hs ht
      generalize recS s.data.toList t.data.toList (zL s.data.toList + zL t.data.toList) = S1 at *
      generalize recE s.data.toList t.data.toList (zL s.data.toList + zL t.data.toList) = E1 at *
      generalize recS s.data.toList t.data.toList (zL s.data.toList - zL t.data.toList) = S2 at *
      generalize recE s.data.toList t.data.toList (zL s.data.toList - zL t.data.toList) = E2 at *
      generalize recS s.data.toList t.data.toList (zL s.data.toList * zL t.data.toList) = S3 at *
      generalize recE s.data.toList t.data.toList (zL s.data.toList * zL t.data.toList) = E3 at *
      generalize recS0 s.data.toList t.data.toList (Int.tdiv (zL s.data.toList) (zL t.data.toList)) = S4 at *
      generalize recE0 s.data.toList t.data.toList (Int.tdiv (zL s.data.toList) (zL t.data.toList)) = E4 at *
      generalize recS0 s.data.toList t.data.toList (Int.tmod (zL s.data.toList) (zL t.data.toList)) = S5 at *
      generalize recE0 s.data.toList t.data.toList (Int.tmod (zL s.data.toList) (zL t.data.toList)) = E5 at *
      go_enter Tryd.func3, Tryd.ntmps3
      go_wp2_with (first
        | (go_at_call 11; with_reducible refine Calls.mono (H1.out _ (HE.out.below HB.out)) ?_; rintro e w1 ⟨rfl, hb⟩; replace HB := Lib.hid (HB.out.trans (hb.mono HB.out.size)); clear hb)
        | (go_at_call 12; with_reducible refine Calls.mono (H2.out _ (HE.out.below HB.out)) ?_; rintro e w2 ⟨rfl, hb⟩; replace HB := Lib.hid (HB.out.trans (hb.mono HB.out.size)); clear hb)
        | (go_at_call 13; with_reducible refine Calls.mono (H3.out _ (HE.out.below HB.out)) ?_; rintro e w3 ⟨rfl, hb⟩; replace HB := Lib.hid (HB.out.trans (hb.mono HB.out.size)); clear hb)
        | (go_at_call 14; with_reducible refine Calls.mono (H4.out _ (HE.out.below HB.out)) ?_; rintro e w4 ⟨rfl, hb⟩; replace HB := Lib.hid (HB.out.trans (hb.mono HB.out.size)); clear hb)
        | (go_at_call 15; with_reducible refine Calls.mono (H5.out _ (HE.out.below HB.out)) ?_; rintro e w5 ⟨rfl, hb⟩; replace HB := Lib.hid (HB.out.trans (hb.mono HB.out.size)); clear hb)
        | (go_at_call 16; with_reducible refine Calls.mono (T1.out _) ?_; rintro e w6 ⟨rfl, hb⟩; replace HB := Lib.hid (HB.out.trans (hb.mono HB.out.size)); clear hb)
        | (go_at_call 16; with_reducible refine Calls.mono (T2.out _) ?_; rintro e w6 ⟨rfl, hb⟩; replace HB := Lib.hid (HB.out.trans (hb.mono HB.out.size)); clear hb)
        | (go_at_call 16; with_reducible refine Calls.mono (T3.out _) ?_; rintro e w6 ⟨rfl, hb⟩; replace HB := Lib.hid (HB.out.trans (hb.mono HB.out.size)); clear hb)
        | (go_at_call 16; with_reducible refine Calls.mono (T4.out _) ?_; rintro e w6 ⟨rfl, hb⟩; replace HB := Lib.hid (HB.out.trans (hb.mono HB.out.size)); clear hb)
        | (go_at_call 16; with_reducible refine Calls.mono (T5.out _) ?_; rintro e w6 ⟨rfl, hb⟩; replace HB := Lib.hid (HB.out.trans (hb.mono HB.out.size)); clear hb)
        | (go_at_call 17; with_reducible refine Calls.mono (HAW.out _ (HE.out.below HB.out)) ?_; rintro e w7 ⟨rfl, hb⟩; replace HB := Lib.hid (HB.out.trans (hb.mono HB.out.size)); clear hb))
      go_ret
      exact ⟨by first | rfl | simp, HB.out⟩
    · have i2 : (200 : Int) < (t.size : Int) := by omega
      go_enter Tryd.func3, Tryd.ntmps3
      go_wp2_with fail
      go_ret
      exact ⟨by first | rfl | simp, HB.out⟩
  · have i1 : (200 : Int) < (s.size : Int) := by omega
    go_enter Tryd.func3, Tryd.ntmps3
    go_wp2_with fail
    go_ret
    exact ⟨by first | rfl | simp, HB.out⟩
end Go.Proofs.YtgoaakdopbielaaDoor
