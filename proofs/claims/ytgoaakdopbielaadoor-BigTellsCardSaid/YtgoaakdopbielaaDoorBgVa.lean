import Derived.Test.YtgoaakdopbielaaDoorBgS
namespace Go.Proofs.YtgoaakdopbielaaDoor
open Go.RowKit Go.Shelf
set_option linter.unusedSimpArgs false
set_option linter.unusedVariables false
set_option linter.unusedSectionVars false

/-! Layer 9: sums of numbers. -/
set_option maxRecDepth 100000 in
set_option maxHeartbeats 3200000 in
theorem plus_tf (v1 v2 : Value) (c1 c2 : List Int) (w : World) (hr1 : RowA w v1 c1) (hr2 : RowA w v2 c2) (hc1 : canon c1) (hc2 : canon c2) (hl1 : c1.length ≤ 600) (hl2 : c2.length ≤ 600) :
    Calls Tryd.prog 28 #[.agg #[.bool true, v1], .agg #[.bool false, v2]] w fun e w' => ∃ v, e = .returned v ∧ NumA w' v (signZ true c1 + signZ false c2) (max c1.length c2.length + 1) ∧ Below w.heap.size w w' := by
  obtain ⟨p1, o1, n1, q1, rfl⟩ := hr1.shape
  obtain ⟨p2, o2, n2, q2, rfl⟩ := hr2.shape
  obtain ⟨w3, hw3⟩ : ∃ w3, w3 = ((w.alloc (.cells #[.bool true, .slice (some ⟨p1, o1, none⟩) n1 q1] 44)).alloc (.cells #[.bool false, .slice (some ⟨p2, o2, none⟩) n2 q2] 44)).alloc (.cells #[.bool false, .slice none 0 0] 44) := ⟨_, rfl⟩
  have hB := box3 w (.bool true) (.slice (some ⟨p1, o1, none⟩) n1 q1) (.bool false) (.slice (some ⟨p2, o2, none⟩) n2 q2)
  rw [← hw3] at hB
  obtain ⟨h1, h2, h3, h4⟩ := hB
  have c10 := cell_of h1 0
  have c11 := cell_of h1 1
  have c20 := cell_of h2 0
  have c21 := cell_of h2 1
  have d10 : w3.drew.cell? ⟨w.heap.size, 0, none⟩ = some (.bool true) := c10
  have d11 : w3.drew.cell? ⟨w.heap.size, 1, none⟩ = some (.slice (some ⟨p1, o1, none⟩) n1 q1) := c11
  have d20 : w3.drew.cell? ⟨w.heap.size + 1, 0, none⟩ = some (.bool false) := c20
  have d21 : w3.drew.cell? ⟨w.heap.size + 1, 1, none⟩ = some (.slice (some ⟨p2, o2, none⟩) n2 q2) := c21
  have H1 := Lib.hid h1
  have H2 := Lib.hid h2
  have HN3 := Lib.hid h3
  have HB3 := Lib.hid h4
  have HA := Lib.hid (hr1.below h4)
  have HBr := Lib.hid (hr2.below h4)
  have HW3 := Lib.hid hw3
  have HC1 := Lib.hid hc1
  have HC2 := Lib.hid hc2
  clear h1 h2 h3 h4 hr1 hr2 hw3
  have hcp := compare_v _ _ c1 c2 w3 HA.out HBr.out hc1 hc2 (by omega) (by omega)
  have hv1 := valI_nonneg c1 hc1.1
  have hv2 := valI_nonneg c2 hc2.1
  obtain ⟨o, ho⟩ : ∃ o, Lib.compareInt (valI c1) (valI c2) = o := ⟨_, rfl⟩
  rw [ho] at hcp
  have HO := Lib.hid ho
  clear ho
  go_enter Tryd.func28, Tryd.ntmps28
  have c10' := c10
  rw [HW3.out] at c10 c11 c20 c21
  by_cases hneg : o < 0
  · have hnd : decide (o < 0) = true := decide_eq_true hneg
    have hlt : valI c1 < valI c2 := by
      have h := HO.out
      unfold Lib.compareInt at h
      split at h
      · assumption
      · split at h <;> omega
    have hle : c1.length ≤ c2.length := by
      by_cases h : c1.length ≤ c2.length
      · exact h
      · have := canon_len hc2 hc1 (by omega); omega
    have HV : Hid (canon (withoutR c2 c1) ∧ signZ false (withoutR c2 c1) = signZ true c1 + signZ false c2 ∧ (withoutR c2 c1).length ≤ max c1.length c2.length + 1) := Lib.hid (by
      obtain ⟨h1, h2, h3⟩ := without_val hc2.1 hc1.1 hle (by omega)
      refine ⟨h1, ?_, by omega⟩
      unfold signZ
      simp [h2]
      omega)
    go_wp2_with fail
    rw [← HW3.out]
    clear c10 c11 c20 c21 d10 d11 d20 d21
    go_at_call 49
    refine Calls.mono hcp ?_
    rintro e w4 ⟨rfl, hb4⟩
    have HN4 := Lib.hid (NumC.below HN3.out hb4)
    have H14 := Lib.hid ((hb4.block w.heap.size (lt_of_block H1.out)).trans H1.out)
    have H24 := Lib.hid ((hb4.block (w.heap.size + 1) (lt_of_block H2.out)).trans H2.out)
    have HB4 := Lib.hid (HB3.out.trans (hb4.mono HB3.out.size))
    have ht := without_v _ _ c2 c1 w4.drew (RowA.drew (HBr.out.below hb4)) (RowA.drew (HA.out.below hb4)) hc2.1 hc1.1 (by omega) hle
    clear hb4 hcp
    have HNC0 : Hid (NumC w4.drew (w.heap.size + 1 + 1) (.bool false) (.slice none 0 0)) := Lib.hid HN4.out
    have HX1 : Hid (w4.drew.heap[w.heap.size]? = some (.cells #[.bool true, .slice (some ⟨p1, o1, none⟩) n1 q1] 44 (0, 0))) := Lib.hid H14.out
    have HX2 : Hid (w4.drew.heap[w.heap.size + 1]? = some (.cells #[.bool false, .slice (some ⟨p2, o2, none⟩) n2 q2] 44 (0, 0))) := Lib.hid H24.out
    have HBX := Lib.hid HB4.out.drew
    have c10 := cell_of H14.out 0
    have c11 := cell_of H14.out 1
    have c20 := cell_of H24.out 0
    have c21 := cell_of H24.out 1
    have d10 : w4.drew.cell? ⟨w.heap.size, 0, none⟩ = some (.bool true) := c10
    have d11 : w4.drew.cell? ⟨w.heap.size, 1, none⟩ = some (.slice (some ⟨p1, o1, none⟩) n1 q1) := c11
    have d20 : w4.drew.cell? ⟨w.heap.size + 1, 0, none⟩ = some (.bool false) := c20
    have d21 : w4.drew.cell? ⟨w.heap.size + 1, 1, none⟩ = some (.slice (some ⟨p2, o2, none⟩) n2 q2) := c21
    clear hc1 hc2 HC1 HC2 HO hlt hle hv1 hv2 c10'
    go_wp2_with fail
    go_region_law (go_simp; go_at_call 50; refine Calls.mono ht ?_; rintro e w5 ⟨v5, rfl, hr5, hb5⟩; obtain ⟨p5, o5, n5, q5, rfl⟩ := hr5.shape; have HNC := Lib.hid (NumC.below HNC0.out hb5); obtain ⟨f0, f1, f2, f3, f4, f5, f6, f7, f8⟩ := NumC.facts HNC.out; have e1 := cell_of ((hb5.block w.heap.size (lt_of_block HX1.out)).trans HX1.out) 0; have e2 := cell_of ((hb5.block w.heap.size (lt_of_block HX1.out)).trans HX1.out) 1; have e3 := cell_of ((hb5.block (w.heap.size + 1) (lt_of_block HX2.out)).trans HX2.out) 0; have e4 := cell_of ((hb5.block (w.heap.size + 1) (lt_of_block HX2.out)).trans HX2.out) 1; have HR5 := Lib.hid hr5; have HB5 := Lib.hid (HBX.out.trans (hb5.mono HBX.out.size)); clear hr5 hb5 f6)
    all_goals
      obtain ⟨g1, g2⟩ := num_done (bb := false) HR5.out HV.out.1 HV.out.2.1 HV.out.2.2 HNC.out HB5.out (show w.heap.size ≤ w.heap.size + 1 + 1 by omega)
      have G1 := Lib.hid g1
      have G2 := Lib.hid g2
      clear g1 g2
      go_wp2_with fail
      refine bodyPost_ret (v := .agg #[.bool false, .slice (some ⟨p5, o5, none⟩) n5 q5]) ?_ rfl ⟨_, rfl, G1.out, G2.out⟩
      simp [results, Tryd.results28, go_sem, f7, f8]
  · have hnd : decide (o < 0) = false := decide_eq_false hneg
    have hge : valI c2 ≤ valI c1 := by
      have h := HO.out
      unfold Lib.compareInt at h
      split at h
      · omega
      · omega
    have hle : c2.length ≤ c1.length := by
      by_cases h : c2.length ≤ c1.length
      · exact h
      · have := canon_len hc1 hc2 (by omega); omega
    have HV : Hid (canon (withoutR c1 c2) ∧ signZ true (withoutR c1 c2) = signZ true c1 + signZ false c2 ∧ (withoutR c1 c2).length ≤ max c1.length c2.length + 1) := Lib.hid (by
      obtain ⟨h1, h2, h3⟩ := without_val hc1.1 hc2.1 hle (by omega)
      refine ⟨h1, ?_, by omega⟩
      unfold signZ
      simp [h2]
      omega)
    go_wp2_with fail
    rw [← HW3.out]
    clear c10 c11 c20 c21 d10 d11 d20 d21
    go_at_call 49
    refine Calls.mono hcp ?_
    rintro e w4 ⟨rfl, hb4⟩
    have HN4 := Lib.hid (NumC.below HN3.out hb4)
    have H14 := Lib.hid ((hb4.block w.heap.size (lt_of_block H1.out)).trans H1.out)
    have H24 := Lib.hid ((hb4.block (w.heap.size + 1) (lt_of_block H2.out)).trans H2.out)
    have HB4 := Lib.hid (HB3.out.trans (hb4.mono HB3.out.size))
    have ht := without_v _ _ c1 c2 w4.drew (RowA.drew (HA.out.below hb4)) (RowA.drew (HBr.out.below hb4)) hc1.1 hc2.1 (by omega) hle
    clear hb4 hcp
    have HNC0 : Hid (NumC w4.drew (w.heap.size + 1 + 1) (.bool false) (.slice none 0 0)) := Lib.hid HN4.out
    have HX1 : Hid (w4.drew.heap[w.heap.size]? = some (.cells #[.bool true, .slice (some ⟨p1, o1, none⟩) n1 q1] 44 (0, 0))) := Lib.hid H14.out
    have HX2 : Hid (w4.drew.heap[w.heap.size + 1]? = some (.cells #[.bool false, .slice (some ⟨p2, o2, none⟩) n2 q2] 44 (0, 0))) := Lib.hid H24.out
    have HBX := Lib.hid HB4.out.drew
    have c10 := cell_of H14.out 0
    have c11 := cell_of H14.out 1
    have c20 := cell_of H24.out 0
    have c21 := cell_of H24.out 1
    have d10 : w4.drew.cell? ⟨w.heap.size, 0, none⟩ = some (.bool true) := c10
    have d11 : w4.drew.cell? ⟨w.heap.size, 1, none⟩ = some (.slice (some ⟨p1, o1, none⟩) n1 q1) := c11
    have d20 : w4.drew.cell? ⟨w.heap.size + 1, 0, none⟩ = some (.bool false) := c20
    have d21 : w4.drew.cell? ⟨w.heap.size + 1, 1, none⟩ = some (.slice (some ⟨p2, o2, none⟩) n2 q2) := c21
    clear hc1 hc2 HC1 HC2 HO hge hle hv1 hv2 c10'
    go_wp2_with fail
    go_region_law (go_simp; go_at_call 50; refine Calls.mono ht ?_; rintro e w5 ⟨v5, rfl, hr5, hb5⟩; obtain ⟨p5, o5, n5, q5, rfl⟩ := hr5.shape; have HNC := Lib.hid (NumC.below HNC0.out hb5); obtain ⟨f0, f1, f2, f3, f4, f5, f6, f7, f8⟩ := NumC.facts HNC.out; have e1 := cell_of ((hb5.block w.heap.size (lt_of_block HX1.out)).trans HX1.out) 0; have e2 := cell_of ((hb5.block w.heap.size (lt_of_block HX1.out)).trans HX1.out) 1; have e3 := cell_of ((hb5.block (w.heap.size + 1) (lt_of_block HX2.out)).trans HX2.out) 0; have e4 := cell_of ((hb5.block (w.heap.size + 1) (lt_of_block HX2.out)).trans HX2.out) 1; have HR5 := Lib.hid hr5; have HB5 := Lib.hid (HBX.out.trans (hb5.mono HBX.out.size)); clear hr5 hb5 f6)
    all_goals
      obtain ⟨g1, g2⟩ := num_done (bb := true) HR5.out HV.out.1 HV.out.2.1 HV.out.2.2 HNC.out HB5.out (show w.heap.size ≤ w.heap.size + 1 + 1 by omega)
      have G1 := Lib.hid g1
      have G2 := Lib.hid g2
      clear g1 g2
      go_wp2_with fail
      refine bodyPost_ret (v := .agg #[.bool true, .slice (some ⟨p5, o5, none⟩) n5 q5]) ?_ rfl ⟨_, rfl, G1.out, G2.out⟩
      simp [results, Tryd.results28, go_sem, f7, f8]
end Go.Proofs.YtgoaakdopbielaaDoor
