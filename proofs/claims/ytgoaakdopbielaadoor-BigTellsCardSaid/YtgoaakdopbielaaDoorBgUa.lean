import Derived.Test.YtgoaakdopbielaaDoorBgS
namespace Go.Proofs.YtgoaakdopbielaaDoor
open Go.RowKit Go.Shelf
set_option linter.unusedSimpArgs false
set_option linter.unusedVariables false
set_option linter.unusedSectionVars false

/-! Layer 9: sums of numbers. -/
set_option maxRecDepth 100000 in
set_option maxHeartbeats 3200000 in
theorem plus_tt (v1 v2 : Value) (c1 c2 : List Int) (w : World) (hr1 : RowA w v1 c1) (hr2 : RowA w v2 c2) (hc1 : canon c1) (hc2 : canon c2) (hl1 : c1.length ≤ 600) (hl2 : c2.length ≤ 600) :
    Calls Tryd.prog 28 #[.agg #[.bool true, v1], .agg #[.bool true, v2]] w fun e w' => ∃ v, e = .returned v ∧ NumA w' v (signZ true c1 + signZ true c2) (max c1.length c2.length + 1) ∧ Below w.heap.size w w' := by
  obtain ⟨p1, o1, n1, q1, rfl⟩ := hr1.shape
  obtain ⟨p2, o2, n2, q2, rfl⟩ := hr2.shape
  obtain ⟨w3, hw3⟩ : ∃ w3, w3 = ((w.alloc (.cells #[.bool true, .slice (some ⟨p1, o1, none⟩) n1 q1] 44)).alloc (.cells #[.bool true, .slice (some ⟨p2, o2, none⟩) n2 q2] 44)).alloc (.cells #[.bool false, .slice none 0 0] 44) := ⟨_, rfl⟩
  have hB := box3 w (.bool true) (.slice (some ⟨p1, o1, none⟩) n1 q1) (.bool true) (.slice (some ⟨p2, o2, none⟩) n2 q2)
  rw [← hw3] at hB
  obtain ⟨h1, h2, h3, h4⟩ := hB
  have c10 := cell_of h1 0
  have c11 := cell_of h1 1
  have c20 := cell_of h2 0
  have c21 := cell_of h2 1
  have d10 : w3.drew.cell? ⟨w.heap.size, 0, none⟩ = some (.bool true) := c10
  have d11 : w3.drew.cell? ⟨w.heap.size, 1, none⟩ = some (.slice (some ⟨p1, o1, none⟩) n1 q1) := c11
  have d20 : w3.drew.cell? ⟨w.heap.size + 1, 0, none⟩ = some (.bool true) := c20
  have d21 : w3.drew.cell? ⟨w.heap.size + 1, 1, none⟩ = some (.slice (some ⟨p2, o2, none⟩) n2 q2) := c21
  have H1 := Lib.hid h1
  have H2 := Lib.hid h2
  have HN3 := Lib.hid h3
  have HB3 := Lib.hid h4
  have HA := Lib.hid (hr1.below h4)
  have HBr := Lib.hid (hr2.below h4)
  have HW3 := Lib.hid hw3
  have HC1 := Lib.hid hc1
  have HC2 := Lib.hid hc2
  clear h1 h2 h3 h4 hr1 hr2 hw3
  have ht := plus_v _ _ c1 c2 w3.drew (RowA.drew HA.out) (RowA.drew HBr.out) hc1.1 hc2.1 (by omega) (by omega)
  have HV : Hid (canon (plusR c1 c2) ∧ signZ true (plusR c1 c2) = signZ true c1 + signZ true c2 ∧ (plusR c1 c2).length ≤ max c1.length c2.length + 1) := Lib.hid (by
    obtain ⟨h1, h2, h3⟩ := plus_val hc1.1 hc2.1
    refine ⟨h1, ?_, by omega⟩
    unfold signZ
    simp [h2]
    omega)
  have HN4 := HN3
  have H14 := H1
  have H24 := H2
  have HB4 := HB3
  clear c10 c11 c20 c21 d10 d11 d20 d21
  have HNC0 : Hid (NumC w3.drew (w.heap.size + 1 + 1) (.bool false) (.slice none 0 0)) := Lib.hid HN4.out
  have HX1 : Hid (w3.drew.heap[w.heap.size]? = some (.cells #[.bool true, .slice (some ⟨p1, o1, none⟩) n1 q1] 44 (0, 0))) := Lib.hid H14.out
  have HX2 : Hid (w3.drew.heap[w.heap.size + 1]? = some (.cells #[.bool true, .slice (some ⟨p2, o2, none⟩) n2 q2] 44 (0, 0))) := Lib.hid H24.out
  have HBX := Lib.hid HB4.out.drew
  have c10 := cell_of H14.out 0
  have c11 := cell_of H14.out 1
  have c20 := cell_of H24.out 0
  have c21 := cell_of H24.out 1
  have d10 : w3.drew.cell? ⟨w.heap.size, 0, none⟩ = some (.bool true) := c10
  have d11 : w3.drew.cell? ⟨w.heap.size, 1, none⟩ = some (.slice (some ⟨p1, o1, none⟩) n1 q1) := c11
  have d20 : w3.drew.cell? ⟨w.heap.size + 1, 0, none⟩ = some (.bool true) := c20
  have d21 : w3.drew.cell? ⟨w.heap.size + 1, 1, none⟩ = some (.slice (some ⟨p2, o2, none⟩) n2 q2) := c21
  clear hc1 hc2 HC1 HC2
  go_enter Tryd.func28, Tryd.ntmps28
  go_wp2_with fail
  rw [← HW3.out]
  go_region_law (go_simp; go_at_call 48; refine Calls.mono ht ?_; rintro e w5 ⟨v5, rfl, hr5, hb5⟩; obtain ⟨p5, o5, n5, q5, rfl⟩ := hr5.shape; have HNC := Lib.hid (NumC.below HNC0.out hb5); obtain ⟨f0, f1, f2, f3, f4, f5, f6, f7, f8⟩ := NumC.facts HNC.out; have e1 := cell_of ((hb5.block w.heap.size (lt_of_block HX1.out)).trans HX1.out) 0; have e2 := cell_of ((hb5.block w.heap.size (lt_of_block HX1.out)).trans HX1.out) 1; have e3 := cell_of ((hb5.block (w.heap.size + 1) (lt_of_block HX2.out)).trans HX2.out) 0; have e4 := cell_of ((hb5.block (w.heap.size + 1) (lt_of_block HX2.out)).trans HX2.out) 1; have HR5 := Lib.hid hr5; have HB5 := Lib.hid (HBX.out.trans (hb5.mono HBX.out.size)); clear hr5 hb5 f6)
  all_goals
    obtain ⟨g1, g2⟩ := num_done (bb := true) HR5.out HV.out.1 HV.out.2.1 HV.out.2.2 HNC.out HB5.out (show w.heap.size ≤ w.heap.size + 1 + 1 by omega)
    have G1 := Lib.hid g1
    have G2 := Lib.hid g2
    clear g1 g2
    go_wp2_with fail
    refine bodyPost_ret (v := .agg #[.bool true, .slice (some ⟨p5, o5, none⟩) n5 q5]) ?_ rfl ⟨_, rfl, G1.out, G2.out⟩
    simp [results, Tryd.results28, go_sem, f7, f8]
end Go.Proofs.YtgoaakdopbielaaDoor
