import Derived.Test.YtgoaakdopbielaaDoorBgW
namespace Go.Proofs.YtgoaakdopbielaaDoor
open Go.RowKit Go.Shelf
set_option linter.unusedSimpArgs false
set_option linter.unusedVariables false
set_option linter.unusedSectionVars false

/-! Layer 9: what is reckoned is a closure. -/
set_option maxRecDepth 100000 in
set_option maxHeartbeats 6400000 in
theorem rest_do (x y : Value) (s t : Int) (w : World) (hx : NumA w x s 120) (hy : NumA w y t 120) (ht0 : t ≠ 0) :
    Calls Tryd.prog 35 #[x, y] w fun e w' => ∃ v, e = .returned v ∧ NumA w' v (Int.tmod s t) 250 ∧ Below w.heap.size w w' := by
  obtain ⟨b1, p1, o1, n1, q1, rfl⟩ := hx.shape
  obtain ⟨b2, p2, o2, n2, q2, rfl⟩ := hy.shape
  obtain ⟨w3, hw3⟩ : ∃ w3, w3 = ((w.alloc (.cells #[.bool b1, .slice (some ⟨p1, o1, none⟩) n1 q1] 44)).alloc (.cells #[.bool b2, .slice (some ⟨p2, o2, none⟩) n2 q2] 44)).alloc (.cells #[.bool false, .slice none 0 0] 44) := ⟨_, rfl⟩
  have hB := box3 w (.bool b1) (.slice (some ⟨p1, o1, none⟩) n1 q1) (.bool b2) (.slice (some ⟨p2, o2, none⟩) n2 q2)
  rw [← hw3] at hB
  obtain ⟨h1, h2, h3, h4⟩ := hB
  have d10 : w3.drew.cell? ⟨w.heap.size, 0, none⟩ = some (.bool b1) := cell_of h1 0
  have d11 : w3.drew.cell? ⟨w.heap.size, 1, none⟩ = some (.slice (some ⟨p1, o1, none⟩) n1 q1) := cell_of h1 1
  have d20 : w3.drew.cell? ⟨w.heap.size + 1, 0, none⟩ = some (.bool b2) := cell_of h2 0
  have d21 : w3.drew.cell? ⟨w.heap.size + 1, 1, none⟩ = some (.slice (some ⟨p2, o2, none⟩) n2 q2) := cell_of h2 1
  have HX := Lib.hid (fun W (hb : Below w3.drew.heap.size w3.drew W) => (hx.below (h4.drew.trans (hb.mono h4.drew.size))))
  have HY := Lib.hid (fun W (hb : Below w3.drew.heap.size w3.drew W) => (hy.below (h4.drew.trans (hb.mono h4.drew.size))))
  have HC1 := Lib.hid (fun W (hb : Below w3.drew.heap.size w3.drew W) k => cell_of ((hb.block w.heap.size (lt_of_block (w := w3) h1)).trans h1) k)
  have HC2 := Lib.hid (fun W (hb : Below w3.drew.heap.size w3.drew W) k => cell_of ((hb.block (w.heap.size + 1) (lt_of_block (w := w3) h2)).trans h2) k)
  have HN3 := Lib.hid (fun W (hb : Below w3.drew.heap.size w3.drew W) => NumC.below (w := w3.drew) h3 hb)
  have HB3 := Lib.hid (fun W (hb : Below w3.drew.heap.size w3.drew W) => h4.drew.trans (hb.mono h4.drew.size))
  have HW3 := Lib.hid hw3
  have HR := Lib.hid (Below.refl w3.drew.heap.size w3.drew)
  have ho := by_n _ _ s t 120 120 w3.drew (HX.out _ HR.out) (HY.out _ HR.out) (by omega) (by omega) ht0
  have HT := Lib.hid (fun W y2 (hb : Below w3.drew.heap.size w3.drew W) (hy2 : NumA W y2 (Int.tdiv s t) (120 + 2)) => times_n y2 _ (Int.tdiv s t) t 122 120 W (hy2.more (by omega)) (HY.out W hb) (by omega) (by omega))
  have HO := Lib.hid (fun W y2 (hy2 : NumA W y2 (Int.tdiv s t * t) (122 + 120)) => opposite_v y2 _ 242 W hy2)
  have hs := fun W y2 (hb : Below w3.drew.heap.size w3.drew W) (hy2 : NumA W y2 (-(Int.tdiv s t * t)) 242) => plus_n _ y2 s (-(Int.tdiv s t * t)) 120 242 W (HX.out W hb) hy2 (by omega) (by omega)
  rw [show s + -(Int.tdiv s t * t) = Int.tmod s t by have := Int.tmod_add_tdiv_mul s t; omega] at hs
  have HS := Lib.hid hs
  clear h1 h2 h3 h4 hx hy hw3 hs
  go_enter Tryd.func35, Tryd.ntmps35
  go_wp2_with fail
  rw [← HW3.out]
  go_region_law (first
    | (go_simp; go_at_call 34; refine Calls.mono ho ?_; rintro e w5 ⟨v5, rfl, hr5, hb5⟩; obtain ⟨b5, p5, o5, n5, q5, rfl⟩ := hr5.shape; have c1a := HC1.out _ hb5 0; have c1b := HC1.out _ hb5 1; have c2a := HC2.out _ hb5 0; have c2b := HC2.out _ hb5 1; have HT5 := Lib.hid (HT.out _ _ hb5 hr5); have HB5 := Lib.hid hb5; clear hr5 hb5 ho)
    | (go_simp; go_at_call 32; refine Calls.mono HT5.out ?_; rintro e w6 ⟨v6, rfl, hr6, hb6⟩; obtain ⟨b6, p6, o6, n6, q6, rfl⟩ := hr6.shape; have HB6 := Lib.hid (HB5.out.trans (hb6.mono HB5.out.size)); have c3a := HC1.out _ HB6.out 0; have c3b := HC1.out _ HB6.out 1; have c4a := HC2.out _ HB6.out 0; have c4b := HC2.out _ HB6.out 1; have HO6 := Lib.hid (HO.out _ _ hr6); clear hr6 hb6)
    | (go_simp; go_at_call 30; refine Calls.mono HO6.out ?_; rintro e w7 ⟨v7, rfl, hr7, hb7⟩; obtain ⟨b7, p7, o7, n7, q7, rfl⟩ := hr7.shape; have HB7 := Lib.hid (HB6.out.trans (hb7.mono HB6.out.size)); have c5a := HC1.out _ HB7.out 0; have c5b := HC1.out _ HB7.out 1; have HS7 := Lib.hid (HS.out _ _ HB7.out hr7); clear hr7 hb7)
    | (go_simp; go_at_call 28; refine Calls.mono HS7.out ?_; rintro e w8 ⟨v8, rfl, hr8, hb8⟩; obtain ⟨bz, pz, oz, nz, qz, rfl⟩ := hr8.shape; have HBL := Lib.hid (HB7.out.trans (hb8.mono HB7.out.size)); obtain ⟨f0, f1, f2, f3, f4, f5, f6, f7, f8⟩ := NumC.facts (HN3.out _ HBL.out); have HRL := Lib.hid hr8; clear hr8 hb8 f6))
  all_goals
    obtain ⟨g1, g2⟩ := num_put (y := .nilIface) HRL.out (HN3.out _ HBL.out) (HB3.out _ HBL.out) (show w.heap.size ≤ w.heap.size + 1 + 1 by omega)
    have G1 := Lib.hid (g1.more (show _ ≤ 250 by omega))
    have G2 := Lib.hid g2
    clear g1 g2
    go_wp2_with fail
    refine bodyPost_ret (v := .agg #[.bool bz, .slice (some ⟨pz, oz, none⟩) nz qz]) ?_ rfl ⟨_, rfl, G1.out, G2.out⟩
    simp [results, Tryd.results35, go_sem, f7, f8]
end Go.Proofs.YtgoaakdopbielaaDoor
