import Derived.Test.YtgoaakdopbielaaDoorBgR
namespace Go.Proofs.YtgoaakdopbielaaDoor
open Go.RowKit Go.Shelf
set_option linter.unusedSimpArgs false
set_option linter.unusedVariables false
set_option linter.unusedSectionVars false

/-! Layer 9: products, quotients, sums of numbers. -/
/-- The three cells that two numbers and their result lie in. -/
def Box3 (w w3 : World) (x1 y1 x2 y2 : Value) : Prop := w3.heap[w.heap.size]? = some (.cells #[x1, y1] 44 (0, 0)) ∧ w3.heap[w.heap.size + 1]? = some (.cells #[x2, y2] 44 (0, 0)) ∧ NumC w3 (w.heap.size + 1 + 1) (.bool false) (.slice none 0 0) ∧ Below w.heap.size w w3
theorem box3 (w : World) (x1 y1 x2 y2 : Value) : Box3 w (((w.alloc (.cells #[x1, y1] 44)).alloc (.cells #[x2, y2] 44)).alloc (.cells #[.bool false, .slice none 0 0] 44)) x1 y1 x2 y2 := by
  have h1 : Below w.heap.size w (w.alloc (.cells #[x1, y1] 44)) := (Below.refl _ _).alloc (Nat.le_refl _) _
  refine ⟨?_, ?_, ?_, (h1.alloc h1.size _).alloc (by simp; omega) _⟩
  · rw [Below.heap_alloc _ _ _ (by simp; omega), Below.heap_alloc _ _ _ (by simp)]; exact heap_alloc_new w _
  · rw [Below.heap_alloc _ _ _ (by simp)]; exact alloc_at (by simp) _
  · exact alloc_at (by simp) _
theorem NumC.below {w w' : World} {p : Nat} {x y : Value} (h : NumC w p x y) (hb : Below w.heap.size w w') : NumC w' p x y := (hb.block p (lt_of_block h)).trans h
/-- What is laid into the result's cell. -/
theorem num_done {w w2 : World} {x : Value} {c : List Int} {z : Int} {n : Nat} {bb : Bool} {p : Nat} (hr : RowA w2 x c) (hc : canon c) (hz : signZ bb c = z) (hl : c.length ≤ n) (hn : NumC w2 p (.bool false) (.slice none 0 0)) (hb : Below w.heap.size w w2) (hp : w.heap.size ≤ p) :
    NumA ((w2.setCell ⟨p, 0, none⟩ (.bool bb)).setCell ⟨p, 1, none⟩ x) (.agg #[.bool bb, x]) z n ∧ Below w.heap.size w ((w2.setCell ⟨p, 0, none⟩ (.bool bb)).setCell ⟨p, 1, none⟩ x) :=
  ⟨⟨bb, x, c, rfl, row_set hr hn _ _, hc, hz, hl⟩, num_below hb hp _ _⟩
theorem sign_mul (a b : Bool) (c d : List Int) (e : List Int) (h : valI e = valI c * valI d) : signZ (a != b) e = signZ a c * signZ b d := by
  unfold signZ
  rw [h]
  cases a <;> cases b <;> simp [Int.neg_mul, Int.mul_neg]
set_option maxRecDepth 100000 in
set_option maxHeartbeats 3200000 in
theorem times_n (x y : Value) (s t : Int) (n m : Nat) (w : World) (hx : NumA w x s n) (hy : NumA w y t m) (hn : n ≤ 500) (hm : m ≤ 500) :
    Calls Tryd.prog 32 #[x, y] w fun e w' => ∃ v, e = .returned v ∧ NumA w' v (s * t) (n + m) ∧ Below w.heap.size w w' := by
  obtain ⟨b1, v1, c1, rfl, hr1, hc1, hz1, hl1⟩ := hx
  obtain ⟨b2, v2, c2, rfl, hr2, hc2, hz2, hl2⟩ := hy
  obtain ⟨p1, o1, n1, q1, rfl⟩ := hr1.shape
  obtain ⟨p2, o2, n2, q2, rfl⟩ := hr2.shape
  obtain ⟨w3, hw3⟩ : ∃ w3, w3 = ((w.alloc (.cells #[.bool b1, .slice (some ⟨p1, o1, none⟩) n1 q1] 44)).alloc (.cells #[.bool b2, .slice (some ⟨p2, o2, none⟩) n2 q2] 44)).alloc (.cells #[.bool false, .slice none 0 0] 44) := ⟨_, rfl⟩
  have hB := box3 w (.bool b1) (.slice (some ⟨p1, o1, none⟩) n1 q1) (.bool b2) (.slice (some ⟨p2, o2, none⟩) n2 q2)
  rw [← hw3] at hB
  obtain ⟨h1, h2, h3, h4⟩ := hB
  have c10 := cell_of h1 0
  have c11 := cell_of h1 1
  have c20 := cell_of h2 0
  have c21 := cell_of h2 1
  have d10 : w3.drew.cell? ⟨w.heap.size, 0, none⟩ = some (.bool b1) := c10
  have d11 : w3.drew.cell? ⟨w.heap.size, 1, none⟩ = some (.slice (some ⟨p1, o1, none⟩) n1 q1) := c11
  have d20 : w3.drew.cell? ⟨w.heap.size + 1, 0, none⟩ = some (.bool b2) := c20
  have d21 : w3.drew.cell? ⟨w.heap.size + 1, 1, none⟩ = some (.slice (some ⟨p2, o2, none⟩) n2 q2) := c21
  have ht := times_v _ _ c1 c2 w3.drew (RowA.drew (hr1.below h4)) (RowA.drew (hr2.below h4)) hc1.1 hc2.1 (by omega) (by omega)
  have H1 := Lib.hid h1
  have H2 := Lib.hid h2
  have HN3 := Lib.hid h3
  have HB3 := Lib.hid h4
  have HSM := Lib.hid (fun e h => (sign_mul b1 b2 c1 c2 e h).trans (by rw [hz1, hz2]))
  have HW3 := Lib.hid hw3
  clear h1 h2 h3 h4 hr1 hr2 hw3
  go_enter Tryd.func32, Tryd.ntmps32
  go_wp2_with fail
  rw [← HW3.out]
  go_region_law (go_simp; go_at_call 51; refine Calls.mono ht ?_; rintro e w5 ⟨v5, c5, rfl, hr5, hc5, hv5, hl5, hb5⟩; obtain ⟨p5, o5, n5, q5, rfl⟩ := hr5.row.shape; have HNC := Lib.hid (NumC.below (w := w3.drew) HN3.out hb5); obtain ⟨f0, f1, f2, f3, f4, f5, f6, f7, f8⟩ := NumC.facts HNC.out; have e1 := cell_of ((hb5.block w.heap.size (lt_of_block (w := w3) H1.out)).trans H1.out) 0; have e2 := cell_of ((hb5.block w.heap.size (lt_of_block (w := w3) H1.out)).trans H1.out) 1; have e3 := cell_of ((hb5.block (w.heap.size + 1) (lt_of_block (w := w3) H2.out)).trans H2.out) 0; have e4 := cell_of ((hb5.block (w.heap.size + 1) (lt_of_block (w := w3) H2.out)).trans H2.out) 1; have HR5 := Lib.hid hr5.row; have HC5 := Lib.hid hc5; have HV5 := Lib.hid hv5; have HL5 := Lib.hid hl5; have HB5 := Lib.hid (HB3.out.drew.trans (hb5.mono HB3.out.drew.size)); clear hr5 hc5 hv5 hl5 hb5 f6)
  all_goals
    obtain ⟨g1, g2⟩ := num_done (bb := b1 != b2) HR5.out HC5.out (HSM.out _ HV5.out) (show c5.length ≤ n + m by have := HL5.out; omega) HNC.out HB5.out (show w.heap.size ≤ w.heap.size + 1 + 1 by omega)
    have G1 := Lib.hid g1
    have G2 := Lib.hid g2
    clear g1 g2
    go_wp2_with fail
    refine bodyPost_ret (v := .agg #[.bool (b1 != b2), .slice (some ⟨p5, o5, none⟩) n5 q5]) ?_ rfl ⟨_, rfl, G1.out, G2.out⟩
    simp [results, Tryd.results32, go_sem, f7, f8]
    cases b1 <;> cases b2 <;> rfl
end Go.Proofs.YtgoaakdopbielaaDoor
