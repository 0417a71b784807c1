import Derived.Test.YtgoaakdopbielaaDoorBgT
import Derived.Test.YtgoaakdopbielaaDoorBgU
import Derived.Test.YtgoaakdopbielaaDoorBgUa
import Derived.Test.YtgoaakdopbielaaDoorBgV
import Derived.Test.YtgoaakdopbielaaDoorBgVa
namespace Go.Proofs.YtgoaakdopbielaaDoor
open Go.RowKit Go.Shelf
set_option linter.unusedSimpArgs false
set_option linter.unusedVariables false
set_option linter.unusedSectionVars false

/-! Layer 9: what is reckoned is a closure. -/
theorem NumA.more {w : World} {x : Value} {z : Int} {n m : Nat} (h : NumA w x z n) (hnm : n ≤ m) : NumA w x z m := by
  obtain ⟨b, v, c, h1, h2, h3, h4, h5⟩ := h
  exact ⟨b, v, c, h1, h2, h3, h4, by omega⟩
theorem NumA.shape {w : World} {x : Value} {z : Int} {n : Nat} (h : NumA w x z n) : ∃ b p o k cap, x = .agg #[.bool b, .slice (some ⟨p, o, none⟩) k cap] := by
  obtain ⟨b, v, c, h1, h2, _⟩ := h
  obtain ⟨p, o, k, cap, e⟩ := h2.shape
  exact ⟨b, p, o, k, cap, by rw [h1, e]⟩
theorem plus_n (x y : Value) (s t : Int) (n m : Nat) (w : World) (hx : NumA w x s n) (hy : NumA w y t m) (hn : n ≤ 600) (hm : m ≤ 600) :
    Calls Tryd.prog 28 #[x, y] w fun e w' => ∃ v, e = .returned v ∧ NumA w' v (s + t) (max n m + 1) ∧ Below w.heap.size w w' := by
  obtain ⟨b1, v1, c1, rfl, hr1, hc1, hz1, hl1⟩ := hx
  obtain ⟨b2, v2, c2, rfl, hr2, hc2, hz2, hl2⟩ := hy
  have H : Calls Tryd.prog 28 #[.agg #[.bool b1, v1], .agg #[.bool b2, v2]] w fun e w' => ∃ v, e = .returned v ∧ NumA w' v (signZ b1 c1 + signZ b2 c2) (max c1.length c2.length + 1) ∧ Below w.heap.size w w' := by
    cases b1 <;> cases b2
    · exact plus_ff v1 v2 c1 c2 w hr1 hr2 hc1 hc2 (by omega) (by omega)
    · exact plus_ft v1 v2 c1 c2 w hr1 hr2 hc1 hc2 (by omega) (by omega)
    · exact plus_tf v1 v2 c1 c2 w hr1 hr2 hc1 hc2 (by omega) (by omega)
    · exact plus_tt v1 v2 c1 c2 w hr1 hr2 hc1 hc2 (by omega) (by omega)
  rw [hz1, hz2] at H
  refine H.mono ?_
  rintro e w' ⟨v, rfl, h1, h2⟩
  exact ⟨v, rfl, h1.more (by omega), h2⟩
/-- What is laid into the result's cell. -/
theorem num_put {w w2 : World} {x y : Value} {b : Bool} {z : Int} {n p : Nat} (h : NumA w2 (.agg #[.bool b, x]) z n) (hn : NumC w2 p (.bool false) (.slice none 0 0)) (hb : Below w.heap.size w w2) (hp : w.heap.size ≤ p) :
    NumA ((w2.setCell ⟨p, 0, none⟩ (.bool b)).setCell ⟨p, 1, none⟩ x) (.agg #[.bool b, x]) z n ∧ Below w.heap.size w ((w2.setCell ⟨p, 0, none⟩ (.bool b)).setCell ⟨p, 1, none⟩ x) := by
  obtain ⟨b', v, c, h1, h2, h3, h4, h5⟩ := h
  simp only [Value.agg.injEq, Array.mk.injEq, List.cons.injEq, Value.bool.injEq, and_true] at h1
  obtain ⟨rfl, rfl⟩ := h1
  exact num_done h2 h3 h4 h5 hn hb hp
-- GEN
set_option maxRecDepth 100000 in
set_option maxHeartbeats 3200000 in
theorem sum_do (x y : Value) (s t : Int) (w : World) (hx : NumA w x s 120) (hy : NumA w y t 120) :
    Calls Tryd.prog 27 #[x, y] w fun e w' => ∃ v, e = .returned v ∧ NumA w' v (s + t) 250 ∧ Below w.heap.size w w' := by
  obtain ⟨b1, p1, o1, n1, q1, rfl⟩ := hx.shape
  obtain ⟨b2, p2, o2, n2, q2, rfl⟩ := hy.shape
  obtain ⟨w3, hw3⟩ : ∃ w3, w3 = ((w.alloc (.cells #[.bool b1, .slice (some ⟨p1, o1, none⟩) n1 q1] 44)).alloc (.cells #[.bool b2, .slice (some ⟨p2, o2, none⟩) n2 q2] 44)).alloc (.cells #[.bool false, .slice none 0 0] 44) := ⟨_, rfl⟩
  have hB := box3 w (.bool b1) (.slice (some ⟨p1, o1, none⟩) n1 q1) (.bool b2) (.slice (some ⟨p2, o2, none⟩) n2 q2)
  rw [← hw3] at hB
  obtain ⟨h1, h2, h3, h4⟩ := hB
  have c10 := cell_of h1 0
  have c11 := cell_of h1 1
  have c20 := cell_of h2 0
  have c21 := cell_of h2 1
  rw [hw3] at c10 c11 c20 c21
  have ht := plus_n _ _ s t 120 120 w3 (hx.below h4) (hy.below h4) (by omega) (by omega)
  have HN3 := Lib.hid h3
  have HB3 := Lib.hid h4
  rw [hw3] at ht
  have HW3 := Lib.hid hw3
  clear h1 h2 h3 h4 hx hy
  go_enter Tryd.func27, Tryd.ntmps27
  go_wp2_with (go_at_call 28; refine Calls.mono ht ?_; rintro e w5 ⟨v5, rfl, hr5, hb5⟩; rw [← HW3.out] at hb5; obtain ⟨b5, p5, o5, n5, q5, rfl⟩ := hr5.shape; have HNC := Lib.hid (NumC.below HN3.out hb5); obtain ⟨f0, f1, f2, f3, f4, f5, f6, f7, f8⟩ := NumC.facts HNC.out; have HR5 := Lib.hid hr5; have HB5 := Lib.hid (HB3.out.trans (hb5.mono HB3.out.size)); clear hr5 hb5 f6 ht)
  obtain ⟨g1, g2⟩ := num_put (y := .nilIface) HR5.out HNC.out HB5.out (show w.heap.size ≤ w.heap.size + 1 + 1 by omega)
  refine bodyPost_ret (v := .agg #[.bool b5, .slice (some ⟨p5, o5, none⟩) n5 q5]) ?_ rfl ⟨_, rfl, g1.more (by omega), g2⟩
  simp [results, Tryd.results27, go_sem, f7, f8]
set_option maxRecDepth 100000 in
set_option maxHeartbeats 3200000 in
theorem times_do (x y : Value) (s t : Int) (w : World) (hx : NumA w x s 120) (hy : NumA w y t 120) :
    Calls Tryd.prog 31 #[x, y] w fun e w' => ∃ v, e = .returned v ∧ NumA w' v (s * t) 250 ∧ Below w.heap.size w w' := by
  obtain ⟨b1, p1, o1, n1, q1, rfl⟩ := hx.shape
  obtain ⟨b2, p2, o2, n2, q2, rfl⟩ := hy.shape
  obtain ⟨w3, hw3⟩ : ∃ w3, w3 = ((w.alloc (.cells #[.bool b1, .slice (some ⟨p1, o1, none⟩) n1 q1] 44)).alloc (.cells #[.bool b2, .slice (some ⟨p2, o2, none⟩) n2 q2] 44)).alloc (.cells #[.bool false, .slice none 0 0] 44) := ⟨_, rfl⟩
  have hB := box3 w (.bool b1) (.slice (some ⟨p1, o1, none⟩) n1 q1) (.bool b2) (.slice (some ⟨p2, o2, none⟩) n2 q2)
  rw [← hw3] at hB
  obtain ⟨h1, h2, h3, h4⟩ := hB
  have c10 := cell_of h1 0
  have c11 := cell_of h1 1
  have c20 := cell_of h2 0
  have c21 := cell_of h2 1
  rw [hw3] at c10 c11 c20 c21
  have ht := times_n _ _ s t 120 120 w3 (hx.below h4) (hy.below h4) (by omega) (by omega)
  have HN3 := Lib.hid h3
  have HB3 := Lib.hid h4
  rw [hw3] at ht
  have HW3 := Lib.hid hw3
  clear h1 h2 h3 h4 hx hy
  go_enter Tryd.func31, Tryd.ntmps31
  go_wp2_with (go_at_call 32; refine Calls.mono ht ?_; rintro e w5 ⟨v5, rfl, hr5, hb5⟩; rw [← HW3.out] at hb5; obtain ⟨b5, p5, o5, n5, q5, rfl⟩ := hr5.shape; have HNC := Lib.hid (NumC.below HN3.out hb5); obtain ⟨f0, f1, f2, f3, f4, f5, f6, f7, f8⟩ := NumC.facts HNC.out; have HR5 := Lib.hid hr5; have HB5 := Lib.hid (HB3.out.trans (hb5.mono HB3.out.size)); clear hr5 hb5 f6 ht)
  obtain ⟨g1, g2⟩ := num_put (y := .nilIface) HR5.out HNC.out HB5.out (show w.heap.size ≤ w.heap.size + 1 + 1 by omega)
  refine bodyPost_ret (v := .agg #[.bool b5, .slice (some ⟨p5, o5, none⟩) n5 q5]) ?_ rfl ⟨_, rfl, g1.more (by omega), g2⟩
  simp [results, Tryd.results31, go_sem, f7, f8]
set_option maxRecDepth 100000 in
set_option maxHeartbeats 3200000 in
theorem quot_do (x y : Value) (s t : Int) (w : World) (hx : NumA w x s 120) (hy : NumA w y t 120) (ht0 : t ≠ 0) :
    Calls Tryd.prog 33 #[x, y] w fun e w' => ∃ v, e = .returned v ∧ NumA w' v (Int.tdiv s t) 250 ∧ Below w.heap.size w w' := by
  obtain ⟨b1, p1, o1, n1, q1, rfl⟩ := hx.shape
  obtain ⟨b2, p2, o2, n2, q2, rfl⟩ := hy.shape
  obtain ⟨w3, hw3⟩ : ∃ w3, w3 = ((w.alloc (.cells #[.bool b1, .slice (some ⟨p1, o1, none⟩) n1 q1] 44)).alloc (.cells #[.bool b2, .slice (some ⟨p2, o2, none⟩) n2 q2] 44)).alloc (.cells #[.bool false, .slice none 0 0] 44) := ⟨_, rfl⟩
  have hB := box3 w (.bool b1) (.slice (some ⟨p1, o1, none⟩) n1 q1) (.bool b2) (.slice (some ⟨p2, o2, none⟩) n2 q2)
  rw [← hw3] at hB
  obtain ⟨h1, h2, h3, h4⟩ := hB
  have c10 := cell_of h1 0
  have c11 := cell_of h1 1
  have c20 := cell_of h2 0
  have c21 := cell_of h2 1
  rw [hw3] at c10 c11 c20 c21
  have ht := by_n _ _ s t 120 120 w3 (hx.below h4) (hy.below h4) (by omega) (by omega) ht0
  have HN3 := Lib.hid h3
  have HB3 := Lib.hid h4
  rw [hw3] at ht
  have HW3 := Lib.hid hw3
  clear h1 h2 h3 h4 hx hy
  go_enter Tryd.func33, Tryd.ntmps33
  go_wp2_with (go_at_call 34; refine Calls.mono ht ?_; rintro e w5 ⟨v5, rfl, hr5, hb5⟩; rw [← HW3.out] at hb5; obtain ⟨b5, p5, o5, n5, q5, rfl⟩ := hr5.shape; have HNC := Lib.hid (NumC.below HN3.out hb5); obtain ⟨f0, f1, f2, f3, f4, f5, f6, f7, f8⟩ := NumC.facts HNC.out; have HR5 := Lib.hid hr5; have HB5 := Lib.hid (HB3.out.trans (hb5.mono HB3.out.size)); clear hr5 hb5 f6 ht)
  obtain ⟨g1, g2⟩ := num_put (y := .nilIface) HR5.out HNC.out HB5.out (show w.heap.size ≤ w.heap.size + 1 + 1 by omega)
  refine bodyPost_ret (v := .agg #[.bool b5, .slice (some ⟨p5, o5, none⟩) n5 q5]) ?_ rfl ⟨_, rfl, g1.more (by omega), g2⟩
  simp [results, Tryd.results33, go_sem, f7, f8]
end Go.Proofs.YtgoaakdopbielaaDoor
