import Derived.Test.YtgoaakdopbielaaDoorBgYa
import Derived.Test.YtgoaakdopbielaaDoorBgZ
namespace Go.Proofs.YtgoaakdopbielaaDoor
open Go.RowKit Go.Shelf
set_option linter.unusedSimpArgs false
set_option linter.unusedVariables false
set_option linter.unusedSectionVars false

/-! Layer 9: what is reckoned. -/
set_option maxRecDepth 100000 in
set_option maxHeartbeats 1600000 in
theorem reckon_no1 (s t : ByteArray) (fv : Value) (w : World) (h : (rightB s.data.toList && rightB t.data.toList) = false) :
    Calls Tryd.prog 26 #[.string s, .string t, fv] w fun e w' => e = .returned (.tuple #[.string ⟨#[]⟩, .int .i64 1]) ∧ Below w.heap.size w w' := by
  have h1 := fun w => right_v s w
  have h2 := fun w => right_v t w
  generalize rightB s.data.toList = P at *
  generalize rightB t.data.toList = Q at *
  have H1 := Lib.hid h1
  have H2 := Lib.hid h2
  clear h1 h2 
  cases P <;> cases Q <;> first | (cases h; done) | skip
  all_goals
    go_enter Tryd.func26, Tryd.ntmps26
    go_wp2_with (first
      | (go_at_call 21; with_reducible refine Calls.mono (H1.out _) ?_; rintro e w1 ⟨rfl, hb1⟩; have HB1 := Lib.hid hb1; clear hb1)
      | (go_at_call 21; with_reducible refine Calls.mono (H2.out _) ?_; rintro e w2 ⟨rfl, hb2⟩; have HB2 := Lib.hid (HB1.out.trans (hb2.mono HB1.out.size)); clear hb2))
    go_ret2
    exact ⟨by first | rfl | simp, by first | exact HB2.out | exact HB1.out⟩
/-- Both are right: what is done is the number. -/
def DoZ (f : Nat) (s t : ByteArray) (z : Int) : Prop := ∀ x y W, NumA W x (zL s.data.toList) 120 → NumA W y (zL t.data.toList) 120 → Calls Tryd.prog f #[x, y] W fun e w' => ∃ v, e = .returned v ∧ NumA w' v z 250 ∧ Below W.heap.size W w'
theorem read_n (s : ByteArray) (w : World) (h : rightL s.data.toList) :
    Calls Tryd.prog 45 #[.string s] w fun e w' => ∃ x, e = .returned x ∧ NumA w' x (zL s.data.toList) 120 ∧ Below w.heap.size w w' := by
  obtain ⟨_, h2, h3⟩ := h
  have hw := wide_iff _ h2
  have : ¬ 155 < (amtL s.data.toList).length := fun hh => absurd (hw.mp (.inl hh)) (by omega)
  refine (read_v s w h2 (by omega)).mono ?_
  rintro e w' ⟨b, v, c, rfl, h1, h2, h3, h4, h5⟩
  exact ⟨_, rfl, ⟨b, v, c, rfl, h1, h2, h3, h4⟩, h5⟩
theorem text_n (x : Value) (z : Int) (w : World) (hx : NumA w x z 250) (hE : EnvB w) :
    Calls Tryd.prog 47 #[x] w fun e w' => e = .returned (.string ⟨(Lib.itoa z).toArray⟩) ∧ Below w.heap.size w w' := by
  obtain ⟨b, v, c, rfl, h1, h2, rfl, h4⟩ := hx
  exact text_v b v c w h1 h2 (by omega) hE
theorem wide_amt (z : Int) (w : World) : Calls Tryd.prog 43 #[.string (amtB ⟨(Lib.itoa z).toArray⟩)] w fun e w' => e = .returned (.bool (decide (LIM ≤ z.natAbs))) ∧ Below w.heap.size w w' := by
  have h := wide_v (amtB ⟨(Lib.itoa z).toArray⟩) w
  have e1 : (amtB ⟨(Lib.itoa z).toArray⟩).data.toList = Lib.decDigits z.natAbs := (amt_itoa z).1
  have e2 : (amtB ⟨(Lib.itoa z).toArray⟩).size = (Lib.decDigits z.natAbs).length := by rw [← e1]; simp
  rw [e1, e2] at h
  have hd : wideB (Lib.decDigits z.natAbs) = decide (LIM ≤ z.natAbs) := by
    have := wideB_iff _ (dec_plain z.natAbs)
    rw [undec_dec] at this
    rw [Bool.eq_iff_iff, this, decide_eq_true_iff]
  unfold wideB at hd
  rw [hd] at h
  exact h
set_option maxRecDepth 100000 in
set_option maxHeartbeats 1600000 in
theorem reckon_Sum (s t : ByteArray) (z : Int) (w : World) (h1 : rightL s.data.toList) (h2 : rightL t.data.toList) (hE : EnvB w) (hd : DoZ 27 s t z) :
    Calls Tryd.prog 26 #[.string s, .string t, .func (.func 27) #[] #[]] w fun e w' => e = .returned (.tuple #[.string (if LIM ≤ z.natAbs then ⟨#[]⟩ else ⟨(Lib.itoa z).toArray⟩), .int .i64 (if LIM ≤ z.natAbs then 10 else 0)]) ∧ Below w.heap.size w w' := by
  have e1 := fun w => right_v s w
  have e2 := fun w => right_v t w
  rw [(rightB_iff _).mpr h1] at e1
  rw [(rightB_iff _).mpr h2] at e2
  have H1 := Lib.hid e1
  have H2 := Lib.hid e2
  have R1 := Lib.hid (fun w => read_n s w h1)
  have R2 := Lib.hid (fun w => read_n t w h2)
  unfold DoZ at hd
  have HD := Lib.hid hd
  have HE := Lib.hid hE
  have ham := fun w => amountOf_v ⟨(Lib.itoa z).toArray⟩ w
  have hwd := fun w => wide_amt z w
  have htx := fun x w => text_n x z w
  obtain ⟨Wd, hWd⟩ : ∃ Wd, decide (LIM ≤ z.natAbs) = Wd := ⟨_, rfl⟩
  have hres : (if LIM ≤ z.natAbs then (⟨#[]⟩ : ByteArray) else ⟨(Lib.itoa z).toArray⟩) = if Wd = true then ⟨#[]⟩ else ⟨(Lib.itoa z).toArray⟩ := by rw [← hWd]; simp
  have hres2 : (if LIM ≤ z.natAbs then (10 : Int) else 0) = if Wd = true then 10 else 0 := by rw [← hWd]; simp
  rw [hres, hres2]
  rw [hWd] at hwd
  clear hres hres2 hWd
  generalize amtB ⟨(Lib.itoa z).toArray⟩ = F at *
  generalize (⟨(Lib.itoa z).toArray⟩ : ByteArray) = T at *
  have HA := Lib.hid ham
  have HW := Lib.hid hwd
  have HT := Lib.hid htx
  clear e1 e2 h1 h2 hd hE ham hwd htx
  cases Wd <;>
  · go_enter Tryd.func26, Tryd.ntmps26
    go_wp2_with (first
      | (go_at_call 21; with_reducible refine Calls.mono (H1.out _) ?_; rintro e w1 ⟨rfl, hb1⟩; have HB1 := Lib.hid hb1; clear hb1)
      | (go_at_call 21; with_reducible refine Calls.mono (H2.out _) ?_; rintro e w2 ⟨rfl, hb2⟩; have HB2 := Lib.hid (HB1.out.trans (hb2.mono HB1.out.size)); clear hb2)
      | (go_at_call 45; with_reducible refine Calls.mono (R1.out _) ?_; rintro e w3 ⟨x3, rfl, hx3, hb3⟩; obtain ⟨b3, p3, o3, n3, q3, rfl⟩ := hx3.shape; have HX3 := Lib.hid hx3; have HB3 := Lib.hid (HB2.out.trans (hb3.mono HB2.out.size)); clear hx3 hb3)
      | (go_at_call 45; with_reducible refine Calls.mono (R2.out _) ?_; rintro e w4 ⟨x4, rfl, hx4, hb4⟩; obtain ⟨b4, p4, o4, n4, q4, rfl⟩ := hx4.shape; have HX4 := Lib.hid (HX3.out.below hb4); have HY4 := Lib.hid hx4; have HB4 := Lib.hid (HB3.out.trans (hb4.mono HB3.out.size)); clear hx4 hb4)
      | (go_at_call 27; with_reducible refine Calls.mono (HD.out _ _ _ HX4.out HY4.out) ?_; rintro e w5 ⟨x5, rfl, hx5, hb5⟩; obtain ⟨b5, p5, o5, n5, q5, rfl⟩ := hx5.shape; have HX5 := Lib.hid hx5; have HB5 := Lib.hid (HB4.out.trans (hb5.mono HB4.out.size)); clear hx5 hb5)
      | (go_at_call 47; with_reducible refine Calls.mono (HT.out _ _ HX5.out (HE.out.below HB5.out)) ?_; rintro e w6 ⟨rfl, hb6⟩; have HB6 := Lib.hid (HB5.out.trans (hb6.mono HB5.out.size)); clear hb6)
      | (go_at_call 41; with_reducible refine Calls.mono (HA.out _) ?_; rintro e w7 ⟨rfl, hw7⟩; replace hw7 := hw7.symm; subst hw7)
      | (go_at_call 43; with_reducible refine Calls.mono (HW.out _) ?_; rintro e w8 ⟨rfl, hb8⟩; have HB8 := Lib.hid (HB6.out.trans (hb8.mono HB6.out.size)); clear hb8))
    go_ret2
    exact ⟨by first | rfl | simp, HB8.out⟩
set_option maxRecDepth 100000 in
set_option maxHeartbeats 1600000 in
theorem reckon_Less (s t : ByteArray) (z : Int) (w : World) (h1 : rightL s.data.toList) (h2 : rightL t.data.toList) (hE : EnvB w) (hd : DoZ 29 s t z) :
    Calls Tryd.prog 26 #[.string s, .string t, .func (.func 29) #[] #[]] w fun e w' => e = .returned (.tuple #[.string (if LIM ≤ z.natAbs then ⟨#[]⟩ else ⟨(Lib.itoa z).toArray⟩), .int .i64 (if LIM ≤ z.natAbs then 10 else 0)]) ∧ Below w.heap.size w w' := by
  have e1 := fun w => right_v s w
  have e2 := fun w => right_v t w
  rw [(rightB_iff _).mpr h1] at e1
  rw [(rightB_iff _).mpr h2] at e2
  have H1 := Lib.hid e1
  have H2 := Lib.hid e2
  have R1 := Lib.hid (fun w => read_n s w h1)
  have R2 := Lib.hid (fun w => read_n t w h2)
  unfold DoZ at hd
  have HD := Lib.hid hd
  have HE := Lib.hid hE
  have ham := fun w => amountOf_v ⟨(Lib.itoa z).toArray⟩ w
  have hwd := fun w => wide_amt z w
  have htx := fun x w => text_n x z w
  obtain ⟨Wd, hWd⟩ : ∃ Wd, decide (LIM ≤ z.natAbs) = Wd := ⟨_, rfl⟩
  have hres : (if LIM ≤ z.natAbs then (⟨#[]⟩ : ByteArray) else ⟨(Lib.itoa z).toArray⟩) = if Wd = true then ⟨#[]⟩ else ⟨(Lib.itoa z).toArray⟩ := by rw [← hWd]; simp
  have hres2 : (if LIM ≤ z.natAbs then (10 : Int) else 0) = if Wd = true then 10 else 0 := by rw [← hWd]; simp
  rw [hres, hres2]
  rw [hWd] at hwd
  clear hres hres2 hWd
  generalize amtB ⟨(Lib.itoa z).toArray⟩ = F at *
  generalize (⟨(Lib.itoa z).toArray⟩ : ByteArray) = T at *
  have HA := Lib.hid ham
  have HW := Lib.hid hwd
  have HT := Lib.hid htx
  clear e1 e2 h1 h2 hd hE ham hwd htx
  cases Wd <;>
  · go_enter Tryd.func26, Tryd.ntmps26
    go_wp2_with (first
      | (go_at_call 21; with_reducible refine Calls.mono (H1.out _) ?_; rintro e w1 ⟨rfl, hb1⟩; have HB1 := Lib.hid hb1; clear hb1)
      | (go_at_call 21; with_reducible refine Calls.mono (H2.out _) ?_; rintro e w2 ⟨rfl, hb2⟩; have HB2 := Lib.hid (HB1.out.trans (hb2.mono HB1.out.size)); clear hb2)
      | (go_at_call 45; with_reducible refine Calls.mono (R1.out _) ?_; rintro e w3 ⟨x3, rfl, hx3, hb3⟩; obtain ⟨b3, p3, o3, n3, q3, rfl⟩ := hx3.shape; have HX3 := Lib.hid hx3; have HB3 := Lib.hid (HB2.out.trans (hb3.mono HB2.out.size)); clear hx3 hb3)
      | (go_at_call 45; with_reducible refine Calls.mono (R2.out _) ?_; rintro e w4 ⟨x4, rfl, hx4, hb4⟩; obtain ⟨b4, p4, o4, n4, q4, rfl⟩ := hx4.shape; have HX4 := Lib.hid (HX3.out.below hb4); have HY4 := Lib.hid hx4; have HB4 := Lib.hid (HB3.out.trans (hb4.mono HB3.out.size)); clear hx4 hb4)
      | (go_at_call 29; with_reducible refine Calls.mono (HD.out _ _ _ HX4.out HY4.out) ?_; rintro e w5 ⟨x5, rfl, hx5, hb5⟩; obtain ⟨b5, p5, o5, n5, q5, rfl⟩ := hx5.shape; have HX5 := Lib.hid hx5; have HB5 := Lib.hid (HB4.out.trans (hb5.mono HB4.out.size)); clear hx5 hb5)
      | (go_at_call 47; with_reducible refine Calls.mono (HT.out _ _ HX5.out (HE.out.below HB5.out)) ?_; rintro e w6 ⟨rfl, hb6⟩; have HB6 := Lib.hid (HB5.out.trans (hb6.mono HB5.out.size)); clear hb6)
      | (go_at_call 41; with_reducible refine Calls.mono (HA.out _) ?_; rintro e w7 ⟨rfl, hw7⟩; replace hw7 := hw7.symm; subst hw7)
      | (go_at_call 43; with_reducible refine Calls.mono (HW.out _) ?_; rintro e w8 ⟨rfl, hb8⟩; have HB8 := Lib.hid (HB6.out.trans (hb8.mono HB6.out.size)); clear hb8))
    go_ret2
    exact ⟨by first | rfl | simp, HB8.out⟩
set_option maxRecDepth 100000 in
set_option maxHeartbeats 1600000 in
theorem reckon_Times (s t : ByteArray) (z : Int) (w : World) (h1 : rightL s.data.toList) (h2 : rightL t.data.toList) (hE : EnvB w) (hd : DoZ 31 s t z) :
    Calls Tryd.prog 26 #[.string s, .string t, .func (.func 31) #[] #[]] w fun e w' => e = .returned (.tuple #[.string (if LIM ≤ z.natAbs then ⟨#[]⟩ else ⟨(Lib.itoa z).toArray⟩), .int .i64 (if LIM ≤ z.natAbs then 10 else 0)]) ∧ Below w.heap.size w w' := by
  have e1 := fun w => right_v s w
  have e2 := fun w => right_v t w
  rw [(rightB_iff _).mpr h1] at e1
  rw [(rightB_iff _).mpr h2] at e2
  have H1 := Lib.hid e1
  have H2 := Lib.hid e2
  have R1 := Lib.hid (fun w => read_n s w h1)
  have R2 := Lib.hid (fun w => read_n t w h2)
  unfold DoZ at hd
  have HD := Lib.hid hd
  have HE := Lib.hid hE
  have ham := fun w => amountOf_v ⟨(Lib.itoa z).toArray⟩ w
  have hwd := fun w => wide_amt z w
  have htx := fun x w => text_n x z w
  obtain ⟨Wd, hWd⟩ : ∃ Wd, decide (LIM ≤ z.natAbs) = Wd := ⟨_, rfl⟩
  have hres : (if LIM ≤ z.natAbs then (⟨#[]⟩ : ByteArray) else ⟨(Lib.itoa z).toArray⟩) = if Wd = true then ⟨#[]⟩ else ⟨(Lib.itoa z).toArray⟩ := by rw [← hWd]; simp
  have hres2 : (if LIM ≤ z.natAbs then (10 : Int) else 0) = if Wd = true then 10 else 0 := by rw [← hWd]; simp
  rw [hres, hres2]
  rw [hWd] at hwd
  clear hres hres2 hWd
  generalize amtB ⟨(Lib.itoa z).toArray⟩ = F at *
  generalize (⟨(Lib.itoa z).toArray⟩ : ByteArray) = T at *
  have HA := Lib.hid ham
  have HW := Lib.hid hwd
  have HT := Lib.hid htx
  clear e1 e2 h1 h2 hd hE ham hwd htx
  cases Wd <;>
  · go_enter Tryd.func26, Tryd.ntmps26
    go_wp2_with (first
      | (go_at_call 21; with_reducible refine Calls.mono (H1.out _) ?_; rintro e w1 ⟨rfl, hb1⟩; have HB1 := Lib.hid hb1; clear hb1)
      | (go_at_call 21; with_reducible refine Calls.mono (H2.out _) ?_; rintro e w2 ⟨rfl, hb2⟩; have HB2 := Lib.hid (HB1.out.trans (hb2.mono HB1.out.size)); clear hb2)
      | (go_at_call 45; with_reducible refine Calls.mono (R1.out _) ?_; rintro e w3 ⟨x3, rfl, hx3, hb3⟩; obtain ⟨b3, p3, o3, n3, q3, rfl⟩ := hx3.shape; have HX3 := Lib.hid hx3; have HB3 := Lib.hid (HB2.out.trans (hb3.mono HB2.out.size)); clear hx3 hb3)
      | (go_at_call 45; with_reducible refine Calls.mono (R2.out _) ?_; rintro e w4 ⟨x4, rfl, hx4, hb4⟩; obtain ⟨b4, p4, o4, n4, q4, rfl⟩ := hx4.shape; have HX4 := Lib.hid (HX3.out.below hb4); have HY4 := Lib.hid hx4; have HB4 := Lib.hid (HB3.out.trans (hb4.mono HB3.out.size)); clear hx4 hb4)
      | (go_at_call 31; with_reducible refine Calls.mono (HD.out _ _ _ HX4.out HY4.out) ?_; rintro e w5 ⟨x5, rfl, hx5, hb5⟩; obtain ⟨b5, p5, o5, n5, q5, rfl⟩ := hx5.shape; have HX5 := Lib.hid hx5; have HB5 := Lib.hid (HB4.out.trans (hb5.mono HB4.out.size)); clear hx5 hb5)
      | (go_at_call 47; with_reducible refine Calls.mono (HT.out _ _ HX5.out (HE.out.below HB5.out)) ?_; rintro e w6 ⟨rfl, hb6⟩; have HB6 := Lib.hid (HB5.out.trans (hb6.mono HB5.out.size)); clear hb6)
      | (go_at_call 41; with_reducible refine Calls.mono (HA.out _) ?_; rintro e w7 ⟨rfl, hw7⟩; replace hw7 := hw7.symm; subst hw7)
      | (go_at_call 43; with_reducible refine Calls.mono (HW.out _) ?_; rintro e w8 ⟨rfl, hb8⟩; have HB8 := Lib.hid (HB6.out.trans (hb8.mono HB6.out.size)); clear hb8))
    go_ret2
    exact ⟨by first | rfl | simp, HB8.out⟩
set_option maxRecDepth 100000 in
set_option maxHeartbeats 1600000 in
theorem reckon_Quotient (s t : ByteArray) (z : Int) (w : World) (h1 : rightL s.data.toList) (h2 : rightL t.data.toList) (hE : EnvB w) (hd : DoZ 33 s t z) :
    Calls Tryd.prog 26 #[.string s, .string t, .func (.func 33) #[] #[]] w fun e w' => e = .returned (.tuple #[.string (if LIM ≤ z.natAbs then ⟨#[]⟩ else ⟨(Lib.itoa z).toArray⟩), .int .i64 (if LIM ≤ z.natAbs then 10 else 0)]) ∧ Below w.heap.size w w' := by
  have e1 := fun w => right_v s w
  have e2 := fun w => right_v t w
  rw [(rightB_iff _).mpr h1] at e1
  rw [(rightB_iff _).mpr h2] at e2
  have H1 := Lib.hid e1
  have H2 := Lib.hid e2
  have R1 := Lib.hid (fun w => read_n s w h1)
  have R2 := Lib.hid (fun w => read_n t w h2)
  unfold DoZ at hd
  have HD := Lib.hid hd
  have HE := Lib.hid hE
  have ham := fun w => amountOf_v ⟨(Lib.itoa z).toArray⟩ w
  have hwd := fun w => wide_amt z w
  have htx := fun x w => text_n x z w
  obtain ⟨Wd, hWd⟩ : ∃ Wd, decide (LIM ≤ z.natAbs) = Wd := ⟨_, rfl⟩
  have hres : (if LIM ≤ z.natAbs then (⟨#[]⟩ : ByteArray) else ⟨(Lib.itoa z).toArray⟩) = if Wd = true then ⟨#[]⟩ else ⟨(Lib.itoa z).toArray⟩ := by rw [← hWd]; simp
  have hres2 : (if LIM ≤ z.natAbs then (10 : Int) else 0) = if Wd = true then 10 else 0 := by rw [← hWd]; simp
  rw [hres, hres2]
  rw [hWd] at hwd
  clear hres hres2 hWd
  generalize amtB ⟨(Lib.itoa z).toArray⟩ = F at *
  generalize (⟨(Lib.itoa z).toArray⟩ : ByteArray) = T at *
  have HA := Lib.hid ham
  have HW := Lib.hid hwd
  have HT := Lib.hid htx
  clear e1 e2 h1 h2 hd hE ham hwd htx
  cases Wd <;>
  · go_enter Tryd.func26, Tryd.ntmps26
    go_wp2_with (first
      | (go_at_call 21; with_reducible refine Calls.mono (H1.out _) ?_; rintro e w1 ⟨rfl, hb1⟩; have HB1 := Lib.hid hb1; clear hb1)
      | (go_at_call 21; with_reducible refine Calls.mono (H2.out _) ?_; rintro e w2 ⟨rfl, hb2⟩; have HB2 := Lib.hid (HB1.out.trans (hb2.mono HB1.out.size)); clear hb2)
      | (go_at_call 45; with_reducible refine Calls.mono (R1.out _) ?_; rintro e w3 ⟨x3, rfl, hx3, hb3⟩; obtain ⟨b3, p3, o3, n3, q3, rfl⟩ := hx3.shape; have HX3 := Lib.hid hx3; have HB3 := Lib.hid (HB2.out.trans (hb3.mono HB2.out.size)); clear hx3 hb3)
      | (go_at_call 45; with_reducible refine Calls.mono (R2.out _) ?_; rintro e w4 ⟨x4, rfl, hx4, hb4⟩; obtain ⟨b4, p4, o4, n4, q4, rfl⟩ := hx4.shape; have HX4 := Lib.hid (HX3.out.below hb4); have HY4 := Lib.hid hx4; have HB4 := Lib.hid (HB3.out.trans (hb4.mono HB3.out.size)); clear hx4 hb4)
      | (go_at_call 33; with_reducible refine Calls.mono (HD.out _ _ _ HX4.out HY4.out) ?_; rintro e w5 ⟨x5, rfl, hx5, hb5⟩; obtain ⟨b5, p5, o5, n5, q5, rfl⟩ := hx5.shape; have HX5 := Lib.hid hx5; have HB5 := Lib.hid (HB4.out.trans (hb5.mono HB4.out.size)); clear hx5 hb5)
      | (go_at_call 47; with_reducible refine Calls.mono (HT.out _ _ HX5.out (HE.out.below HB5.out)) ?_; rintro e w6 ⟨rfl, hb6⟩; have HB6 := Lib.hid (HB5.out.trans (hb6.mono HB5.out.size)); clear hb6)
      | (go_at_call 41; with_reducible refine Calls.mono (HA.out _) ?_; rintro e w7 ⟨rfl, hw7⟩; replace hw7 := hw7.symm; subst hw7)
      | (go_at_call 43; with_reducible refine Calls.mono (HW.out _) ?_; rintro e w8 ⟨rfl, hb8⟩; have HB8 := Lib.hid (HB6.out.trans (hb8.mono HB6.out.size)); clear hb8))
    go_ret2
    exact ⟨by first | rfl | simp, HB8.out⟩
set_option maxRecDepth 100000 in
set_option maxHeartbeats 1600000 in
theorem reckon_Rest (s t : ByteArray) (z : Int) (w : World) (h1 : rightL s.data.toList) (h2 : rightL t.data.toList) (hE : EnvB w) (hd : DoZ 35 s t z) :
    Calls Tryd.prog 26 #[.string s, .string t, .func (.func 35) #[] #[]] w fun e w' => e = .returned (.tuple #[.string (if LIM ≤ z.natAbs then ⟨#[]⟩ else ⟨(Lib.itoa z).toArray⟩), .int .i64 (if LIM ≤ z.natAbs then 10 else 0)]) ∧ Below w.heap.size w w' := by
  have e1 := fun w => right_v s w
  have e2 := fun w => right_v t w
  rw [(rightB_iff _).mpr h1] at e1
  rw [(rightB_iff _).mpr h2] at e2
  have H1 := Lib.hid e1
  have H2 := Lib.hid e2
  have R1 := Lib.hid (fun w => read_n s w h1)
  have R2 := Lib.hid (fun w => read_n t w h2)
  unfold DoZ at hd
  have HD := Lib.hid hd
  have HE := Lib.hid hE
  have ham := fun w => amountOf_v ⟨(Lib.itoa z).toArray⟩ w
  have hwd := fun w => wide_amt z w
  have htx := fun x w => text_n x z w
  obtain ⟨Wd, hWd⟩ : ∃ Wd, decide (LIM ≤ z.natAbs) = Wd := ⟨_, rfl⟩
  have hres : (if LIM ≤ z.natAbs then (⟨#[]⟩ : ByteArray) else ⟨(Lib.itoa z).toArray⟩) = if Wd = true then ⟨#[]⟩ else ⟨(Lib.itoa z).toArray⟩ := by rw [← hWd]; simp
  have hres2 : (if LIM ≤ z.natAbs then (10 : Int) else 0) = if Wd = true then 10 else 0 := by rw [← hWd]; simp
  rw [hres, hres2]
  rw [hWd] at hwd
  clear hres hres2 hWd
  generalize amtB ⟨(Lib.itoa z).toArray⟩ = F at *
  generalize (⟨(Lib.itoa z).toArray⟩ : ByteArray) = T at *
  have HA := Lib.hid ham
  have HW := Lib.hid hwd
  have HT := Lib.hid htx
  clear e1 e2 h1 h2 hd hE ham hwd htx
  cases Wd <;>
  · go_enter Tryd.func26, Tryd.ntmps26
    go_wp2_with (first
      | (go_at_call 21; with_reducible refine Calls.mono (H1.out _) ?_; rintro e w1 ⟨rfl, hb1⟩; have HB1 := Lib.hid hb1; clear hb1)
      | (go_at_call 21; with_reducible refine Calls.mono (H2.out _) ?_; rintro e w2 ⟨rfl, hb2⟩; have HB2 := Lib.hid (HB1.out.trans (hb2.mono HB1.out.size)); clear hb2)
      | (go_at_call 45; with_reducible refine Calls.mono (R1.out _) ?_; rintro e w3 ⟨x3, rfl, hx3, hb3⟩; obtain ⟨b3, p3, o3, n3, q3, rfl⟩ := hx3.shape; have HX3 := Lib.hid hx3; have HB3 := Lib.hid (HB2.out.trans (hb3.mono HB2.out.size)); clear hx3 hb3)
      | (go_at_call 45; with_reducible refine Calls.mono (R2.out _) ?_; rintro e w4 ⟨x4, rfl, hx4, hb4⟩; obtain ⟨b4, p4, o4, n4, q4, rfl⟩ := hx4.shape; have HX4 := Lib.hid (HX3.out.below hb4); have HY4 := Lib.hid hx4; have HB4 := Lib.hid (HB3.out.trans (hb4.mono HB3.out.size)); clear hx4 hb4)
      | (go_at_call 35; with_reducible refine Calls.mono (HD.out _ _ _ HX4.out HY4.out) ?_; rintro e w5 ⟨x5, rfl, hx5, hb5⟩; obtain ⟨b5, p5, o5, n5, q5, rfl⟩ := hx5.shape; have HX5 := Lib.hid hx5; have HB5 := Lib.hid (HB4.out.trans (hb5.mono HB4.out.size)); clear hx5 hb5)
      | (go_at_call 47; with_reducible refine Calls.mono (HT.out _ _ HX5.out (HE.out.below HB5.out)) ?_; rintro e w6 ⟨rfl, hb6⟩; have HB6 := Lib.hid (HB5.out.trans (hb6.mono HB5.out.size)); clear hb6)
      | (go_at_call 41; with_reducible refine Calls.mono (HA.out _) ?_; rintro e w7 ⟨rfl, hw7⟩; replace hw7 := hw7.symm; subst hw7)
      | (go_at_call 43; with_reducible refine Calls.mono (HW.out _) ?_; rintro e w8 ⟨rfl, hb8⟩; have HB8 := Lib.hid (HB6.out.trans (hb8.mono HB6.out.size)); clear hb8))
    go_ret2
    exact ⟨by first | rfl | simp, HB8.out⟩
end Go.Proofs.YtgoaakdopbielaaDoor
