import Derived.Test.YtgoaakdopbielaaDoorBgY
import Derived.Test.YtgoaakdopbielaaDoorBgZa
namespace Go.Proofs.YtgoaakdopbielaaDoor
open Go.RowKit Go.Shelf
set_option linter.unusedSimpArgs false
set_option linter.unusedVariables false
set_option linter.unusedSectionVars false

/-! Layer 9: sums, differences, products, quotients, rests. -/
/-- What is told of two texts, where z comes of them. -/
def recS (s t : List UInt8) (z : Int) : ByteArray := if (rightB s && rightB t) = true then (if LIM ≤ z.natAbs then ⟨#[]⟩ else ⟨(Lib.itoa z).toArray⟩) else ⟨#[]⟩
def recE (s t : List UInt8) (z : Int) : Int := if (rightB s && rightB t) = true then (if LIM ≤ z.natAbs then 10 else 0) else 1
/-- The same, where there is none for 0. -/
def recS0 (s t : List UInt8) (z : Int) : ByteArray := if t = [48] then ⟨#[]⟩ else recS s t z
def recE0 (s t : List UInt8) (z : Int) : Int := if t = [48] then 1 else recE s t z
theorem zL_zero {t : List UInt8} (h : rightL t) (h0 : t ≠ [48]) : zL t ≠ 0 := by
  intro hz
  have h1 := (right_itoa h).1
  rw [hz] at h1
  exact h0 (h1.symm.trans (by decide +kernel))
theorem reck_Sum (s t : ByteArray) (z : Int) (w : World) (hE : EnvB w) (hd : rightL s.data.toList → rightL t.data.toList → DoZ 27 s t z) :
    Calls Tryd.prog 26 #[.string s, .string t, .func (.func 27) #[] #[]] w fun e w' => e = .returned (.tuple #[.string (recS s.data.toList t.data.toList z), .int .i64 (recE s.data.toList t.data.toList z)]) ∧ Below w.heap.size w w' := by
  unfold recS recE
  cases hr : (rightB s.data.toList && rightB t.data.toList) with
  | false =>
    rw [if_neg (by decide), if_neg (by decide)]
    exact reckon_no1 s t _ w hr
  | true =>
    rw [if_pos rfl, if_pos rfl]
    rw [Bool.and_eq_true, rightB_iff, rightB_iff] at hr
    exact reckon_Sum s t z w hr.1 hr.2 hE (hd hr.1 hr.2)
set_option maxHeartbeats 800000 in
theorem Sum_v (s t : ByteArray) (w : World) (hE : EnvB w) :
    Calls Tryd.prog 11 #[.string s, .string t] w fun e w' => e = .returned (.tuple #[.string (recS s.data.toList t.data.toList (zL s.data.toList + zL t.data.toList)), .int .i64 (recE s.data.toList t.data.toList (zL s.data.toList + zL t.data.toList))]) ∧ Below w.heap.size w w' := by
  have h := reck_Sum s t (zL s.data.toList + zL t.data.toList) w hE (fun _ _ x y W hx hy => sum_do x y _ _ W hx hy)
  generalize recS s.data.toList t.data.toList (zL s.data.toList + zL t.data.toList) = R at *
  generalize recE s.data.toList t.data.toList (zL s.data.toList + zL t.data.toList) = E at *
  have H := Lib.hid h
  clear h hE
  go_enter Tryd.func11, Tryd.ntmps11
  go_wp2_with (go_at_call 26; with_reducible refine Calls.mono H.out ?_; rintro e w1 ⟨rfl, hb1⟩; have HB1 := Lib.hid hb1; clear hb1)
  go_ret2
  exact ⟨rfl, HB1.out⟩
theorem reck_Less (s t : ByteArray) (z : Int) (w : World) (hE : EnvB w) (hd : rightL s.data.toList → rightL t.data.toList → DoZ 29 s t z) :
    Calls Tryd.prog 26 #[.string s, .string t, .func (.func 29) #[] #[]] w fun e w' => e = .returned (.tuple #[.string (recS s.data.toList t.data.toList z), .int .i64 (recE s.data.toList t.data.toList z)]) ∧ Below w.heap.size w w' := by
  unfold recS recE
  cases hr : (rightB s.data.toList && rightB t.data.toList) with
  | false =>
    rw [if_neg (by decide), if_neg (by decide)]
    exact reckon_no1 s t _ w hr
  | true =>
    rw [if_pos rfl, if_pos rfl]
    rw [Bool.and_eq_true, rightB_iff, rightB_iff] at hr
    exact reckon_Less s t z w hr.1 hr.2 hE (hd hr.1 hr.2)
set_option maxHeartbeats 800000 in
theorem Less_v (s t : ByteArray) (w : World) (hE : EnvB w) :
    Calls Tryd.prog 12 #[.string s, .string t] w fun e w' => e = .returned (.tuple #[.string (recS s.data.toList t.data.toList (zL s.data.toList - zL t.data.toList)), .int .i64 (recE s.data.toList t.data.toList (zL s.data.toList - zL t.data.toList))]) ∧ Below w.heap.size w w' := by
  have h := reck_Less s t (zL s.data.toList - zL t.data.toList) w hE (fun _ _ x y W hx hy => less_do x y _ _ W hx hy)
  generalize recS s.data.toList t.data.toList (zL s.data.toList - zL t.data.toList) = R at *
  generalize recE s.data.toList t.data.toList (zL s.data.toList - zL t.data.toList) = E at *
  have H := Lib.hid h
  clear h hE
  go_enter Tryd.func12, Tryd.ntmps12
  go_wp2_with (go_at_call 26; with_reducible refine Calls.mono H.out ?_; rintro e w1 ⟨rfl, hb1⟩; have HB1 := Lib.hid hb1; clear hb1)
  go_ret2
  exact ⟨rfl, HB1.out⟩
theorem reck_Times (s t : ByteArray) (z : Int) (w : World) (hE : EnvB w) (hd : rightL s.data.toList → rightL t.data.toList → DoZ 31 s t z) :
    Calls Tryd.prog 26 #[.string s, .string t, .func (.func 31) #[] #[]] w fun e w' => e = .returned (.tuple #[.string (recS s.data.toList t.data.toList z), .int .i64 (recE s.data.toList t.data.toList z)]) ∧ Below w.heap.size w w' := by
  unfold recS recE
  cases hr : (rightB s.data.toList && rightB t.data.toList) with
  | false =>
    rw [if_neg (by decide), if_neg (by decide)]
    exact reckon_no1 s t _ w hr
  | true =>
    rw [if_pos rfl, if_pos rfl]
    rw [Bool.and_eq_true, rightB_iff, rightB_iff] at hr
    exact reckon_Times s t z w hr.1 hr.2 hE (hd hr.1 hr.2)
set_option maxHeartbeats 800000 in
theorem Times_v (s t : ByteArray) (w : World) (hE : EnvB w) :
    Calls Tryd.prog 13 #[.string s, .string t] w fun e w' => e = .returned (.tuple #[.string (recS s.data.toList t.data.toList (zL s.data.toList * zL t.data.toList)), .int .i64 (recE s.data.toList t.data.toList (zL s.data.toList * zL t.data.toList))]) ∧ Below w.heap.size w w' := by
  have h := reck_Times s t (zL s.data.toList * zL t.data.toList) w hE (fun _ _ x y W hx hy => times_do x y _ _ W hx hy)
  generalize recS s.data.toList t.data.toList (zL s.data.toList * zL t.data.toList) = R at *
  generalize recE s.data.toList t.data.toList (zL s.data.toList * zL t.data.toList) = E at *
  have H := Lib.hid h
  clear h hE
  go_enter Tryd.func13, Tryd.ntmps13
  go_wp2_with (go_at_call 26; with_reducible refine Calls.mono H.out ?_; rintro e w1 ⟨rfl, hb1⟩; have HB1 := Lib.hid hb1; clear hb1)
  go_ret2
  exact ⟨rfl, HB1.out⟩
theorem reck_Quotient (s t : ByteArray) (z : Int) (w : World) (hE : EnvB w) (hd : rightL s.data.toList → rightL t.data.toList → DoZ 33 s t z) :
    Calls Tryd.prog 26 #[.string s, .string t, .func (.func 33) #[] #[]] w fun e w' => e = .returned (.tuple #[.string (recS s.data.toList t.data.toList z), .int .i64 (recE s.data.toList t.data.toList z)]) ∧ Below w.heap.size w w' := by
  unfold recS recE
  cases hr : (rightB s.data.toList && rightB t.data.toList) with
  | false =>
    rw [if_neg (by decide), if_neg (by decide)]
    exact reckon_no1 s t _ w hr
  | true =>
    rw [if_pos rfl, if_pos rfl]
    rw [Bool.and_eq_true, rightB_iff, rightB_iff] at hr
    exact reckon_Quotient s t z w hr.1 hr.2 hE (hd hr.1 hr.2)
set_option maxHeartbeats 800000 in
theorem Quotient_v (s t : ByteArray) (w : World) (hE : EnvB w) :
    Calls Tryd.prog 14 #[.string s, .string t] w fun e w' => e = .returned (.tuple #[.string (recS0 s.data.toList t.data.toList (Int.tdiv (zL s.data.toList) (zL t.data.toList))), .int .i64 (recE0 s.data.toList t.data.toList (Int.tdiv (zL s.data.toList) (zL t.data.toList)))]) ∧ Below w.heap.size w w' := by
  unfold recS0 recE0
  by_cases h0 : t.data.toList = [48]
  · rw [if_pos h0, if_pos h0]
    have hc : (t.toList == [48]) = true := by rw [ByteArray.toList_eq, h0]; rfl
    clear h0 hE
    go_enter Tryd.func14, Tryd.ntmps14
    go_wp2_with fail
    go_ret2
    exact ⟨by first | rfl | simp, Below.refl _ _⟩
  · rw [if_neg h0, if_neg h0]
    have h := reck_Quotient s t (Int.tdiv (zL s.data.toList) (zL t.data.toList)) w hE (fun _ h2 x y W hx hy => quot_do x y _ _ W hx hy (zL_zero h2 h0))
    have hc : (t.toList == [48]) = false := by rw [ByteArray.toList_eq, beq_eq_false_iff_ne]; exact h0
    generalize recS s.data.toList t.data.toList (Int.tdiv (zL s.data.toList) (zL t.data.toList)) = R at *
    generalize recE s.data.toList t.data.toList (Int.tdiv (zL s.data.toList) (zL t.data.toList)) = E at *
    have H := Lib.hid h
    clear h hE h0
    go_enter Tryd.func14, Tryd.ntmps14
    go_wp2_with (go_at_call 26; with_reducible refine Calls.mono H.out ?_; rintro e w1 ⟨rfl, hb1⟩; have HB1 := Lib.hid hb1; clear hb1)
    go_ret2
    exact ⟨rfl, HB1.out⟩
theorem reck_Rest (s t : ByteArray) (z : Int) (w : World) (hE : EnvB w) (hd : rightL s.data.toList → rightL t.data.toList → DoZ 35 s t z) :
    Calls Tryd.prog 26 #[.string s, .string t, .func (.func 35) #[] #[]] w fun e w' => e = .returned (.tuple #[.string (recS s.data.toList t.data.toList z), .int .i64 (recE s.data.toList t.data.toList z)]) ∧ Below w.heap.size w w' := by
  unfold recS recE
  cases hr : (rightB s.data.toList && rightB t.data.toList) with
  | false =>
    rw [if_neg (by decide), if_neg (by decide)]
    exact reckon_no1 s t _ w hr
  | true =>
    rw [if_pos rfl, if_pos rfl]
    rw [Bool.and_eq_true, rightB_iff, rightB_iff] at hr
    exact reckon_Rest s t z w hr.1 hr.2 hE (hd hr.1 hr.2)
set_option maxHeartbeats 800000 in
theorem Rest_v (s t : ByteArray) (w : World) (hE : EnvB w) :
    Calls Tryd.prog 15 #[.string s, .string t] w fun e w' => e = .returned (.tuple #[.string (recS0 s.data.toList t.data.toList (Int.tmod (zL s.data.toList) (zL t.data.toList))), .int .i64 (recE0 s.data.toList t.data.toList (Int.tmod (zL s.data.toList) (zL t.data.toList)))]) ∧ Below w.heap.size w w' := by
  unfold recS0 recE0
  by_cases h0 : t.data.toList = [48]
  · rw [if_pos h0, if_pos h0]
    have hc : (t.toList == [48]) = true := by rw [ByteArray.toList_eq, h0]; rfl
    clear h0 hE
    go_enter Tryd.func15, Tryd.ntmps15
    go_wp2_with fail
    go_ret2
    exact ⟨by first | rfl | simp, Below.refl _ _⟩
  · rw [if_neg h0, if_neg h0]
    have h := reck_Rest s t (Int.tmod (zL s.data.toList) (zL t.data.toList)) w hE (fun _ h2 x y W hx hy => rest_do x y _ _ W hx hy (zL_zero h2 h0))
    have hc : (t.toList == [48]) = false := by rw [ByteArray.toList_eq, beq_eq_false_iff_ne]; exact h0
    generalize recS s.data.toList t.data.toList (Int.tmod (zL s.data.toList) (zL t.data.toList)) = R at *
    generalize recE s.data.toList t.data.toList (Int.tmod (zL s.data.toList) (zL t.data.toList)) = E at *
    have H := Lib.hid h
    clear h hE h0
    go_enter Tryd.func15, Tryd.ntmps15
    go_wp2_with (go_at_call 26; with_reducible refine Calls.mono H.out ?_; rintro e w1 ⟨rfl, hb1⟩; have HB1 := Lib.hid hb1; clear hb1)
    go_ret2
    exact ⟨rfl, HB1.out⟩
set_option maxHeartbeats 1600000 in
theorem Compare_v (s t : ByteArray) (w : World) :
    Calls Tryd.prog 23 #[.string s, .string t] w fun e w' => e = .returned (.int .i64 (if (rightB s.data.toList && rightB t.data.toList) = true then Lib.compareInt (zL s.data.toList) (zL t.data.toList) else 0)) ∧ Below w.heap.size w w' := by
  have h1 := fun w => right_v s w
  have h2 := fun w => right_v t w
  cases hr : (rightB s.data.toList && rightB t.data.toList) with
  | false =>
    rw [if_neg (by decide)]
    generalize rightB s.data.toList = P at *
    generalize rightB t.data.toList = Q at *
    have H1 := Lib.hid h1
    have H2 := Lib.hid h2
    clear h1 h2 
    cases P <;> cases Q <;> first | (cases hr; done) | skip
    all_goals
      go_enter Tryd.func23, Tryd.ntmps23
      go_wp2_with (first
        | (go_at_call 21; with_reducible refine Calls.mono (H1.out _) ?_; rintro e w1 ⟨rfl, hb1⟩; have HB1 := Lib.hid hb1; clear hb1)
        | (go_at_call 21; with_reducible refine Calls.mono (H2.out _) ?_; rintro e w2 ⟨rfl, hb2⟩; have HB2 := Lib.hid (HB1.out.trans (hb2.mono HB1.out.size)); clear hb2))
      go_ret
      exact ⟨by first | rfl | simp, by first | exact HB2.out | exact HB1.out⟩
  | true =>
    rw [if_pos rfl]
    rw [Bool.and_eq_true] at hr
    rw [hr.1] at h1
    rw [hr.2] at h2
    rw [rightB_iff, rightB_iff] at hr
    have hcz : Lib.compareInt (zL s.data.toList + -(zL t.data.toList)) 0 = Lib.compareInt (zL s.data.toList) (zL t.data.toList) := by
      unfold Lib.compareInt
      generalize zL s.data.toList = x
      generalize zL t.data.toList = y
      by_cases a : x < y
      · rw [if_pos a, if_pos (by omega)]
      · rw [if_neg a, if_neg (by omega)]
        by_cases b : y < x
        · first | rw [if_pos b, if_pos (by omega)] | (simp; omega)
        · first | rw [if_neg b, if_neg (by omega)] | (simp; omega)
    have hsg := fun x n W (hx : NumA W x (zL s.data.toList + -(zL t.data.toList)) n) => sign_v x (zL s.data.toList + -(zL t.data.toList)) n W hx
    rw [hcz] at hsg
    have HS := Lib.hid hsg
    have H1 := Lib.hid h1
    have H2 := Lib.hid h2
    have R1 := Lib.hid (fun w => read_n s w hr.1)
    have R2 := Lib.hid (fun w => read_n t w hr.2)
    clear h1 h2 hcz hr hsg
    generalize zL s.data.toList = x at *
    generalize zL t.data.toList = y at *
    have HP := Lib.hid (fun a b W (ha : NumA W a x 120) (hb : NumA W b (-y) 120) => plus_n a b x (-y) 120 120 W ha hb (by omega) (by omega))
    go_enter Tryd.func23, Tryd.ntmps23
    go_wp2_with (first
      | (go_at_call 21; with_reducible refine Calls.mono (H1.out _) ?_; rintro e w1 ⟨rfl, hb1⟩; have HB1 := Lib.hid hb1; clear hb1)
      | (go_at_call 21; with_reducible refine Calls.mono (H2.out _) ?_; rintro e w2 ⟨rfl, hb2⟩; have HB2 := Lib.hid (HB1.out.trans (hb2.mono HB1.out.size)); clear hb2)
      | (go_at_call 45; with_reducible refine Calls.mono (R1.out _) ?_; rintro e w3 ⟨x3, rfl, hx3, hb3⟩; obtain ⟨b3, p3, o3, n3, q3, rfl⟩ := hx3.shape; have HX3 := Lib.hid hx3; have HB3 := Lib.hid (HB2.out.trans (hb3.mono HB2.out.size)); clear hx3 hb3)
      | (go_at_call 45; with_reducible refine Calls.mono (R2.out _) ?_; rintro e w4 ⟨x4, rfl, hx4, hb4⟩; obtain ⟨b4, p4, o4, n4, q4, rfl⟩ := hx4.shape; have HX4 := Lib.hid (HX3.out.below hb4); have HY4 := Lib.hid hx4; have HB4 := Lib.hid (HB3.out.trans (hb4.mono HB3.out.size)); clear hx4 hb4)
      | (go_at_call 30; with_reducible refine Calls.mono (opposite_v _ _ _ _ HY4.out) ?_; rintro e w5 ⟨x5, rfl, hx5, hb5⟩; obtain ⟨b5, p5, o5, n5, q5, rfl⟩ := hx5.shape; have HY5 := Lib.hid hx5; have HX5 := Lib.hid (HX4.out.below hb5); have HB5 := Lib.hid (HB4.out.trans (hb5.mono HB4.out.size)); clear hx5 hb5)
      | (go_at_call 28; with_reducible refine Calls.mono (HP.out _ _ _ HX5.out HY5.out) ?_; rintro e w6 ⟨x6, rfl, hx6, hb6⟩; obtain ⟨b6, p6, o6, n6, q6, rfl⟩ := hx6.shape; have HX6 := Lib.hid hx6; have HB6 := Lib.hid (HB5.out.trans (hb6.mono HB5.out.size)); clear hx6 hb6)
      | (go_at_call 46; with_reducible refine Calls.mono (HS.out _ _ _ HX6.out) ?_; rintro e w7 ⟨rfl, hb7⟩; have HB7 := Lib.hid (HB6.out.trans (hb7.mono HB6.out.size)); clear hb7))
    go_ret
    exact ⟨rfl, HB7.out⟩
set_option maxHeartbeats 800000 in
theorem Text_v (n : Int) (h0 : -9223372036854775808 ≤ n) (h1 : n ≤ 9223372036854775807) (w : World) (hE : EnvB w) :
    Calls Tryd.prog 20 #[.int .i64 n] w fun e w' => e = .returned (.string ⟨(Lib.itoa n).toArray⟩) ∧ Below w.heap.size w w' := by
  have HI := Lib.hid (itoa_v n h0 h1 w hE)
  clear h0 h1 hE
  go_enter Tryd.func20, Tryd.ntmps20
  go_wp2_with (go_at_call 40; with_reducible refine Calls.mono HI.out ?_; rintro e w2 ⟨rfl, hb2⟩; have HB := Lib.hid hb2; clear hb2)
  go_ret
  exact ⟨rfl, HB.out⟩
end Go.Proofs.YtgoaakdopbielaaDoor
