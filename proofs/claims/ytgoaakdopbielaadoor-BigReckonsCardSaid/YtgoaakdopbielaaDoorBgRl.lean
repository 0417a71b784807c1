import Derived.Test.YtgoaakdopbielaaDoorBgRk
namespace Go.Proofs.YtgoaakdopbielaaDoor
open Go.RowKit Go.Shelf
set_option linter.unusedSimpArgs false
set_option linter.unusedVariables false
set_option linter.unusedSectionVars false

/-! Layer 9, the document's own: what comes of any two texts. -/
set_option maxRecDepth 100000 in
set_option maxHeartbeats 3200000 in
theorem rdo_no (op s t : ByteArray) (w : World) (hs : s.size ≤ 200) (ht : t.size ≤ 200) (h : (rightB s.data.toList && rightB t.data.toList) = false) :
    Calls Tryd.prog 36 #[.string op, .string s, .string t] w fun e w' => e = .returned (.tuple #[.string ⟨#[]⟩, .int .i64 1]) ∧ Below w.heap.size w w' := by
  have HAX := Lib.hid (fun w => ramount_v s w (by omega))
  have HAY := Lib.hid (fun w => ramount_v t w (by omega))
  have HRX := Lib.hid (fun w => rright_v s w (by omega))
  have HRY := Lib.hid (fun w => rright_v t w (by omega))
  have HB := Lib.hid (Below.refl w.heap.size w)
  clear hs ht
  generalize rightB s.data.toList = P at *
  generalize rightB t.data.toList = Q at *
  generalize (if numB s = true then amtB s else ⟨#[]⟩) = F1 at *
  generalize (if numB t = true then amtB t else ⟨#[]⟩) = F2 at *
  generalize (numB s && signL s.data.toList) = m1 at *
  generalize (numB t && signL t.data.toList) = m2 at *
  generalize numB s = n1 at *
  generalize numB t = n2 at *
  cases P <;> cases Q <;> first | (cases h; done) | clear h
  all_goals
    go_enter Tryd.func36, Tryd.ntmps36
    go_wp2_with (first
      | (go_at_call 38; with_reducible refine Calls.mono (HAX.out _) ?_; rintro e w1 ⟨rfl, hw1⟩; replace hw1 := hw1.symm; subst hw1; clear HAX)
      | (go_at_call 38; with_reducible refine Calls.mono (HAY.out _) ?_; rintro e w2 ⟨rfl, hw2⟩; replace hw2 := hw2.symm; subst hw2; clear HAY)
      | (go_at_call 22; with_reducible refine Calls.mono (HRX.out _) ?_; rintro e w3 ⟨rfl, hb3⟩; replace HB := Lib.hid (HB.out.trans (hb3.mono HB.out.size)); clear hb3 HRX)
      | (go_at_call 22; with_reducible refine Calls.mono (HRY.out _) ?_; rintro e w4 ⟨rfl, hb4⟩; replace HB := Lib.hid (HB.out.trans (hb4.mono HB.out.size)); clear hb4 HRY))
    go_ret2
    exact ⟨by first | rfl | simp, HB.out⟩
theorem abs_zero : digB (0 : Int).natAbs = ⟨#[48]⟩ := by decide +kernel
set_option maxRecDepth 100000 in
set_option maxHeartbeats 3200000 in
theorem rdo_zero (q : Bool) (x : Int) (w : World) (hx : x.natAbs < LIM) :
    Calls Tryd.prog 36 #[.string (if q = true then ⟨#[47]⟩ else ⟨#[37]⟩), .string (nB x), .string (nB 0)] w fun e w' => e = .returned (.tuple #[.string ⟨#[]⟩, .int .i64 1]) ∧ Below w.heap.size w w' := by
  have hy : (0 : Int).natAbs < LIM := lim_small 0 (by decide)
  have HAX := Lib.hid (fun w => amt_nB x hx w)
  have HAY := Lib.hid (fun w => amt_nB 0 hy w)
  have sx := abs_size hx
  have sy := abs_size hy
  have HRX := Lib.hid (fun w => right_nB x (by omega) w)
  have HRY := Lib.hid (fun w => right_nB 0 (by omega) w)
  rw [decide_eq_true hx] at HRX
  rw [decide_eq_true hy] at HRY
  have HB := Lib.hid (Below.refl w.heap.size w)
  clear sx sy hx hy
  rw [abs_zero] at HAY
  generalize nB x = X at *
  generalize nB 0 = Y at *
  generalize digB x.natAbs = A at *
  generalize decide (x < 0) = m at *
  generalize decide ((0 : Int) < 0) = o at *
  cases q
  · rw [if_neg (by decide)]
    go_enter Tryd.func36, Tryd.ntmps36
    go_wp2_with (first
      | (go_at_call 38; with_reducible refine Calls.mono (HAX.out _) ?_; rintro e w1 ⟨rfl, hw1⟩; replace hw1 := hw1.symm; subst hw1; clear HAX)
      | (go_at_call 38; with_reducible refine Calls.mono (HAY.out _) ?_; rintro e w2 ⟨rfl, hw2⟩; replace hw2 := hw2.symm; subst hw2; clear HAY)
      | (go_at_call 22; with_reducible refine Calls.mono (HRX.out _) ?_; rintro e w3 ⟨rfl, hb3⟩; replace HB := Lib.hid (HB.out.trans (hb3.mono HB.out.size)); clear hb3 HRX)
      | (go_at_call 22; with_reducible refine Calls.mono (HRY.out _) ?_; rintro e w4 ⟨rfl, hb4⟩; replace HB := Lib.hid (HB.out.trans (hb4.mono HB.out.size)); clear hb4 HRY))
    go_ret2
    exact ⟨by first | rfl | simp, HB.out⟩
  · rw [if_pos rfl]
    go_enter Tryd.func36, Tryd.ntmps36
    go_wp2_with (first
      | (go_at_call 38; with_reducible refine Calls.mono (HAX.out _) ?_; rintro e w1 ⟨rfl, hw1⟩; replace hw1 := hw1.symm; subst hw1; clear HAX)
      | (go_at_call 38; with_reducible refine Calls.mono (HAY.out _) ?_; rintro e w2 ⟨rfl, hw2⟩; replace hw2 := hw2.symm; subst hw2; clear HAY)
      | (go_at_call 22; with_reducible refine Calls.mono (HRX.out _) ?_; rintro e w3 ⟨rfl, hb3⟩; replace HB := Lib.hid (HB.out.trans (hb3.mono HB.out.size)); clear hb3 HRX)
      | (go_at_call 22; with_reducible refine Calls.mono (HRY.out _) ?_; rintro e w4 ⟨rfl, hb4⟩; replace HB := Lib.hid (HB.out.trans (hb4.mono HB.out.size)); clear hb4 HRY))
    go_ret2
    exact ⟨by first | rfl | simp, HB.out⟩
/-- As the program's own. -/
theorem rdo_any (op s t : ByteArray) (z : Int) (w : World) (hs : s.size ≤ 200) (ht : t.size ≤ 200)
    (h : ∀ x y : Int, x.natAbs < LIM → y.natAbs < LIM → s = nB x → t = nB y → Calls Tryd.prog 36 #[.string op, .string (nB x), .string (nB y)] w fun e w' => e = .returned (.tuple #[.string (wS z), .int .i64 (wE z)]) ∧ Below w.heap.size w w') :
    Calls Tryd.prog 36 #[.string op, .string s, .string t] w fun e w' => e = .returned (.tuple #[.string (recS s.data.toList t.data.toList z), .int .i64 (recE s.data.toList t.data.toList z)]) ∧ Below w.heap.size w w' := by
  cases hr : (rightB s.data.toList && rightB t.data.toList) with
  | false =>
    have := rdo_no op s t w hs ht hr
    unfold recS recE
    rw [hr, if_neg (by decide), if_neg (by decide)]
    exact this
  | true =>
    rw [Bool.and_eq_true] at hr
    obtain ⟨x, hx, rfl⟩ := nB_of hr.1
    obtain ⟨y, hy, rfl⟩ := nB_of hr.2
    rw [(rec_nB hx hy z).1, (rec_nB hx hy z).2]
    exact h x y hx hy rfl rfl
theorem rdo_any0 (q : Bool) (s t : ByteArray) (z : Int) (w : World) (hs : s.size ≤ 200) (ht : t.size ≤ 200)
    (h : ∀ x y : Int, x.natAbs < LIM → y.natAbs < LIM → y ≠ 0 → s = nB x → t = nB y → Calls Tryd.prog 36 #[.string (if q = true then ⟨#[47]⟩ else ⟨#[37]⟩), .string (nB x), .string (nB y)] w fun e w' => e = .returned (.tuple #[.string (wS z), .int .i64 (wE z)]) ∧ Below w.heap.size w w') :
    Calls Tryd.prog 36 #[.string (if q = true then ⟨#[47]⟩ else ⟨#[37]⟩), .string s, .string t] w fun e w' => e = .returned (.tuple #[.string (recS0 s.data.toList t.data.toList z), .int .i64 (recE0 s.data.toList t.data.toList z)]) ∧ Below w.heap.size w w' := by
  unfold recS0 recE0
  by_cases h0 : t.data.toList = [48]
  · rw [if_pos h0, if_pos h0]
    cases hr : (rightB s.data.toList && rightB t.data.toList) with
    | false => exact rdo_no _ s t w hs ht hr
    | true =>
      rw [Bool.and_eq_true] at hr
      obtain ⟨x, hx, rfl⟩ := nB_of hr.1
      have ht0 : t = nB 0 := by
        apply ByteArray.ext
        apply Array.toList_inj.1
        rw [h0]; decide +kernel
      subst ht0
      exact rdo_zero q x w hx
  · rw [if_neg h0, if_neg h0]
    refine rdo_any _ s t z w hs ht (fun x y hx hy e1 e2 => h x y hx hy ?_ e1 e2)
    intro hy0
    apply h0
    rw [e2]
    exact (nB_zero_iff y).mpr hy0
theorem rdo_Sum (s t : ByteArray) (w : World) (hs : s.size ≤ 200) (ht : t.size ≤ 200) :
    Calls Tryd.prog 36 #[.string ⟨#[43]⟩, .string s, .string t] w fun e w' => e = .returned (.tuple #[.string (recS s.data.toList t.data.toList (zL s.data.toList + zL t.data.toList)), .int .i64 (recE s.data.toList t.data.toList (zL s.data.toList + zL t.data.toList))]) ∧ Below w.heap.size w w' :=
  rdo_any _ s t _ w hs ht (fun x y hx hy e1 e2 => by rw [e1, e2, (nB_right hx).2, (nB_right hy).2]; exact rdo_plus x y w hx hy)
theorem rdo_Less (s t : ByteArray) (w : World) (hs : s.size ≤ 200) (ht : t.size ≤ 200) :
    Calls Tryd.prog 36 #[.string ⟨#[45]⟩, .string s, .string t] w fun e w' => e = .returned (.tuple #[.string (recS s.data.toList t.data.toList (zL s.data.toList - zL t.data.toList)), .int .i64 (recE s.data.toList t.data.toList (zL s.data.toList - zL t.data.toList))]) ∧ Below w.heap.size w w' :=
  rdo_any _ s t _ w hs ht (fun x y hx hy e1 e2 => by rw [e1, e2, (nB_right hx).2, (nB_right hy).2]; exact rdo_minus x y w hx hy)
theorem rdo_Times (s t : ByteArray) (w : World) (hs : s.size ≤ 200) (ht : t.size ≤ 200) :
    Calls Tryd.prog 36 #[.string ⟨#[42]⟩, .string s, .string t] w fun e w' => e = .returned (.tuple #[.string (recS s.data.toList t.data.toList (zL s.data.toList * zL t.data.toList)), .int .i64 (recE s.data.toList t.data.toList (zL s.data.toList * zL t.data.toList))]) ∧ Below w.heap.size w w' :=
  rdo_any _ s t _ w hs ht (fun x y hx hy e1 e2 => by rw [e1, e2, (nB_right hx).2, (nB_right hy).2]; exact rdo_times x y w hx hy)
theorem rdo_Quotient (s t : ByteArray) (w : World) (hs : s.size ≤ 200) (ht : t.size ≤ 200) :
    Calls Tryd.prog 36 #[.string ⟨#[47]⟩, .string s, .string t] w fun e w' => e = .returned (.tuple #[.string (recS0 s.data.toList t.data.toList (Int.tdiv (zL s.data.toList) (zL t.data.toList))), .int .i64 (recE0 s.data.toList t.data.toList (Int.tdiv (zL s.data.toList) (zL t.data.toList)))]) ∧ Below w.heap.size w w' :=
  rdo_any0 true s t _ w hs ht (fun x y hx hy h0 e1 e2 => by rw [e1, e2, (nB_right hx).2, (nB_right hy).2]; exact rdo_quo x y w hx hy h0)
theorem rdo_Rest (s t : ByteArray) (w : World) (hs : s.size ≤ 200) (ht : t.size ≤ 200) :
    Calls Tryd.prog 36 #[.string ⟨#[37]⟩, .string s, .string t] w fun e w' => e = .returned (.tuple #[.string (recS0 s.data.toList t.data.toList (Int.tmod (zL s.data.toList) (zL t.data.toList))), .int .i64 (recE0 s.data.toList t.data.toList (Int.tmod (zL s.data.toList) (zL t.data.toList)))]) ∧ Below w.heap.size w w' :=
  rdo_any0 false s t _ w hs ht (fun x y hx hy h0 e1 e2 => by rw [e1, e2, (nB_right hx).2, (nB_right hy).2]; exact rdo_rest x y w hx hy h0)
set_option maxHeartbeats 1600000 in
theorem told_v (S op s t : ByteArray) (E : Int) (w : World) (h : ∀ w, Calls Tryd.prog 36 #[.string op, .string s, .string t] w fun e w' => e = .returned (.tuple #[.string S, .int .i64 E]) ∧ Below w.heap.size w w') :
    Calls Tryd.prog 16 #[.string S, .int .i64 E, .string op, .string s, .string t] w fun e w' => e = .returned (.bool true) ∧ Below w.heap.size w w' := by
  have H := Lib.hid (h w)
  clear h
  have hss : (S.toList == S.toList) = true := by simp
  go_enter Tryd.func16, Tryd.ntmps16
  go_wp2_with (go_at_call 36; with_reducible refine Calls.mono H.out ?_; rintro e w3 ⟨rfl, hb3⟩; have HB := Lib.hid hb3; clear hb3)
  go_ret
  exact ⟨by first | rfl | simp, HB.out⟩
end Go.Proofs.YtgoaakdopbielaaDoor
