import Derived.Test.YtgoaakdopbielaaDoorBgRi
import Derived.Test.YtgoaakdopbielaaDoorBgRj
namespace Go.Proofs.YtgoaakdopbielaaDoor
open Go.RowKit Go.Shelf
set_option linter.unusedSimpArgs false
set_option linter.unusedVariables false
set_option linter.unusedSectionVars false

/-! Layer 9, the document's own: what comes of two numbers. -/
theorem amt_nB (x : Int) (hx : x.natAbs < LIM) (w : World) : Calls Tryd.prog 38 #[.string (nB x)] w fun e w' => e = .returned (.tuple #[.string (digB x.natAbs), .bool (decide (x < 0)), .bool true]) ∧ w' = w := by
  obtain ⟨h1, h2⟩ := nB_right hx
  obtain ⟨g1, g2, g3, g4⟩ := num_right h1
  rw [h2] at g2 g3 g4
  have hz : (nB x).size ≤ 1000 := by
    have h3 : (nB x).size = (Lib.itoa x).length := by simp [nB, ByteArray.size]
    have h4 := digB_le (n := x.natAbs) (k := 154) (Nat.lt_trans hx lim_lt)
    rw [digB_size] at h4
    rcases itoa_cases x with ⟨_, e⟩ | ⟨_, e⟩
    · rw [h3, e, List.length_cons]; omega
    · rw [h3, e]; omega
  have h := ramount_v (nB x) w hz
  rw [g1, if_pos rfl, g2, g4, Bool.true_and] at h
  exact h
theorem nB_size (z : Int) : (nB z).size ≤ (digB z.natAbs).size + 1 := by
  have h3 : (nB z).size = (Lib.itoa z).length := by simp [nB, ByteArray.size]
  rw [digB_size]
  rcases itoa_cases z with ⟨_, e⟩ | ⟨_, e⟩
  · rw [h3, e, List.length_cons]; omega
  · rw [h3, e]; omega
theorem rightB_nB (z : Int) : rightB (nB z).data.toList = decide (z.natAbs < LIM) := by
  by_cases h : z.natAbs < LIM
  · rw [(nB_right h).1, decide_eq_true h]
  · rw [decide_eq_false h]
    cases hr : rightB (nB z).data.toList with
    | false => rfl
    | true =>
      exfalso
      have h1 := right_itoa ((rightB_iff _).mp hr)
      have h2 := itoa_inj (h1.1.trans (nB_list z))
      rw [h2] at h1
      exact h h1.2
theorem right_nB (z : Int) (h : (digB z.natAbs).size ≤ 900) (w : World) : Calls Tryd.prog 22 #[.string (nB z)] w fun e w' => e = .returned (.bool (decide (z.natAbs < LIM))) ∧ Below w.heap.size w w' := by
  have := nB_size z
  have h2 := rright_v (nB z) w (by omega)
  rw [rightB_nB] at h2
  exact h2
theorem sgn_add (m : Bool) (a b : Nat) : sgn m (a + b) = sgn m a + sgn m b := by cases m <;> simp [sgn] <;> omega
theorem sgn_lt {m o : Bool} {a b : Nat} (h : m ≠ o) (hab : a < b) : sgn o (b - a) = sgn m a + sgn o b := by cases m <;> cases o <;> simp [sgn] at h ⊢ <;> omega
theorem sgn_ge {m o : Bool} {a b : Nat} (h : m ≠ o) (hab : b ≤ a) : sgn m (a - b) = sgn m a + sgn o b := by cases m <;> cases o <;> simp [sgn] at h ⊢ <;> omega
theorem sgn_mul (m o : Bool) (a b : Nat) : sgn (m != o) (a * b) = sgn m a * sgn o b := by cases m <;> cases o <;> simp [sgn, Int.natCast_mul, Int.neg_mul, Int.mul_neg]
theorem sgn_div (m o : Bool) (a b : Nat) : sgn (m != o) (a / b) = Int.tdiv (sgn m a) (sgn o b) := by
  have h : ((a / b : Nat) : Int) = Int.tdiv (a : Int) (b : Int) := by rw [Int.tdiv_eq_ediv_of_nonneg (by omega)]; rfl
  cases m <;> cases o <;> simp [sgn, h, Int.neg_tdiv, Int.tdiv_neg]
theorem sgn_mod (m o : Bool) (a b : Nat) : sgn m (a % b) = Int.tmod (sgn m a) (sgn o b) := by
  have h : ((a % b : Nat) : Int) = Int.tmod (a : Int) (b : Int) := by rw [Int.tmod_eq_emod_of_nonneg (by omega)]; rfl
  cases m <;> cases o <;> simp [sgn, h, Int.neg_tmod, Int.tmod_neg]
theorem sgn_self (x : Int) : sgn (decide (x < 0)) x.natAbs = x := by
  unfold sgn
  by_cases h : x < 0
  · rw [decide_eq_true h, if_pos rfl]; omega
  · rw [decide_eq_false h, if_neg (by decide)]; omega
theorem sgn_flip (x : Int) : sgn (!decide (x < 0)) x.natAbs = -x := by
  unfold sgn
  by_cases h : x < 0
  · rw [decide_eq_true h, Bool.not_true, if_neg (by decide)]; omega
  · rw [decide_eq_false h, Bool.not_false, if_pos rfl]; omega
theorem sgn_abs (m : Bool) (n : Nat) : (sgn m n).natAbs = n := by cases m <;> simp [sgn]
theorem abs_size {x : Int} (h : x.natAbs < LIM) : (digB x.natAbs).size ≤ 155 := digB_le (k := 154) (Nat.lt_trans h lim_lt)
theorem size_mul {a b m n : Nat} (ha : a < 10 ^ (m + 1)) (hb : b < 10 ^ (n + 1)) : (digB (a * b)).size ≤ m + n + 2 := by
  refine digB_le (k := m + n + 1) ?_
  have h2 : 10 ^ (m + 1) * 10 ^ (n + 1) = 10 ^ (m + n + 1 + 1) := by rw [← Nat.pow_add]; congr 1; omega
  rw [← h2]
  exact Nat.lt_of_le_of_lt (Nat.mul_le_mul_right b (Nat.le_of_lt ha)) (Nat.mul_lt_mul_of_pos_left hb (Nat.pow_pos (by decide)))
theorem lim2 {a b : Nat} (ha : a < LIM) (hb : b < LIM) : (digB (a * b)).size ≤ 310 := size_mul (m := 154) (n := 154) (Nat.lt_trans ha lim_lt) (Nat.lt_trans hb lim_lt)
theorem size_mono {a b k : Nat} (h : a ≤ b) (hb : b < 10 ^ (k + 1)) : (digB a).size ≤ k + 1 := digB_le (Nat.lt_of_le_of_lt h hb)
theorem lim_le {a b c : Nat} (ha : a < LIM) (hb : b < LIM) (h : c ≤ a + b) : (digB c).size ≤ 156 := by
  refine digB_le (k := 155) ?_
  have := lim_lt
  rw [show (155 + 1) = 155 + 1 from rfl, Nat.pow_succ]
  omega
/-- What is told of a number that came out. -/
theorem wS_cases (z : Int) : (decide (z.natAbs < LIM) = true ∧ wS z = nB z ∧ wE z = 0) ∨ (decide (z.natAbs < LIM) = false ∧ wS z = ⟨#[]⟩ ∧ wE z = 10) := by
  by_cases h : z.natAbs < LIM
  · left
    exact ⟨decide_eq_true h, (wS_in h).1, (wS_in h).2⟩
  · right
    refine ⟨decide_eq_false h, ?_, ?_⟩
    · unfold wS; rw [if_pos (by omega)]
    · unfold wE; rw [if_pos (by omega)]
set_option maxRecDepth 100000 in
set_option maxHeartbeats 3200000 in
theorem rdo_plus (x y : Int) (w : World) (hx : x.natAbs < LIM) (hy : y.natAbs < LIM) :
    Calls Tryd.prog 36 #[.string ⟨#[43]⟩, .string (nB x), .string (nB y)] w fun e w' => e = .returned (.tuple #[.string (wS (x + y)), .int .i64 (wE (x + y))]) ∧ Below w.heap.size w w' := by
  have HAX := Lib.hid (fun w => amt_nB x hx w)
  have HAY := Lib.hid (fun w => amt_nB y hy w)
  have sx := abs_size hx
  have sy := abs_size hy
  have HRX := Lib.hid (fun w => right_nB x (by omega) w)
  have HRY := Lib.hid (fun w => right_nB y (by omega) w)
  rw [decide_eq_true hx] at HRX
  rw [decide_eq_true hy] at HRY
  have HB := Lib.hid (Below.refl w.heap.size w)
  have hs1 := sgn_self x
  have hs2 := sgn_self y
  have hzz : x + y = sgn (decide (x < 0)) x.natAbs + sgn (decide (y < 0)) y.natAbs := by rw [hs1, hs2]
  rw [hzz]
  clear hs1 hs2 hzz
  generalize nB x = X at *
  generalize nB y = Y at *
  generalize decide (x < 0) = m at *
  generalize decide (y < 0) = o at *
  generalize x.natAbs = a at *
  generalize y.natAbs = b at *
  by_cases hmo : m = o
  · have HOP := Lib.hid (fun w => radd_v a b w (by omega) (by omega))
    have hsum := sgn_add m a b
    have h3 : sgn m a + sgn o b = sgn m (a + b) := by rw [← hmo, hsum]
    rw [h3]
    have HSG := Lib.hid (fun w => rsigned_v (a + b) m w (by have := lim_le hx hy (Nat.le_refl _); omega))
    have HRZ := Lib.hid (fun w => right_nB (sgn m (a + b)) (by rw [sgn_abs]; have := lim_le hx hy (Nat.le_refl _); omega) w)
    clear hsum h3 hx hy sx sy
    generalize sgn m (a + b) = Z at *
    generalize digB (a + b) = AB at *
    generalize digB a = A at *
    generalize digB b = B at *
    have hc := wS_cases Z
    generalize nB Z = ZB at *
    obtain ⟨c1, c2, c3⟩ | ⟨c1, c2, c3⟩ := hc
    all_goals
      rw [c2, c3]
      rw [c1] at HRZ
      clear c1 c2 c3
      cases m <;> cases o <;> first | (exfalso; revert hmo; decide) | clear hmo
      all_goals
        try simp only [Bool.not_true, Bool.not_false, show (false != false) = false from rfl, show (false != true) = true from rfl, show (true != false) = true from rfl, show (true != true) = false from rfl] at HSG
        go_enter Tryd.func36, Tryd.ntmps36
        go_wp2_with (first
                | (go_at_call 38; with_reducible refine Calls.mono (HAX.out _) ?_; rintro e w1 ⟨rfl, hw1⟩; replace hw1 := hw1.symm; subst hw1; clear HAX)
                | (go_at_call 38; with_reducible refine Calls.mono (HAY.out _) ?_; rintro e w2 ⟨rfl, hw2⟩; replace hw2 := hw2.symm; subst hw2; clear HAY)
                | (go_at_call 22; with_reducible refine Calls.mono (HRX.out _) ?_; rintro e w3 ⟨rfl, hb3⟩; replace HB := Lib.hid (HB.out.trans (hb3.mono HB.out.size)); clear hb3 HRX)
                | (go_at_call 22; with_reducible refine Calls.mono (HRY.out _) ?_; rintro e w4 ⟨rfl, hb4⟩; replace HB := Lib.hid (HB.out.trans (hb4.mono HB.out.size)); clear hb4 HRY)
                | (go_at_call 22; with_reducible refine Calls.mono (HRZ.out _) ?_; rintro e w5 ⟨rfl, hb5⟩; replace HB := Lib.hid (HB.out.trans (hb5.mono HB.out.size)); clear hb5)
                | (go_at_call 53; with_reducible refine Calls.mono (HSG.out _) ?_; rintro e w6 ⟨rfl, hw6⟩; replace hw6 := hw6.symm; subst hw6)
                | (go_at_call 54; with_reducible refine Calls.mono (HOP.out _) ?_; rintro e w8 ⟨rfl, hb8⟩; replace HB := Lib.hid (HB.out.trans (hb8.mono HB.out.size)); clear hb8))
        go_ret2
        exact ⟨by first | rfl | simp, HB.out⟩
  · by_cases hlt : a < b
    · have HOP := Lib.hid (fun w => rtake_v b a w (by omega) (by omega) (Nat.le_of_lt hlt))
      have HLT := Lib.hid (fun w => rbelow_nn a b w)
      rw [decide_eq_true hlt] at HLT
      have h3 := sgn_lt hmo hlt
      rw [← h3]
      have HSG := Lib.hid (fun w => rsigned_v (b - a) o w (by have := lim_le hx hy (show b - a ≤ a + b by omega); omega))
      have HRZ := Lib.hid (fun w => right_nB (sgn o (b - a)) (by rw [sgn_abs]; have := lim_le hx hy (show b - a ≤ a + b by omega); omega) w)
      clear h3 hx hy sx sy
      generalize sgn o (b - a) = Z at *
      generalize digB (b - a) = AB at *
      generalize digB a = A at *
      generalize digB b = B at *
      have hc := wS_cases Z
      generalize nB Z = ZB at *
      obtain ⟨c1, c2, c3⟩ | ⟨c1, c2, c3⟩ := hc
      all_goals
        rw [c2, c3]
        rw [c1] at HRZ
        clear c1 c2 c3
        cases m <;> cases o <;> first | (exfalso; revert hmo; decide) | clear hmo
        all_goals
          try simp only [Bool.not_true, Bool.not_false, show (false != false) = false from rfl, show (false != true) = true from rfl, show (true != false) = true from rfl, show (true != true) = false from rfl] at HSG
          go_enter Tryd.func36, Tryd.ntmps36
          go_wp2_with (first
                  | (go_at_call 38; with_reducible refine Calls.mono (HAX.out _) ?_; rintro e w1 ⟨rfl, hw1⟩; replace hw1 := hw1.symm; subst hw1; clear HAX)
                  | (go_at_call 38; with_reducible refine Calls.mono (HAY.out _) ?_; rintro e w2 ⟨rfl, hw2⟩; replace hw2 := hw2.symm; subst hw2; clear HAY)
                  | (go_at_call 22; with_reducible refine Calls.mono (HRX.out _) ?_; rintro e w3 ⟨rfl, hb3⟩; replace HB := Lib.hid (HB.out.trans (hb3.mono HB.out.size)); clear hb3 HRX)
                  | (go_at_call 22; with_reducible refine Calls.mono (HRY.out _) ?_; rintro e w4 ⟨rfl, hb4⟩; replace HB := Lib.hid (HB.out.trans (hb4.mono HB.out.size)); clear hb4 HRY)
                  | (go_at_call 22; with_reducible refine Calls.mono (HRZ.out _) ?_; rintro e w5 ⟨rfl, hb5⟩; replace HB := Lib.hid (HB.out.trans (hb5.mono HB.out.size)); clear hb5)
                  | (go_at_call 53; with_reducible refine Calls.mono (HSG.out _) ?_; rintro e w6 ⟨rfl, hw6⟩; replace hw6 := hw6.symm; subst hw6)
                  | (go_at_call 39; with_reducible refine Calls.mono (HLT.out _) ?_; rintro e w7 ⟨rfl, hw7⟩; replace hw7 := hw7.symm; subst hw7)
                  | (go_at_call 55; with_reducible refine Calls.mono (HOP.out _) ?_; rintro e w8 ⟨rfl, hb8⟩; replace HB := Lib.hid (HB.out.trans (hb8.mono HB.out.size)); clear hb8))
          go_ret2
          exact ⟨by first | rfl | simp, HB.out⟩
    · have HOP := Lib.hid (fun w => rtake_v a b w (by omega) (by omega) (Nat.le_of_not_lt hlt))
      have HLT := Lib.hid (fun w => rbelow_nn a b w)
      rw [decide_eq_false hlt] at HLT
      have h3 := sgn_ge hmo (Nat.le_of_not_lt hlt)
      rw [← h3]
      have HSG := Lib.hid (fun w => rsigned_v (a - b) m w (by have := lim_le hx hy (show a - b ≤ a + b by omega); omega))
      have HRZ := Lib.hid (fun w => right_nB (sgn m (a - b)) (by rw [sgn_abs]; have := lim_le hx hy (show a - b ≤ a + b by omega); omega) w)
      clear h3 hx hy sx sy
      generalize sgn m (a - b) = Z at *
      generalize digB (a - b) = AB at *
      generalize digB a = A at *
      generalize digB b = B at *
      have hc := wS_cases Z
      generalize nB Z = ZB at *
      obtain ⟨c1, c2, c3⟩ | ⟨c1, c2, c3⟩ := hc
      all_goals
        rw [c2, c3]
        rw [c1] at HRZ
        clear c1 c2 c3
        cases m <;> cases o <;> first | (exfalso; revert hmo; decide) | clear hmo
        all_goals
          try simp only [Bool.not_true, Bool.not_false, show (false != false) = false from rfl, show (false != true) = true from rfl, show (true != false) = true from rfl, show (true != true) = false from rfl] at HSG
          go_enter Tryd.func36, Tryd.ntmps36
          go_wp2_with (first
                  | (go_at_call 38; with_reducible refine Calls.mono (HAX.out _) ?_; rintro e w1 ⟨rfl, hw1⟩; replace hw1 := hw1.symm; subst hw1; clear HAX)
                  | (go_at_call 38; with_reducible refine Calls.mono (HAY.out _) ?_; rintro e w2 ⟨rfl, hw2⟩; replace hw2 := hw2.symm; subst hw2; clear HAY)
                  | (go_at_call 22; with_reducible refine Calls.mono (HRX.out _) ?_; rintro e w3 ⟨rfl, hb3⟩; replace HB := Lib.hid (HB.out.trans (hb3.mono HB.out.size)); clear hb3 HRX)
                  | (go_at_call 22; with_reducible refine Calls.mono (HRY.out _) ?_; rintro e w4 ⟨rfl, hb4⟩; replace HB := Lib.hid (HB.out.trans (hb4.mono HB.out.size)); clear hb4 HRY)
                  | (go_at_call 22; with_reducible refine Calls.mono (HRZ.out _) ?_; rintro e w5 ⟨rfl, hb5⟩; replace HB := Lib.hid (HB.out.trans (hb5.mono HB.out.size)); clear hb5)
                  | (go_at_call 53; with_reducible refine Calls.mono (HSG.out _) ?_; rintro e w6 ⟨rfl, hw6⟩; replace hw6 := hw6.symm; subst hw6)
                  | (go_at_call 39; with_reducible refine Calls.mono (HLT.out _) ?_; rintro e w7 ⟨rfl, hw7⟩; replace hw7 := hw7.symm; subst hw7)
                  | (go_at_call 55; with_reducible refine Calls.mono (HOP.out _) ?_; rintro e w8 ⟨rfl, hb8⟩; replace HB := Lib.hid (HB.out.trans (hb8.mono HB.out.size)); clear hb8))
          go_ret2
          exact ⟨by first | rfl | simp, HB.out⟩
set_option maxRecDepth 100000 in
set_option maxHeartbeats 3200000 in
theorem rdo_minus (x y : Int) (w : World) (hx : x.natAbs < LIM) (hy : y.natAbs < LIM) :
    Calls Tryd.prog 36 #[.string ⟨#[45]⟩, .string (nB x), .string (nB y)] w fun e w' => e = .returned (.tuple #[.string (wS (x - y)), .int .i64 (wE (x - y))]) ∧ Below w.heap.size w w' := by
  have HAX := Lib.hid (fun w => amt_nB x hx w)
  have HAY := Lib.hid (fun w => amt_nB y hy w)
  have sx := abs_size hx
  have sy := abs_size hy
  have HRX := Lib.hid (fun w => right_nB x (by omega) w)
  have HRY := Lib.hid (fun w => right_nB y (by omega) w)
  rw [decide_eq_true hx] at HRX
  rw [decide_eq_true hy] at HRY
  have HB := Lib.hid (Below.refl w.heap.size w)
  have hs1 := sgn_self x
  have hs2 := sgn_flip y
  have hzz : x - y = sgn (decide (x < 0)) x.natAbs + sgn (!decide (y < 0)) y.natAbs := by rw [hs1, hs2]; omega
  rw [hzz]
  clear hs1 hs2 hzz
  generalize nB x = X at *
  generalize nB y = Y at *
  generalize decide (x < 0) = m at *
  generalize decide (y < 0) = o at *
  generalize x.natAbs = a at *
  generalize y.natAbs = b at *
  by_cases hmo : m = (!o)
  · have HOP := Lib.hid (fun w => radd_v a b w (by omega) (by omega))
    have hsum := sgn_add m a b
    have h3 : sgn m a + sgn (!o) b = sgn m (a + b) := by rw [← hmo, hsum]
    rw [h3]
    have HSG := Lib.hid (fun w => rsigned_v (a + b) m w (by have := lim_le hx hy (Nat.le_refl _); omega))
    have HRZ := Lib.hid (fun w => right_nB (sgn m (a + b)) (by rw [sgn_abs]; have := lim_le hx hy (Nat.le_refl _); omega) w)
    clear hsum h3 hx hy sx sy
    generalize sgn m (a + b) = Z at *
    generalize digB (a + b) = AB at *
    generalize digB a = A at *
    generalize digB b = B at *
    have hc := wS_cases Z
    generalize nB Z = ZB at *
    obtain ⟨c1, c2, c3⟩ | ⟨c1, c2, c3⟩ := hc
    all_goals
      rw [c2, c3]
      rw [c1] at HRZ
      clear c1 c2 c3
      cases m <;> cases o <;> first | (exfalso; revert hmo; decide) | clear hmo
      all_goals
        try simp only [Bool.not_true, Bool.not_false, show (false != false) = false from rfl, show (false != true) = true from rfl, show (true != false) = true from rfl, show (true != true) = false from rfl] at HSG
        go_enter Tryd.func36, Tryd.ntmps36
        go_wp2_with (first
                | (go_at_call 38; with_reducible refine Calls.mono (HAX.out _) ?_; rintro e w1 ⟨rfl, hw1⟩; replace hw1 := hw1.symm; subst hw1; clear HAX)
                | (go_at_call 38; with_reducible refine Calls.mono (HAY.out _) ?_; rintro e w2 ⟨rfl, hw2⟩; replace hw2 := hw2.symm; subst hw2; clear HAY)
                | (go_at_call 22; with_reducible refine Calls.mono (HRX.out _) ?_; rintro e w3 ⟨rfl, hb3⟩; replace HB := Lib.hid (HB.out.trans (hb3.mono HB.out.size)); clear hb3 HRX)
                | (go_at_call 22; with_reducible refine Calls.mono (HRY.out _) ?_; rintro e w4 ⟨rfl, hb4⟩; replace HB := Lib.hid (HB.out.trans (hb4.mono HB.out.size)); clear hb4 HRY)
                | (go_at_call 22; with_reducible refine Calls.mono (HRZ.out _) ?_; rintro e w5 ⟨rfl, hb5⟩; replace HB := Lib.hid (HB.out.trans (hb5.mono HB.out.size)); clear hb5)
                | (go_at_call 53; with_reducible refine Calls.mono (HSG.out _) ?_; rintro e w6 ⟨rfl, hw6⟩; replace hw6 := hw6.symm; subst hw6)
                | (go_at_call 54; with_reducible refine Calls.mono (HOP.out _) ?_; rintro e w8 ⟨rfl, hb8⟩; replace HB := Lib.hid (HB.out.trans (hb8.mono HB.out.size)); clear hb8))
        go_ret2
        exact ⟨by first | rfl | simp, HB.out⟩
  · by_cases hlt : a < b
    · have HOP := Lib.hid (fun w => rtake_v b a w (by omega) (by omega) (Nat.le_of_lt hlt))
      have HLT := Lib.hid (fun w => rbelow_nn a b w)
      rw [decide_eq_true hlt] at HLT
      have h3 := sgn_lt hmo hlt
      rw [← h3]
      have HSG := Lib.hid (fun w => rsigned_v (b - a) (!o) w (by have := lim_le hx hy (show b - a ≤ a + b by omega); omega))
      have HRZ := Lib.hid (fun w => right_nB (sgn (!o) (b - a)) (by rw [sgn_abs]; have := lim_le hx hy (show b - a ≤ a + b by omega); omega) w)
      clear h3 hx hy sx sy
      generalize sgn (!o) (b - a) = Z at *
      generalize digB (b - a) = AB at *
      generalize digB a = A at *
      generalize digB b = B at *
      have hc := wS_cases Z
      generalize nB Z = ZB at *
      obtain ⟨c1, c2, c3⟩ | ⟨c1, c2, c3⟩ := hc
      all_goals
        rw [c2, c3]
        rw [c1] at HRZ
        clear c1 c2 c3
        cases m <;> cases o <;> first | (exfalso; revert hmo; decide) | clear hmo
        all_goals
          try simp only [Bool.not_true, Bool.not_false, show (false != false) = false from rfl, show (false != true) = true from rfl, show (true != false) = true from rfl, show (true != true) = false from rfl] at HSG
          go_enter Tryd.func36, Tryd.ntmps36
          go_wp2_with (first
                  | (go_at_call 38; with_reducible refine Calls.mono (HAX.out _) ?_; rintro e w1 ⟨rfl, hw1⟩; replace hw1 := hw1.symm; subst hw1; clear HAX)
                  | (go_at_call 38; with_reducible refine Calls.mono (HAY.out _) ?_; rintro e w2 ⟨rfl, hw2⟩; replace hw2 := hw2.symm; subst hw2; clear HAY)
                  | (go_at_call 22; with_reducible refine Calls.mono (HRX.out _) ?_; rintro e w3 ⟨rfl, hb3⟩; replace HB := Lib.hid (HB.out.trans (hb3.mono HB.out.size)); clear hb3 HRX)
                  | (go_at_call 22; with_reducible refine Calls.mono (HRY.out _) ?_; rintro e w4 ⟨rfl, hb4⟩; replace HB := Lib.hid (HB.out.trans (hb4.mono HB.out.size)); clear hb4 HRY)
                  | (go_at_call 22; with_reducible refine Calls.mono (HRZ.out _) ?_; rintro e w5 ⟨rfl, hb5⟩; replace HB := Lib.hid (HB.out.trans (hb5.mono HB.out.size)); clear hb5)
                  | (go_at_call 53; with_reducible refine Calls.mono (HSG.out _) ?_; rintro e w6 ⟨rfl, hw6⟩; replace hw6 := hw6.symm; subst hw6)
                  | (go_at_call 39; with_reducible refine Calls.mono (HLT.out _) ?_; rintro e w7 ⟨rfl, hw7⟩; replace hw7 := hw7.symm; subst hw7)
                  | (go_at_call 55; with_reducible refine Calls.mono (HOP.out _) ?_; rintro e w8 ⟨rfl, hb8⟩; replace HB := Lib.hid (HB.out.trans (hb8.mono HB.out.size)); clear hb8))
          go_ret2
          exact ⟨by first | rfl | simp, HB.out⟩
    · have HOP := Lib.hid (fun w => rtake_v a b w (by omega) (by omega) (Nat.le_of_not_lt hlt))
      have HLT := Lib.hid (fun w => rbelow_nn a b w)
      rw [decide_eq_false hlt] at HLT
      have h3 := sgn_ge hmo (Nat.le_of_not_lt hlt)
      rw [← h3]
      have HSG := Lib.hid (fun w => rsigned_v (a - b) m w (by have := lim_le hx hy (show a - b ≤ a + b by omega); omega))
      have HRZ := Lib.hid (fun w => right_nB (sgn m (a - b)) (by rw [sgn_abs]; have := lim_le hx hy (show a - b ≤ a + b by omega); omega) w)
      clear h3 hx hy sx sy
      generalize sgn m (a - b) = Z at *
      generalize digB (a - b) = AB at *
      generalize digB a = A at *
      generalize digB b = B at *
      have hc := wS_cases Z
      generalize nB Z = ZB at *
      obtain ⟨c1, c2, c3⟩ | ⟨c1, c2, c3⟩ := hc
      all_goals
        rw [c2, c3]
        rw [c1] at HRZ
        clear c1 c2 c3
        cases m <;> cases o <;> first | (exfalso; revert hmo; decide) | clear hmo
        all_goals
          try simp only [Bool.not_true, Bool.not_false, show (false != false) = false from rfl, show (false != true) = true from rfl, show (true != false) = true from rfl, show (true != true) = false from rfl] at HSG
          go_enter Tryd.func36, Tryd.ntmps36
          go_wp2_with (first
                  | (go_at_call 38; with_reducible refine Calls.mono (HAX.out _) ?_; rintro e w1 ⟨rfl, hw1⟩; replace hw1 := hw1.symm; subst hw1; clear HAX)
                  | (go_at_call 38; with_reducible refine Calls.mono (HAY.out _) ?_; rintro e w2 ⟨rfl, hw2⟩; replace hw2 := hw2.symm; subst hw2; clear HAY)
                  | (go_at_call 22; with_reducible refine Calls.mono (HRX.out _) ?_; rintro e w3 ⟨rfl, hb3⟩; replace HB := Lib.hid (HB.out.trans (hb3.mono HB.out.size)); clear hb3 HRX)
                  | (go_at_call 22; with_reducible refine Calls.mono (HRY.out _) ?_; rintro e w4 ⟨rfl, hb4⟩; replace HB := Lib.hid (HB.out.trans (hb4.mono HB.out.size)); clear hb4 HRY)
                  | (go_at_call 22; with_reducible refine Calls.mono (HRZ.out _) ?_; rintro e w5 ⟨rfl, hb5⟩; replace HB := Lib.hid (HB.out.trans (hb5.mono HB.out.size)); clear hb5)
                  | (go_at_call 53; with_reducible refine Calls.mono (HSG.out _) ?_; rintro e w6 ⟨rfl, hw6⟩; replace hw6 := hw6.symm; subst hw6)
                  | (go_at_call 39; with_reducible refine Calls.mono (HLT.out _) ?_; rintro e w7 ⟨rfl, hw7⟩; replace hw7 := hw7.symm; subst hw7)
                  | (go_at_call 55; with_reducible refine Calls.mono (HOP.out _) ?_; rintro e w8 ⟨rfl, hb8⟩; replace HB := Lib.hid (HB.out.trans (hb8.mono HB.out.size)); clear hb8))
          go_ret2
          exact ⟨by first | rfl | simp, HB.out⟩
set_option maxRecDepth 100000 in
set_option maxHeartbeats 3200000 in
theorem rdo_times (x y : Int) (w : World) (hx : x.natAbs < LIM) (hy : y.natAbs < LIM) :
    Calls Tryd.prog 36 #[.string ⟨#[42]⟩, .string (nB x), .string (nB y)] w fun e w' => e = .returned (.tuple #[.string (wS (x * y)), .int .i64 (wE (x * y))]) ∧ Below w.heap.size w w' := by
  have HAX := Lib.hid (fun w => amt_nB x hx w)
  have HAY := Lib.hid (fun w => amt_nB y hy w)
  have sx := abs_size hx
  have sy := abs_size hy
  have HRX := Lib.hid (fun w => right_nB x (by omega) w)
  have HRY := Lib.hid (fun w => right_nB y (by omega) w)
  rw [decide_eq_true hx] at HRX
  rw [decide_eq_true hy] at HRY
  have HB := Lib.hid (Below.refl w.heap.size w)
  have hzz : x * y = sgn (decide (x < 0) != decide (y < 0)) (x.natAbs * y.natAbs) := by
    have h := sgn_mul (decide (x < 0)) (decide (y < 0)) x.natAbs y.natAbs
    rw [h, sgn_self, sgn_self]
  rw [hzz]
  clear hzz
  generalize nB x = X at *
  generalize nB y = Y at *
  generalize decide (x < 0) = m at *
  generalize decide (y < 0) = o at *
  generalize x.natAbs = a at *
  generalize y.natAbs = b at *
  have HOP := Lib.hid (fun w => rtimes_v a b w (by omega) (by omega))
  have HSG := Lib.hid (fun w => rsigned_v (a * b) (m != o) w (by have := lim2 hx hy; omega))
  have HRZ := Lib.hid (fun w => right_nB (sgn (m != o) (a * b)) (by rw [sgn_abs]; have := lim2 hx hy; omega) w)
  clear hx hy sx sy
  generalize sgn (m != o) (a * b) = Z at *
  generalize digB (a * b) = AB at *
  generalize digB a = A at *
  generalize digB b = B at *
  have hc := wS_cases Z
  generalize nB Z = ZB at *
  obtain ⟨c1, c2, c3⟩ | ⟨c1, c2, c3⟩ := hc
  all_goals
    rw [c2, c3]
    rw [c1] at HRZ
    clear c1 c2 c3
    cases m <;> cases o
    all_goals
      try simp only [Bool.not_true, Bool.not_false, show (false != false) = false from rfl, show (false != true) = true from rfl, show (true != false) = true from rfl, show (true != true) = false from rfl] at HSG
      go_enter Tryd.func36, Tryd.ntmps36
      go_wp2_with (first
              | (go_at_call 38; with_reducible refine Calls.mono (HAX.out _) ?_; rintro e w1 ⟨rfl, hw1⟩; replace hw1 := hw1.symm; subst hw1; clear HAX)
              | (go_at_call 38; with_reducible refine Calls.mono (HAY.out _) ?_; rintro e w2 ⟨rfl, hw2⟩; replace hw2 := hw2.symm; subst hw2; clear HAY)
              | (go_at_call 22; with_reducible refine Calls.mono (HRX.out _) ?_; rintro e w3 ⟨rfl, hb3⟩; replace HB := Lib.hid (HB.out.trans (hb3.mono HB.out.size)); clear hb3 HRX)
              | (go_at_call 22; with_reducible refine Calls.mono (HRY.out _) ?_; rintro e w4 ⟨rfl, hb4⟩; replace HB := Lib.hid (HB.out.trans (hb4.mono HB.out.size)); clear hb4 HRY)
              | (go_at_call 22; with_reducible refine Calls.mono (HRZ.out _) ?_; rintro e w5 ⟨rfl, hb5⟩; replace HB := Lib.hid (HB.out.trans (hb5.mono HB.out.size)); clear hb5)
              | (go_at_call 53; with_reducible refine Calls.mono (HSG.out _) ?_; rintro e w6 ⟨rfl, hw6⟩; replace hw6 := hw6.symm; subst hw6)
              | (go_at_call 56; with_reducible refine Calls.mono (HOP.out _) ?_; rintro e w8 ⟨rfl, hb8⟩; replace HB := Lib.hid (HB.out.trans (hb8.mono HB.out.size)); clear hb8))
      go_ret2
      exact ⟨by first | rfl | simp, HB.out⟩
set_option maxRecDepth 100000 in
set_option maxHeartbeats 3200000 in
theorem rdo_quo (x y : Int) (w : World) (hx : x.natAbs < LIM) (hy : y.natAbs < LIM) (h0 : y ≠ 0) :
    Calls Tryd.prog 36 #[.string ⟨#[47]⟩, .string (nB x), .string (nB y)] w fun e w' => e = .returned (.tuple #[.string (wS (Int.tdiv x y)), .int .i64 (wE (Int.tdiv x y))]) ∧ Below w.heap.size w w' := by
  have HAX := Lib.hid (fun w => amt_nB x hx w)
  have HAY := Lib.hid (fun w => amt_nB y hy w)
  have sx := abs_size hx
  have sy := abs_size hy
  have HRX := Lib.hid (fun w => right_nB x (by omega) w)
  have HRY := Lib.hid (fun w => right_nB y (by omega) w)
  rw [decide_eq_true hx] at HRX
  rw [decide_eq_true hy] at HRY
  have HB := Lib.hid (Below.refl w.heap.size w)
  have hzz : Int.tdiv x y = sgn (decide (x < 0) != decide (y < 0)) (x.natAbs / y.natAbs) := by
    have h := sgn_div (decide (x < 0)) (decide (y < 0)) x.natAbs y.natAbs
    rw [h, sgn_self, sgn_self]
  rw [hzz]
  clear hzz
  have h0b : 0 < y.natAbs := by omega
  have hyz := dec_zero_iff y.natAbs
  rw [decide_eq_false (by omega)] at hyz
  generalize nB x = X at *
  generalize nB y = Y at *
  generalize decide (x < 0) = m at *
  generalize decide (y < 0) = o at *
  generalize x.natAbs = a at *
  generalize y.natAbs = b at *
  have HOP := Lib.hid (fun w => rdivide_v a b w (by omega) (by omega) h0b)
  have HSG := Lib.hid (fun w => rsigned_v (a / b) (m != o) w (by have := lim_le hx hy (show a / b ≤ a + b by have := Nat.div_le_self a b; omega); omega))
  have HRZ := Lib.hid (fun w => right_nB (sgn (m != o) (a / b)) (by rw [sgn_abs]; have := lim_le hx hy (show a / b ≤ a + b by have := Nat.div_le_self a b; omega); omega) w)
  clear hx hy sx sy
  generalize sgn (m != o) (a / b) = Z at *
  generalize digB (a / b) = AB at *
  generalize digB (a % b) = AM at *
  generalize digB a = A at *
  generalize digB b = B at *
  have hc := wS_cases Z
  generalize nB Z = ZB at *
  obtain ⟨c1, c2, c3⟩ | ⟨c1, c2, c3⟩ := hc
  all_goals
    rw [c2, c3]
    rw [c1] at HRZ
    clear c1 c2 c3
    cases m <;> cases o
    all_goals
      try simp only [Bool.not_true, Bool.not_false, show (false != false) = false from rfl, show (false != true) = true from rfl, show (true != false) = true from rfl, show (true != true) = false from rfl] at HSG
      go_enter Tryd.func36, Tryd.ntmps36
      go_wp2_with (first
              | (go_at_call 38; with_reducible refine Calls.mono (HAX.out _) ?_; rintro e w1 ⟨rfl, hw1⟩; replace hw1 := hw1.symm; subst hw1; clear HAX)
              | (go_at_call 38; with_reducible refine Calls.mono (HAY.out _) ?_; rintro e w2 ⟨rfl, hw2⟩; replace hw2 := hw2.symm; subst hw2; clear HAY)
              | (go_at_call 22; with_reducible refine Calls.mono (HRX.out _) ?_; rintro e w3 ⟨rfl, hb3⟩; replace HB := Lib.hid (HB.out.trans (hb3.mono HB.out.size)); clear hb3 HRX)
              | (go_at_call 22; with_reducible refine Calls.mono (HRY.out _) ?_; rintro e w4 ⟨rfl, hb4⟩; replace HB := Lib.hid (HB.out.trans (hb4.mono HB.out.size)); clear hb4 HRY)
              | (go_at_call 22; with_reducible refine Calls.mono (HRZ.out _) ?_; rintro e w5 ⟨rfl, hb5⟩; replace HB := Lib.hid (HB.out.trans (hb5.mono HB.out.size)); clear hb5)
              | (go_at_call 53; with_reducible refine Calls.mono (HSG.out _) ?_; rintro e w6 ⟨rfl, hw6⟩; replace hw6 := hw6.symm; subst hw6)
              | (go_at_call 57; with_reducible refine Calls.mono (HOP.out _) ?_; rintro e w8 ⟨rfl, hb8⟩; replace HB := Lib.hid (HB.out.trans (hb8.mono HB.out.size)); clear hb8))
      go_ret2
      exact ⟨by first | rfl | simp, HB.out⟩
set_option maxRecDepth 100000 in
set_option maxHeartbeats 3200000 in
theorem rdo_rest (x y : Int) (w : World) (hx : x.natAbs < LIM) (hy : y.natAbs < LIM) (h0 : y ≠ 0) :
    Calls Tryd.prog 36 #[.string ⟨#[37]⟩, .string (nB x), .string (nB y)] w fun e w' => e = .returned (.tuple #[.string (wS (Int.tmod x y)), .int .i64 (wE (Int.tmod x y))]) ∧ Below w.heap.size w w' := by
  have HAX := Lib.hid (fun w => amt_nB x hx w)
  have HAY := Lib.hid (fun w => amt_nB y hy w)
  have sx := abs_size hx
  have sy := abs_size hy
  have HRX := Lib.hid (fun w => right_nB x (by omega) w)
  have HRY := Lib.hid (fun w => right_nB y (by omega) w)
  rw [decide_eq_true hx] at HRX
  rw [decide_eq_true hy] at HRY
  have HB := Lib.hid (Below.refl w.heap.size w)
  have hzz : Int.tmod x y = sgn (decide (x < 0)) (x.natAbs % y.natAbs) := by
    have h := sgn_mod (decide (x < 0)) (decide (y < 0)) x.natAbs y.natAbs
    rw [h, sgn_self, sgn_self]
  rw [hzz]
  clear hzz
  have h0b : 0 < y.natAbs := by omega
  have hyz := dec_zero_iff y.natAbs
  rw [decide_eq_false (by omega)] at hyz
  generalize nB x = X at *
  generalize nB y = Y at *
  generalize decide (x < 0) = m at *
  generalize decide (y < 0) = o at *
  generalize x.natAbs = a at *
  generalize y.natAbs = b at *
  have HOP := Lib.hid (fun w => rdivide_v a b w (by omega) (by omega) h0b)
  have HSG := Lib.hid (fun w => rsigned_v (a % b) m w (by have := lim_le hx hy (show a % b ≤ a + b by have := Nat.mod_le a b; omega); omega))
  have HRZ := Lib.hid (fun w => right_nB (sgn m (a % b)) (by rw [sgn_abs]; have := lim_le hx hy (show a % b ≤ a + b by have := Nat.mod_le a b; omega); omega) w)
  clear hx hy sx sy
  generalize sgn m (a % b) = Z at *
  generalize digB (a / b) = AB at *
  generalize digB (a % b) = AM at *
  generalize digB a = A at *
  generalize digB b = B at *
  have hc := wS_cases Z
  generalize nB Z = ZB at *
  obtain ⟨c1, c2, c3⟩ | ⟨c1, c2, c3⟩ := hc
  all_goals
    rw [c2, c3]
    rw [c1] at HRZ
    clear c1 c2 c3
    cases m <;> cases o
    all_goals
      try simp only [Bool.not_true, Bool.not_false, show (false != false) = false from rfl, show (false != true) = true from rfl, show (true != false) = true from rfl, show (true != true) = false from rfl] at HSG
      go_enter Tryd.func36, Tryd.ntmps36
      go_wp2_with (first
              | (go_at_call 38; with_reducible refine Calls.mono (HAX.out _) ?_; rintro e w1 ⟨rfl, hw1⟩; replace hw1 := hw1.symm; subst hw1; clear HAX)
              | (go_at_call 38; with_reducible refine Calls.mono (HAY.out _) ?_; rintro e w2 ⟨rfl, hw2⟩; replace hw2 := hw2.symm; subst hw2; clear HAY)
              | (go_at_call 22; with_reducible refine Calls.mono (HRX.out _) ?_; rintro e w3 ⟨rfl, hb3⟩; replace HB := Lib.hid (HB.out.trans (hb3.mono HB.out.size)); clear hb3 HRX)
              | (go_at_call 22; with_reducible refine Calls.mono (HRY.out _) ?_; rintro e w4 ⟨rfl, hb4⟩; replace HB := Lib.hid (HB.out.trans (hb4.mono HB.out.size)); clear hb4 HRY)
              | (go_at_call 22; with_reducible refine Calls.mono (HRZ.out _) ?_; rintro e w5 ⟨rfl, hb5⟩; replace HB := Lib.hid (HB.out.trans (hb5.mono HB.out.size)); clear hb5)
              | (go_at_call 53; with_reducible refine Calls.mono (HSG.out _) ?_; rintro e w6 ⟨rfl, hw6⟩; replace hw6 := hw6.symm; subst hw6)
              | (go_at_call 57; with_reducible refine Calls.mono (HOP.out _) ?_; rintro e w8 ⟨rfl, hb8⟩; replace HB := Lib.hid (HB.out.trans (hb8.mono HB.out.size)); clear hb8))
      go_ret2
      exact ⟨by first | rfl | simp, HB.out⟩
end Go.Proofs.YtgoaakdopbielaaDoor
