import Derived.Test.YtgoaakdopbielaaDoorMa
namespace Go.Proofs.YtgoaakdopbielaaDoor
set_option linter.unusedSimpArgs false
set_option linter.unusedVariables false

/-! Layer 9, plain: a quotient, place by place. -/
theorem canon_split {D : List Int} (h : canon D) (hn : D ≠ []) : ∃ m d, D = m ++ [d] ∧ okR m ∧ 1 ≤ d ∧ d < BB ∧ d * powB m.length ≤ valI D ∧ valI D < (d + 1) * powB m.length := by
  obtain ⟨m, d, rfl⟩ : ∃ m x, D = m ++ [x] := ⟨D.dropLast, D.getLast hn, (List.dropLast_concat_getLast _).symm⟩
  have hd := h.1 d (by simp)
  have hd0 := h.2 d (by simp)
  have hm := h.1.left
  have h1 := valI_nonneg m hm
  have h2 := valI_lt m hm
  unfold okP at hd
  refine ⟨m, d, rfl, hm, by omega, hd.2, ?_, ?_⟩
  · rw [valI_app]
    simp only [valI, Int.mul_zero, Int.add_zero]
    rw [Int.mul_comm]; omega
  · rw [valI_app, Int.add_mul, Int.one_mul]
    simp only [valI, Int.mul_zero, Int.add_zero]
    rw [Int.mul_comm (powB m.length) d]; omega
theorem canon_length {c : List Int} {n : Nat} (h : canon c) (h1 : powB n ≤ valI c) (h2 : valI c < powB (n + 1)) : c.length = n + 1 := by
  by_cases hc : c = []
  · rw [hc] at h1
    have := powB_pos n
    simp only [valI] at h1
    omega
  · obtain ⟨m, x, rfl⟩ : ∃ m x, c = m ++ [x] := ⟨c.dropLast, c.getLast hc, (List.dropLast_concat_getLast _).symm⟩
    have h3 := canon_low h
    have h4 := valI_lt _ h.1
    rw [List.length_append, List.length_singleton] at h4 ⊢
    rcases Nat.lt_trichotomy m.length n with hl | hl | hl
    · have := powB_mono (show m.length + 1 ≤ n by omega); omega
    · omega
    · have := powB_mono (show n + 1 ≤ m.length by omega); omega
/-- The divisor made greater is as long. -/
theorem scale_len {m c : List Int} {d f : Int} (hb : canon (m ++ [d])) (hc : canon c) (hf : f = BB / (d + 1)) (hv : valI c = valI (m ++ [d]) * f) : c.length = m.length + 1 ∧ 1 ≤ f ∧ f < BB ∧ 1 ≤ d := by
  obtain ⟨m', d', e, hm, hd1, hd2, hlo, hhi⟩ := canon_split hb (by simp)
  obtain ⟨rfl, e2⟩ := List.append_inj' e rfl
  have : d = d' := by simpa using e2
  subst this
  obtain ⟨f1, f2, f3⟩ := factor_ok (show 0 < d by omega) hd2
  rw [← hf] at f1 f2 f3
  have hP := powB_pos m.length
  refine ⟨canon_length hc ?_ ?_, f1, f2, hd1⟩
  · rw [hv]
    have h1 := canon_low hb
    have h2 : valI (m ++ [d]) * 1 ≤ valI (m ++ [d]) * f := Int.mul_le_mul_of_nonneg_left f1 (by omega)
    omega
  · rw [hv, powB_succ]
    have h1 : valI (m ++ [d]) * f < ((d + 1) * powB m.length) * f := Int.mul_lt_mul_of_pos_right hhi (by omega)
    have h2 : (d + 1) * f * powB m.length ≤ BB * powB m.length := Int.mul_le_mul_of_nonneg_right f3 (by omega)
    rw [Int.mul_assoc, Int.mul_comm (powB m.length) f, ← Int.mul_assoc] at h1
    omega
/-- c places are left. -/
structure DivS (D R O : List Int) (lr lo : Nat) (A0 : Int) (c : Nat) : Prop where
  rlen : R.length = lr
  olen : O.length = lo
  rok : okR R
  ook : okR (O.drop c)
  sum : valI R + valI D * (powB c * valI (O.drop c)) = A0
  low : valI (R.drop c) < valI D
/-- The window of a step. -/
structure StepS (D W : List Int) (V d p1 p0 : Int) (n : Nat) : Prop where
  wlen : W.length = n + 1
  wok : okR W
  val : valI W = V
  v0 : 0 ≤ V
  vlt : V < valI D * BB
  at1 : W[n]? = some p1
  ok1 : okP p1
  ok0 : okP p0
  le1 : p1 ≤ d
  gle : (p1 * BB + p0) / d ≤ 2 * BB
  g0 : 0 ≤ (p1 * BB + p0) / d
  gge : V / valI D ≤ (p1 * BB + p0) / d
theorem drop_zero_val {L : List Int} {c n : Nat} (h : okR L) {D : Int} (hD : D ≤ powB n) (h1 : valI (L.drop c) < D) : valI (L.drop (c + n)) = 0 := by
  have hs : L.drop c = (L.drop c).take n ++ L.drop (c + n) := by rw [← List.drop_drop, List.take_append_drop]
  have h0 := valI_nonneg _ (h.drop (c + n))
  by_cases hl : c + n ≤ L.length
  · have e := valI_app ((L.drop c).take n) (L.drop (c + n))
    rw [← hs, List.length_take, List.length_drop, Nat.min_eq_left (by omega)] at e
    have h2 := valI_nonneg _ ((h.drop c).take n)
    have hp := powB_pos n
    by_cases hz : valI (L.drop (c + n)) = 0
    · exact hz
    · have : powB n * 1 ≤ powB n * valI (L.drop (c + n)) := Int.mul_le_mul_of_nonneg_left (by omega) (by omega)
      omega
  · rw [List.drop_eq_nil_of_le (by omega)]; rfl
theorem step_window {D R O m : List Int} {lr lo c n : Nat} {A0 d : Int} (hD : D = m ++ [d]) (hDc : canon D) (hn : D.length = n) (h : DivS D R O lr lo A0 (c + 1)) (hlr : c + 1 + n ≤ lr) :
    ∃ V p1 p0, StepS D (winL R c (n + 1)) V d p1 p0 n ∧ (winL R c (n + 1))[n - 1]? = some p0 ∧ V = valI (R.drop c) ∧ valI (R.drop (c + (n + 1))) = 0 ∧ 1 ≤ n := by
  have hn1 : n = m.length + 1 := by rw [← hn, hD]; simp
  obtain ⟨m', d', e, hm, hd1, hd2, hlo, hhi⟩ := canon_split hDc (by rw [hD]; simp)
  rw [hD] at e
  obtain ⟨rfl, e2⟩ := List.append_inj' e rfl
  have hdd : d = d' := by simpa using e2
  subst hdd
  have hP := powB_pos m.length
  have hwl := win_len R c (n + 1) (by rw [h.rlen]; omega)
  have hwo : okR (winL R c (n + 1)) := (h.rok.drop c).take _
  have hDn := valI_lt D hDc.1
  rw [hn] at hDn
  have hz0 : valI (R.drop (c + 1 + n)) = 0 := drop_zero_val h.rok (Int.le_of_lt hDn) h.low
  have hz : valI (R.drop (c + (n + 1))) = 0 := by rw [show c + (n + 1) = c + 1 + n by omega]; exact hz0
  have hcut : R.drop c = winL R c (n + 1) ++ R.drop (c + (n + 1)) := by unfold winL; rw [← List.drop_drop, List.take_append_drop]
  have hV : valI (R.drop c) = valI (winL R c (n + 1)) := by rw [hcut, valI_app, hz]; omega
  have hV0 := valI_nonneg _ (h.rok.drop c)
  have hVlt : valI (R.drop c) < valI D * BB := by
    have hcl : c < R.length := by rw [h.rlen]; omega
    have e3 : R.drop c = R[c] :: R.drop (c + 1) := List.drop_eq_getElem_cons hcl
    have hx := h.rok R[c] (List.getElem_mem hcl)
    unfold okP at hx
    have h4 : BB * valI (R.drop (c + 1)) ≤ BB * (valI D - 1) := Int.mul_le_mul_of_nonneg_left (by have := h.low; omega) (by decide)
    rw [Int.mul_sub, Int.mul_one] at h4
    rw [e3, valI, Int.mul_comm (valI D) BB]
    omega
  -- the window's two first places
  obtain ⟨l, p0, p1, hW⟩ : ∃ l p0 p1, winL R c (n + 1) = l ++ [p0, p1] := by
    have hne : winL R c (n + 1) ≠ [] := by intro e; rw [e] at hwl; simp at hwl
    obtain ⟨l1, p1, h1⟩ : ∃ l x, winL R c (n + 1) = l ++ [x] := ⟨_, _, (List.dropLast_concat_getLast hne).symm⟩
    have hl1 : l1.length = n := by rw [h1] at hwl; simpa using hwl
    have hne2 : l1 ≠ [] := by intro e; rw [e] at hl1; simp at hl1; omega
    obtain ⟨l2, p0, h2⟩ : ∃ l x, l1 = l ++ [x] := ⟨_, _, (List.dropLast_concat_getLast hne2).symm⟩
    exact ⟨l2, p0, p1, by rw [h1, h2]; simp⟩
  have hll : l.length = m.length := by rw [hW] at hwl; simp at hwl; omega
  have hlo2 : okR l := by rw [hW] at hwo; exact hwo.left
  have hp0 : okP p0 := hwo p0 (by rw [hW]; simp)
  have hp1 : okP p1 := hwo p1 (by rw [hW]; simp)
  have hWv : valI (winL R c (n + 1)) = valI l + (p1 * BB + p0) * powB m.length := by
    rw [hW, valI_app, hll]
    simp only [valI, Int.mul_zero, Int.add_zero]
    rw [Int.mul_comm BB p1, Int.add_comm p0, Int.mul_comm]
  have hl0 := valI_nonneg l hlo2
  have hl1 := valI_lt l hlo2
  rw [hll] at hl1
  have hVp : valI (R.drop c) < (p1 * BB + p0 + 1) * powB m.length := by rw [hV, hWv, Int.add_mul _ 1, Int.one_mul]; omega
  have hVge : (p1 * BB + p0) * powB m.length ≤ valI (R.drop c) := by rw [hV, hWv]; omega
  unfold okP at hp0 hp1
  have hgl := guess_le hP (show 0 < d by omega) hd2 hhi hp0 hp1.1 hVge hVlt
  have hD0 : 0 < valI D := by
    have : 1 * powB m.length ≤ d * powB m.length := Int.mul_le_mul_of_nonneg_right hd1 (by omega)
    omega
  have hge := guess_ge hP (show 0 < d by omega) hlo hVp (Int.ediv_nonneg hV0 (by omega)) (Int.ediv_mul_le _ (by omega))
  have hpp : 0 ≤ p1 * BB := Int.mul_nonneg hp1.1 (by decide)
  refine ⟨valI (R.drop c), p1, p0, ⟨hwl, hwo, hV.symm, hV0, hVlt, ?_, hp1, hp0, hgl.1, hgl.2, Int.ediv_nonneg (by omega) (by omega), hge⟩, ?_, rfl, hz, by omega⟩
  · rw [hW, hn1, List.getElem?_append_right (by omega), hll, Nat.add_sub_cancel_left]; rfl
  · rw [hW, hn1, List.getElem?_append_right (by omega), hll, Nat.add_sub_cancel, Nat.sub_self]; rfl
/-- What is guessed so far. -/
structure GuessS (D W : List Int) (V g : Int) (n : Nat) : Prop where
  len : W.length = n + 1
  ok : okI W
  sum : valI W + g * valI D = V
  low : valI W < valI D
  g0 : 0 ≤ g
  gle : g ≤ 2 * BB
theorem guess_first {D W : List Int} {V d p1 p0 : Int} {n : Nat} (hD0 : 0 < valI D) (hn : D.length = n) (h : StepS D W V d p1 p0 n) : GuessS D (takL 0 W D ((p1 * BB + p0) / d)) V ((p1 * BB + p0) / d) n := by
  have hv : valI (takL 0 W D ((p1 * BB + p0) / d)) = V - (p1 * BB + p0) / d * valI D := by rw [takL_val _ _ _ _ (by rw [hn, h.wlen]; omega), h.val]; omega
  refine ⟨by rw [takL_len]; exact h.wlen, takL_ok _ _ _ _ (okI_of h.wok), by rw [hv]; omega, ?_, h.g0, h.gle⟩
  rw [hv]
  have h1 : V / valI D * valI D ≤ (p1 * BB + p0) / d * valI D := Int.mul_le_mul_of_nonneg_right h.gge (by omega)
  have h2 := Int.emod_lt_of_pos V hD0
  have h3 := Int.emod_add_ediv_mul V (valI D)
  omega
theorem top_get {W : List Int} {n : Nat} (h : W.length = n + 1) : ∃ m x, W = m ++ [x] ∧ m.length = n ∧ W[n]? = some x := by
  have hne : W ≠ [] := by intro e; rw [e] at h; cases h
  obtain ⟨m, x, hm⟩ : ∃ l x, W = l ++ [x] := ⟨_, _, (List.dropLast_concat_getLast hne).symm⟩
  have hl : m.length = n := by rw [hm] at h; simpa using h
  exact ⟨m, x, hm, hl, by rw [hm, List.getElem?_append_right (by omega), hl, Nat.sub_self]; rfl⟩
theorem guess_top {D W : List Int} {V g x : Int} {n : Nat} (hD : okR D) (hn : D.length = n) (hV : 0 ≤ V) (h : GuessS D W V g n) (hx : W[n]? = some x) : (x < 0 ↔ valI W < 0) ∧ -4000000000000000000 ≤ x ∧ x ≤ 4000000000000000000 := by
  obtain ⟨m, y, hm, hl, hy⟩ := top_get h.len
  rw [hy] at hx
  obtain rfl := Option.some.inj hx
  have hok := h.ok
  rw [hm] at hok
  have hmo := okI_last hok
  have h1 := valI_nonneg m hmo
  have h2 := valI_lt m hmo
  have hDn := valI_lt D hD
  have hD0 := valI_nonneg D hD
  rw [hn] at hDn
  rw [hl] at h2
  have hp := powB_pos n
  have hval : valI W = valI m + powB n * y := by rw [hm, valI_app, hl]; simp [valI]
  refine ⟨by rw [hm]; exact okI_sign hmo, ?_, ?_⟩
  · have h3 : g * valI D ≤ g * powB n := Int.mul_le_mul_of_nonneg_left (by omega) h.g0
    have h4 : g * powB n ≤ 2 * BB * powB n := Int.mul_le_mul_of_nonneg_right h.gle (by omega)
    have hs := h.sum
    by_cases hc : -4000000000000000000 ≤ y
    · exact hc
    · have h5 : powB n * y ≤ powB n * (-4000000000000000000) := Int.mul_le_mul_of_nonneg_left (by omega) (by omega)
      have e : 2 * BB * powB n = 2000000000 * powB n := rfl
      omega
  · have hlow := h.low
    by_cases hc : y ≤ 4000000000000000000
    · exact hc
    · have h5 : powB n * 4000000000000000000 ≤ powB n * y := Int.mul_le_mul_of_nonneg_left (by omega) (by omega)
      omega
theorem guess_more {D W : List Int} {V g : Int} {n : Nat} (hD0 : 0 < valI D) (hn : D.length = n) (hV : 0 ≤ V) (h : GuessS D W V g n) (hneg : valI W < 0) : GuessS D (addL 0 W D 1) V (g - 1) n ∧ 1 ≤ g := by
  have hv : valI (addL 0 W D 1) = valI W + valI D := by rw [addL_val _ _ _ _ (by rw [hn, h.len]; omega)]; omega
  have hs := h.sum
  have hg : 1 ≤ g := by
    by_cases hc : 1 ≤ g
    · exact hc
    · have hg0 := h.g0
      have : g = 0 := by omega
      rw [this] at hs
      omega
  have hle := h.gle
  have e : (g - 1) * valI D = g * valI D - valI D := by rw [Int.sub_mul, Int.one_mul]
  exact ⟨⟨by rw [addL_len]; exact h.len, addL_ok _ _ _ _, by rw [hv, e]; omega, by rw [hv]; omega, by omega, by omega⟩, hg⟩
theorem step_done {D R O W : List Int} {lr lo c n : Nat} {A0 V g : Int} (hD : okR D) (hD0 : 0 < valI D) (hn : D.length = n) (h : DivS D R O lr lo A0 (c + 1)) (hlr : c + 1 + n ≤ lr) (hlo : c < lo)
    (hV : V = valI (R.drop c)) (hz : valI (R.drop (c + (n + 1))) = 0) (hVlt : V < valI D * BB) (hW : GuessS D W V g n) (hpos : 0 ≤ valI W) : DivS D (putL R c W) (O.set c g) lr lo A0 c ∧ okP g := by
  have hWl := hW.len
  have hDn := valI_lt D hD
  rw [hn] at hDn
  have hpn := powB_mono (show n ≤ n + 1 by omega)
  have hlow := hW.low
  have hWok : okR W := okI_all hW.ok hpos (by rw [hWl]; omega)
  have hg1 : okP g := by
    refine ⟨hW.g0, ?_⟩
    have hs := hW.sum
    by_cases hc : g < BB
    · exact hc
    · have : BB * valI D ≤ g * valI D := Int.mul_le_mul_of_nonneg_right (by omega) (by omega)
      rw [Int.mul_comm] at this
      omega
  have hfit : c + W.length ≤ R.length := by rw [hWl, h.rlen]; omega
  have hod : (O.set c g).drop c = g :: O.drop (c + 1) := by
    rw [List.drop_eq_getElem_cons (by rw [List.length_set, h.olen]; exact hlo), List.getElem_set_self, List.drop_set_of_lt (by omega)]
  refine ⟨⟨by rw [put_len _ _ _ hfit, h.rlen], by rw [List.length_set, h.olen], put_ok _ _ _ h.rok hWok, by rw [hod]; exact okR.mk hg1 h.ook, ?_, ?_⟩, hg1⟩
  · rw [put_more _ _ _ hfit, hod, valI, hWl]
    have hwin : valI (winL R c (n + 1)) = V := by
      have hcut : R.drop c = winL R c (n + 1) ++ R.drop (c + (n + 1)) := by unfold winL; rw [← List.drop_drop, List.take_append_drop]
      rw [hV, hcut, valI_app, hz]; omega
    rw [hwin]
    have hs := h.sum
    have e1 : powB (c + 1) = BB * powB c := powB_succ c
    rw [e1] at hs
    have e2 : valI W - V = -(g * valI D) := by have := hW.sum; omega
    rw [e2, Int.mul_neg, ← hs]
    have e3 : valI D * (powB c * (g + BB * valI (O.drop (c + 1)))) = powB c * (g * valI D) + valI D * (BB * powB c * valI (O.drop (c + 1))) := by
      rw [Int.mul_add, Int.mul_add]
      congr 1
      · rw [Int.mul_comm, Int.mul_assoc]
      · rw [← Int.mul_assoc (powB c), Int.mul_comm (powB c) BB]
    rw [e3]
    omega
  · have hcut : (putL R c W).drop c = W ++ R.drop (c + (n + 1)) := by
      unfold putL
      have hl : (R.take c).length = c := by rw [List.length_take]; have := h.rlen; omega
      rw [List.drop_append, List.drop_eq_nil_of_le (by omega), List.nil_append, hl, Nat.sub_self, List.drop_zero, hWl]
    rw [hcut, valI_app, hz]
    omega
/-- At the end. -/
theorem div_end {D R O : List Int} {lr lo : Nat} {A0 : Int} (hD0 : 0 < valI D) (h : DivS D R O lr lo A0 0) : valI O = A0 / valI D ∧ okR O := by
  have hs := h.sum
  have hl := h.low
  have h0 := valI_nonneg R h.rok
  have ho := h.ook
  rw [List.drop_zero] at hs hl ho
  rw [powB_zero, Int.one_mul, Int.mul_comm] at hs
  exact ⟨(quot_of hD0 (by omega) h0 hl).1.symm, ho⟩
end Go.Proofs.YtgoaakdopbielaaDoor
