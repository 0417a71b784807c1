import Derived.Test.YtgmmmimckdcggaaDoorBgD
namespace Go.Proofs.YtgmmmimckdcggaaDoor
set_option linter.unusedSimpArgs false
set_option linter.unusedVariables false

/-! Layer 9, plain: windows; products; quotients; what is read. -/
def winL (l : List Int) (i n : Nat) : List Int := (l.drop i).take n
def putL (l : List Int) (i : Nat) (m : List Int) : List Int := l.take i ++ (m ++ l.drop (i + m.length))
theorem win_len (l : List Int) (i n : Nat) (h : i + n ≤ l.length) : (winL l i n).length = n := by unfold winL; rw [List.length_take, List.length_drop]; omega
theorem put_len (l : List Int) (i : Nat) (m : List Int) (h : i + m.length ≤ l.length) : (putL l i m).length = l.length := by
  unfold putL
  rw [List.length_append, List.length_append, List.length_take, List.length_drop]; omega
theorem put_win (l : List Int) (i n : Nat) (h : i + n ≤ l.length) : putL l i (winL l i n) = l := by
  unfold putL
  rw [win_len l i n h]
  unfold winL
  rw [← List.drop_drop, List.take_append_drop, List.take_append_drop]
theorem put_val (l : List Int) (i : Nat) (m : List Int) (h : i + m.length ≤ l.length) : valI (putL l i m) = valI (l.take i) + powB i * (valI m + powB m.length * valI (l.drop (i + m.length))) := by
  unfold putL
  rw [valI_app, valI_app, List.length_take, Nat.min_eq_left (by omega)]
theorem win_val (l : List Int) (i n : Nat) (h : i + n ≤ l.length) : valI l = valI (l.take i) + powB i * (valI (winL l i n) + powB n * valI (l.drop (i + n))) := by
  conv => lhs; rw [← put_win l i n h]
  rw [put_val l i _ (by rw [win_len l i n h]; omega), win_len l i n h]
theorem put_more (l : List Int) (i : Nat) (m : List Int) (h : i + m.length ≤ l.length) : valI (putL l i m) = valI l + powB i * (valI m - valI (winL l i m.length)) := by
  rw [put_val l i m h, win_val l i m.length h, Int.mul_add, Int.mul_add, Int.mul_sub]
  omega
theorem put_drop (l : List Int) (i : Nat) (m : List Int) (h : i + m.length ≤ l.length) (k : Nat) (hk : i + m.length ≤ k) : (putL l i m).drop k = l.drop k := by
  unfold putL
  rw [← List.append_assoc, List.drop_append, List.drop_eq_nil_of_le (by rw [List.length_append, List.length_take]; omega), List.nil_append, List.drop_drop, List.length_append, List.length_take, Nat.min_eq_left (by omega)]
  congr 1
  omega
theorem put_take (l : List Int) (i : Nat) (m : List Int) (h : i ≤ l.length) : (putL l i m).take i = l.take i := by
  unfold putL
  rw [List.take_append_of_le_length (by rw [List.length_take]; omega), List.take_take, Nat.min_self]
theorem put_winS (l : List Int) (i : Nat) (m : List Int) (h : i ≤ l.length) : winL (putL l i m) i m.length = m := by
  unfold winL putL
  have hl : (l.take i).length = i := by rw [List.length_take]; omega
  rw [List.drop_append, List.drop_eq_nil_of_le (by omega), List.nil_append, hl, Nat.sub_self, List.drop_zero, List.take_left]
theorem put_ok (l : List Int) (i : Nat) (m : List Int) (hl : okR l) (hm : okR m) : okR (putL l i m) := (hl.take i).app (hm.app (hl.drop _))
theorem okI_all {l : List Int} (h : okI l) (h0 : 0 ≤ valI l) (h1 : valI l < powB l.length) : okR l := by
  by_cases hl : l = []
  · rw [hl]; exact okR.nil
  · obtain ⟨m, x, rfl⟩ : ∃ m x, l = m ++ [x] := ⟨l.dropLast, l.getLast hl, (List.dropLast_concat_getLast _).symm⟩
    have hm := okI_last h
    refine hm.app (okR.mk ?_ okR.nil)
    rw [List.length_append, List.length_singleton, powB_succ] at h1
    rw [valI_app] at h0 h1
    simp only [valI, Int.mul_zero, Int.add_zero] at h0 h1
    have a1 := valI_nonneg m hm
    have a2 := valI_lt m hm
    have hp := powB_pos m.length
    constructor
    · by_cases hx : 0 ≤ x
      · exact hx
      · have : powB m.length * x ≤ powB m.length * (-1) := Int.mul_le_mul_of_nonneg_left (by omega) (by omega)
        omega
    · by_cases hx : x < BB
      · exact hx
      · have : powB m.length * BB ≤ powB m.length * x := Int.mul_le_mul_of_nonneg_left (by omega) (by omega)
        rw [Int.mul_comm] at this
        omega
/-- A product so far: i places of a are done. -/
def timesS (a b o : List Int) (i : Nat) : Prop := o.length = a.length + b.length ∧ okR o ∧ valI o = valI (a.take i) * valI b ∧ o.drop (i + b.length) = List.replicate (a.length - i) 0
theorem take_val (a : List Int) (i : Nat) (h : i < a.length) : valI (a.take (i + 1)) = valI (a.take i) + powB i * a[i] := by
  rw [List.take_add_one, List.getElem?_eq_getElem h, Option.toList_some, valI_app, List.length_take, Nat.min_eq_left (by omega)]
  simp [valI]
theorem times_step {a b o : List Int} {i : Nat} (ha : okR a) (hb : okR b) (hi : i < a.length) (h : timesS a b o i) :
    timesS a b (putL o i (addL 0 (winL o i (b.length + 1)) b a[i])) (i + 1) ∧ okR (winL o i (b.length + 1)) := by
  obtain ⟨h1, h2, h3, h4⟩ := h
  have hw : i + (b.length + 1) ≤ o.length := by omega
  have hwl := win_len o i (b.length + 1) hw
  have hwo : okR (winL o i (b.length + 1)) := (h2.drop i).take _
  have hal : (addL 0 (winL o i (b.length + 1)) b a[i]).length = b.length + 1 := by rw [addL_len, hwl]
  have hav : valI (addL 0 (winL o i (b.length + 1)) b a[i]) = valI (winL o i (b.length + 1)) + a[i] * valI b := by rw [addL_val _ _ _ _ (by omega)]; omega
  have hai := ha a[i] (List.getElem_mem hi)
  have hbv := valI_nonneg b hb
  have hbl := valI_lt b hb
  have hwv := valI_nonneg _ hwo
  -- the window's last place is 0
  have hz : valI (winL o i (b.length + 1)) < powB b.length := by
    have e : winL o i (b.length + 1) = winL o i b.length ++ [0] := by
      unfold winL
      have h5 : (o.drop i)[b.length]? = some 0 := by
        rw [List.getElem?_drop]
        have := congrArg (fun l => l[0]?) h4
        simp only [List.getElem?_drop, Nat.add_zero] at this
        rw [this, List.getElem?_replicate, if_pos (by omega)]
      rw [List.take_add_one, h5]; rfl
    rw [e, valI_app]
    have h6 := valI_lt (winL o i b.length) ((h2.drop i).take _)
    rw [win_len o i b.length (by omega)] at h6
    simp only [valI, Int.mul_zero, Int.add_zero]
    exact h6
  have hfb : a[i] * valI b ≤ (BB - 1) * valI b := Int.mul_le_mul_of_nonneg_right (by have := hai.2; omega) hbv
  have hfb0 : 0 ≤ a[i] * valI b := Int.mul_nonneg hai.1 hbv
  have e7 : (BB - 1) * valI b = BB * valI b - valI b := by rw [Int.sub_mul, Int.one_mul]
  have hb1 : 0 ≤ (BB - 1) * (powB b.length - valI b) := Int.mul_nonneg (by decide) (by omega)
  rw [Int.sub_mul, Int.one_mul, Int.mul_sub] at hb1
  have hao : okR (addL 0 (winL o i (b.length + 1)) b a[i]) := by
    refine okI_all (addL_ok _ _ _ _) (by omega) ?_
    rw [hal, powB_succ, hav]
    omega
  refine ⟨⟨?_, put_ok _ _ _ h2 hao, ?_, ?_⟩, hwo⟩
  · rw [put_len _ _ _ (by omega), h1]
  · rw [put_more _ _ _ (by omega), hal, hav, h3, take_val a i hi, Int.add_mul]
    rw [show valI (winL o i (b.length + 1)) + a[i] * valI b - valI (winL o i (b.length + 1)) = a[i] * valI b by omega, Int.mul_assoc]
  · rw [put_drop _ _ _ (by omega) _ (by omega)]
    have := congrArg (List.drop 1) h4
    rw [List.drop_drop, List.drop_replicate] at this
    rw [show i + 1 + b.length = i + b.length + 1 by omega, this, show a.length - i - 1 = a.length - (i + 1) by omega]
theorem times_start (a b : List Int) : timesS a b (List.replicate (a.length + b.length) 0) 0 := by
  refine ⟨List.length_replicate, okR.zeros _, ?_, ?_⟩
  · rw [valI_zeros, List.take_zero]; simp [valI]
  · rw [List.drop_replicate]; congr 1; omega
theorem times_end {a b o : List Int} (h : timesS a b o a.length) : valI o = valI a * valI b := by
  have := h.2.2.1
  rwa [List.take_length] at this
end Go.Proofs.YtgmmmimckdcggaaDoor
