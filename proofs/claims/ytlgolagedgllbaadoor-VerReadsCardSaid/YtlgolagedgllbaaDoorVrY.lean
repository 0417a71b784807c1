import Derived.Test.YtlgolagedgllbaaDoorVrX
namespace Go.Proofs.YtlgolagedgllbaaDoor
open Go.RowKit Go.Shelf
set_option linter.unusedSimpArgs false
set_option linter.unusedVariables false
set_option linter.unusedSectionVars false

/-! The document's Minor, plain: by figures. -/
def p1V : ByteArray := ⟨#[49, 46]⟩
theorem minorW_iff (s : ByteArray) (n : Nat) : minorW s = some n ↔ hasV s p1V = true ∧ n < 100 ∧ (digsV (leadV s p1V)).data.toList = Lib.decDigits n ∧ endV (behV (leadV s p1V)) = true := by
  constructor
  · intro h
    unfold minorW at h
    split at h
    · rename_i v hv
      split at h
      · rename_i hc
        obtain ⟨h1, h2, h3, h4⟩ := hc
        have h0 : 0 ≤ v := atoi_nonneg (digs_fig _) hv
        cases h
        exact ⟨h1, by omega, by rw [show digsV (leadV s p1V) = ⟨(Lib.decDigits v.toNat).toArray⟩ from h3], h4⟩
      · cases h
    · cases h
  · intro ⟨h1, h2, h3, h4⟩
    have hv := dig_atoi n h2
    rw [← h3] at hv
    have := minorW_ok (s := s) hv
    have h5 : digsV (leadV s p1V) = ⟨(Lib.decDigits ((n : Nat) : Int).toNat).toArray⟩ := by rw [Int.toNat_natCast]; exact mk_eq h3
    rw [this, if_pos ⟨h1, by omega, h5, h4⟩, Int.toNat_natCast]
/-- How many figures stand behind '1.'. -/
def figN (s : ByteArray) : Nat := figK (leadV s p1V)
theorem lead_list (s : ByteArray) (h : hasV s p1V = true) : (leadV s p1V).data.toList = s.data.toList.drop 2 := by
  show Lib.trimPrefix s.data.toList p1V.data.toList = _
  unfold Lib.trimPrefix
  rw [if_pos (show Lib.hasPrefix s.data.toList p1V.data.toList = true from h)]
  rfl
theorem fig_list (s : ByteArray) (h : hasV s p1V = true) : figN s = ((s.data.toList.drop 2).takeWhile isD).length := by
  unfold figN figK
  rw [lead_list s h]
theorem isD_byte (s : ByteArray) (j : Nat) (h : j < s.size) : isD (s.data.toList[j]'(by simpa using h)) = decide (48 ≤ byteN s j ∧ byteN s j ≤ 57) := by
  have e : (s.data.toList[j]'(by simpa using h)).toNat = byteN s j := (drop_byte s j h).2
  unfold isD
  rw [e, Bool.decide_and]
theorem tw_lt {α} (p : α → Bool) : ∀ (l : List α) (j : Nat) (h : j < (l.takeWhile p).length), ∃ h2 : j < l.length, p l[j] = true
  | [], j, h => by simp at h
  | a :: l, j, h => by
    rw [List.takeWhile_cons] at h
    split at h
    · rename_i ha
      cases j with
      | zero => exact ⟨by simp, ha⟩
      | succ j =>
        obtain ⟨h2, h3⟩ := tw_lt p l j (by simpa using h)
        exact ⟨by simpa using h2, by simpa using h3⟩
    · simp at h
theorem tw_end {α} (p : α → Bool) : ∀ (l : List α) (h : (l.takeWhile p).length < l.length), p (l[(l.takeWhile p).length]) = false
  | [], h => by simp at h
  | a :: l, h => by
    by_cases ha : p a = true
    · have h' : ((a :: l).takeWhile p).length = (l.takeWhile p).length + 1 := by rw [List.takeWhile_cons, if_pos ha]; rfl
      have := tw_end p l (by rw [h'] at h; simpa using h)
      simp only [h', List.getElem_cons_succ]
      exact this
    · have h' : ((a :: l).takeWhile p).length = 0 := by rw [List.takeWhile_cons, if_neg ha]; rfl
      simp only [h', List.getElem_cons_zero]
      simpa using ha
theorem fig_room (s : ByteArray) (h : hasV s p1V = true) : figN s + 2 ≤ s.size := by
  have h1 := fig_list s h
  have h2 : ((s.data.toList.drop 2).takeWhile isD).length ≤ (s.data.toList.drop 2).length := (List.takeWhile_sublist (l := s.data.toList.drop 2) isD).length_le
  rw [List.length_drop] at h2
  have h3 : 2 ≤ s.data.toList.length := by
    have h' : Lib.hasPrefix s.data.toList p1V.data.toList = true := h
    unfold Lib.hasPrefix at h'
    have := (List.isPrefixOf_iff_prefix.1 h').length_le
    exact this
  simp only [Array.length_toList] at h2 h3
  have h4 : s.data.size = s.size := rfl
  omega
theorem fig_at (s : ByteArray) (h : hasV s p1V = true) (j : Nat) (hj : j < figN s) : 48 ≤ byteN s (2 + j) ∧ byteN s (2 + j) ≤ 57 := by
  have hr := fig_room s h
  rw [fig_list s h] at hj
  obtain ⟨h2, h3⟩ := tw_lt isD _ j hj
  rw [List.getElem_drop, isD_byte s (2 + j) (by rw [← fig_list s h] at hj; omega)] at h3
  exact of_decide_eq_true h3
theorem fig_stop (s : ByteArray) (h : hasV s p1V = true) (hj : 2 + figN s < s.size) : ¬ (48 ≤ byteN s (2 + figN s) ∧ byteN s (2 + figN s) ≤ 57) := by
  have h1 := fig_list s h
  have hl : ((s.data.toList.drop 2).takeWhile isD).length < (s.data.toList.drop 2).length := by
    rw [← h1, List.length_drop, Array.length_toList]
    have h4 : s.data.size = s.size := rfl
    omega
  have := tw_end isD (s.data.toList.drop 2) hl
  rw [List.getElem_drop] at this
  simp only [← h1] at this
  rw [isD_byte s (2 + figN s) hj] at this
  exact of_decide_eq_false this
theorem beh_of (s : ByteArray) (h : hasV s p1V = true) : behV (leadV s p1V) = s.extract (2 + figN s) s.size := by
  have h1 := beh_list (leadV s p1V)
  rw [lead_list s h, List.drop_drop] at h1
  apply ByteArray.ext
  apply Array.toList_inj.1
  rw [extract_list, List.take_of_length_le (by rw [List.length_drop, Array.length_toList]; exact Nat.le_refl _)]
  exact h1
theorem digs_take (s : ByteArray) (h : hasV s p1V = true) : (digsV (leadV s p1V)).data.toList = (s.data.toList.drop 2).take (figN s) := by
  have := digs_list (leadV s p1V)
  rw [lead_list s h] at this
  exact this
theorem minor_no1 (s : ByteArray) (h : hasV s p1V = false) : minorW s = none := by
  cases hm : minorW s with
  | none => rfl
  | some n => rw [((minorW_iff s n).1 hm).1] at h; cases h
theorem minor_len (s : ByteArray) (h : hasV s p1V = true) (n : Nat) (hm : minorW s = some n) : figN s = (Lib.decDigits n).length := by
  obtain ⟨_, h2, h3, _⟩ := (minorW_iff s n).1 hm
  have hr := fig_room s h
  rw [← h3, digs_take s h, List.length_take, List.length_drop, Array.length_toList]
  have h4 : s.data.size = s.size := rfl
  omega
theorem minor_none0 (s : ByteArray) (h : hasV s p1V = true) (h0 : figN s = 0) : minorW s = none := by
  cases hm : minorW s with
  | none => rfl
  | some n =>
    have := minor_len s h n hm
    have := (dec_len n ((minorW_iff s n).1 hm).2.1).1
    omega
theorem minor_none3 (s : ByteArray) (h : hasV s p1V = true) (h0 : 3 ≤ figN s) : minorW s = none := by
  cases hm : minorW s with
  | none => rfl
  | some n =>
    have := minor_len s h n hm
    have := (dec_len n ((minorW_iff s n).1 hm).2.1).2
    omega
theorem byte_get (s : ByteArray) (j : Nat) (h : j < s.size) : s.data.toList[j]'(by simpa using h) = UInt8.ofNat (byteN s j) := by
  have e : (s.data.toList[j]'(by simpa using h)).toNat = byteN s j := (drop_byte s j h).2
  rw [← e, UInt8.ofNat_toNat]
theorem digs_one (s : ByteArray) (h : hasV s p1V = true) (h1 : figN s = 1) : (digsV (leadV s p1V)).data.toList = [UInt8.ofNat (byteN s 2)] := by
  have hr := fig_room s h
  rw [digs_take s h, h1, List.drop_eq_getElem_cons (by simp; omega), byte_get s 2 (by omega)]
  rfl
theorem digs_two (s : ByteArray) (h : hasV s p1V = true) (h1 : figN s = 2) : (digsV (leadV s p1V)).data.toList = [UInt8.ofNat (byteN s 2), UInt8.ofNat (byteN s 3)] := by
  have hr := fig_room s h
  rw [digs_take s h, h1, List.drop_eq_getElem_cons (by simp; omega), List.drop_eq_getElem_cons (by simp; omega), byte_get s 2 (by omega), byte_get s 3 (by omega)]
  rfl
theorem minor_one (s : ByteArray) (h : hasV s p1V = true) (h1 : figN s = 1) : minorW s = if endV (s.extract 3 s.size) = true then some (byteN s 2 - 48) else none := by
  have hd : 48 ≤ byteN s 2 ∧ byteN s 2 ≤ 57 := fig_at s h 0 (by omega)
  have hD : (digsV (leadV s p1V)).data.toList = Lib.decDigits (byteN s 2 - 48) := by
    rw [digs_one s h h1, dec_small _ (by omega), if_pos (by omega)]
    congr 2
    omega
  have hB := beh_of s h
  rw [h1] at hB
  by_cases he : endV (s.extract 3 s.size) = true
  · rw [if_pos he]
    exact (minorW_iff s _).2 ⟨h, by omega, hD, by rw [hB]; exact he⟩
  · rw [if_neg he]
    cases hm : minorW s with
    | none => rfl
    | some n => exact absurd (by have := ((minorW_iff s n).1 hm).2.2.2; rw [hB] at this; exact this) he
theorem minor_two0 (s : ByteArray) (h : hasV s p1V = true) (h1 : figN s = 2) (h0 : byteN s 2 = 48) : minorW s = none := by
  cases hm : minorW s with
  | none => rfl
  | some n =>
    obtain ⟨_, h2, h3, _⟩ := (minorW_iff s n).1 hm
    rw [digs_two s h h1, dec_small n h2, h0] at h3
    split at h3
    · simp at h3
    · simp only [List.cons.injEq] at h3
      have := congrArg UInt8.toNat h3.1
      simp at this
      omega
theorem minor_two (s : ByteArray) (h : hasV s p1V = true) (h1 : figN s = 2) (h0 : byteN s 2 ≠ 48) : minorW s = if endV (s.extract 4 s.size) = true then some (10 * (byteN s 2 - 48) + (byteN s 3 - 48)) else none := by
  have hd := fig_at s h 0 (by omega)
  have hd1 := fig_at s h 1 (by omega)
  have hd0 : 48 ≤ byteN s 2 ∧ byteN s 2 ≤ 57 := hd
  have hd2 : 48 ≤ byteN s 3 ∧ byteN s 3 ≤ 57 := hd1
  have hD : (digsV (leadV s p1V)).data.toList = Lib.decDigits (10 * (byteN s 2 - 48) + (byteN s 3 - 48)) := by
    rw [digs_two s h h1, dec_small _ (by omega), if_neg (by omega)]
    rw [show 48 + (10 * (byteN s 2 - 48) + (byteN s 3 - 48)) / 10 = byteN s 2 by omega, show 48 + (10 * (byteN s 2 - 48) + (byteN s 3 - 48)) % 10 = byteN s 3 by omega]
  have hB := beh_of s h
  rw [h1] at hB
  by_cases he : endV (s.extract 4 s.size) = true
  · rw [if_pos he]
    exact (minorW_iff s _).2 ⟨h, by omega, hD, by rw [hB]; exact he⟩
  · rw [if_neg he]
    cases hm : minorW s with
    | none => rfl
    | some n => exact absurd (by have := ((minorW_iff s n).1 hm).2.2.2; rw [hB] at this; exact this) he
/-! What may stand behind, by bytes. -/
theorem pre_take (q : ByteArray) (p : List UInt8) : hasV q ⟨p.toArray⟩ = decide (q.data.toList.take p.length = p) := by
  show Lib.hasPrefix q.data.toList p = _
  unfold Lib.hasPrefix
  rw [Bool.eq_iff_iff, List.isPrefixOf_iff_prefix, List.prefix_iff_eq_take, decide_eq_true_eq]
  exact ⟨fun h => h.symm, fun h => h.symm⟩
theorem pre_ext (q : ByteArray) (p : List UInt8) : hasV q ⟨p.toArray⟩ = decide (q.extract 0 p.length = ⟨p.toArray⟩) := by
  rw [pre_take, decide_eq_decide]
  constructor
  · intro h
    apply ByteArray.ext
    apply Array.toList_inj.1
    rw [extract_list]
    simpa using h
  · intro h
    have := congrArg (fun x => x.data.toList) h
    simp only [extract_list] at this
    simpa using this
theorem lead_ext (q : ByteArray) (p : List UInt8) (h : hasV q ⟨p.toArray⟩ = true) : leadV q ⟨p.toArray⟩ = q.extract p.length q.size := by
  apply ByteArray.ext
  apply Array.toList_inj.1
  rw [extract_list, List.take_of_length_le (by rw [List.length_drop, Array.length_toList]; exact Nat.le_refl _)]
  show Lib.trimPrefix q.data.toList p = _
  unfold Lib.trimPrefix
  rw [if_pos (show Lib.hasPrefix q.data.toList p = true from h)]
theorem pre_dot (q : ByteArray) (h : 0 < q.size) : hasV q ⟨#[46]⟩ = decide (byteN q 0 = 46) := by
  have := pre_take q [46]
  rw [show (⟨#[46]⟩ : ByteArray) = ⟨[46].toArray⟩ from rfl, this]
  have hl : q.data.toList = UInt8.ofNat (byteN q 0) :: q.data.toList.drop 1 := by
    have := List.drop_eq_getElem_cons (l := q.data.toList) (i := 0) (by simpa using h)
    rw [byte_get q 0 h] at this
    exact this
  rw [hl, decide_eq_decide]
  have hb := byteN_lt q 0
  simp only [List.length_singleton, List.take_succ_cons, List.take_zero, List.cons.injEq, and_true]
  constructor
  · intro e
    have := congrArg UInt8.toNat e
    simp at this
    omega
  · intro e; rw [e]; rfl
theorem end_0 (q : ByteArray) (h : q.size = 0) : endV q = true := by unfold endV; rw [if_pos h]
theorem end_1 (q : ByteArray) (h : 0 < q.size) (h1 : byteN q 0 = 46) : endV q = digV (q.extract 1 q.size) := by
  have hp := pre_dot q h
  rw [h1] at hp
  have hp2 : hasV q ⟨[46].toArray⟩ = true := hp
  unfold endV
  rw [if_neg (by omega), if_pos hp2]
  exact congrArg digV (lead_ext q [46] hp2)
theorem end_2 (q : ByteArray) (h : 0 < q.size) (h1 : byteN q 0 ≠ 46) : endV q = if q.extract 0 2 = ⟨#[114, 99]⟩ then digV (q.extract 2 q.size) else if q.extract 0 4 = ⟨#[98, 101, 116, 97]⟩ then digV (q.extract 4 q.size) else false := by
  have hp := pre_dot q h
  rw [decide_eq_false h1] at hp
  have hp2 : hasV q ⟨#[114, 99]⟩ = decide (q.extract 0 2 = ⟨#[114, 99]⟩) := pre_ext q [114, 99]
  have hp4 : hasV q ⟨#[98, 101, 116, 97]⟩ = decide (q.extract 0 4 = ⟨#[98, 101, 116, 97]⟩) := pre_ext q [98, 101, 116, 97]
  unfold endV
  rw [if_neg (by omega), hp, if_neg (by decide)]
  by_cases h2 : q.extract 0 2 = ⟨#[114, 99]⟩
  · rw [if_pos h2]
    rw [decide_eq_true h2] at hp2
    rw [if_pos hp2]
    exact congrArg digV (lead_ext q [114, 99] hp2)
  · rw [if_neg h2]
    rw [decide_eq_false h2] at hp2
    rw [hp2, if_neg (by decide)]
    by_cases h4 : q.extract 0 4 = ⟨#[98, 101, 116, 97]⟩
    · rw [if_pos h4]
      rw [decide_eq_true h4] at hp4
      rw [if_pos hp4]
      exact congrArg digV (lead_ext q [98, 101, 116, 97] hp4)
    · rw [if_neg h4]
      rw [decide_eq_false h4] at hp4
      rw [hp4, if_neg (by decide)]
theorem dig_none (q : ByteArray) (h : q.size = 0) : digV q = false := by unfold digV; rw [h]; rfl
end Go.Proofs.YtlgolagedgllbaaDoor
