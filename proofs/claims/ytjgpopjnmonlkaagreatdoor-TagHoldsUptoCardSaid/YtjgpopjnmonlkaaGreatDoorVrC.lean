import Derived.Test.YtjgpopjnmonlkaaGreatDoorVrB
namespace Go.Proofs.YtjgpopjnmonlkaaGreatDoor
open Go.RowKit Go.Shelf
set_option linter.unusedSimpArgs false
set_option linter.unusedVariables false
set_option linter.unusedSectionVars false

/-! Layer 4: Minor. -/
def figP (n : Nat) : Bool := figV (n : Int)
def isD (b : UInt8) : Bool := decide (48 ≤ b.toNat) && decide (b.toNat ≤ 57)
theorem dec_byteV (s : ByteArray) (i : Nat) (h : i < s.size) : (Utf8.decode s i = (byteN s i, 1) ∧ byteN s i < 128) ∨ (128 ≤ (Utf8.decode s i).1 ∧ 128 ≤ byteN s i) := by
  rw [decode_B s i h]
  by_cases h0 : byteN s i < 128
  · exact .inl ⟨by unfold decB; rw [if_pos h0], h0⟩
  · refine .inr ⟨?_, by omega⟩
    unfold decB
    rw [if_neg h0]
    repeat' split
    all_goals (simp only; omega)
/-- How many figures there are ahead. -/
def figK (s : ByteArray) : Nat := (s.data.toList.takeWhile isD).length
theorem idx_fig (s : ByteArray) : ∀ (f pos : Nat), s.size ≤ f + pos → pos ≤ s.size →
    Lib.idxFuncFrom figP false s f pos = if pos + ((s.data.toList.drop pos).takeWhile isD).length < s.size then ((pos + ((s.data.toList.drop pos).takeWhile isD).length : Nat) : Int) else -1
  | 0, pos, h1, h2 => by
    rw [if_neg (by omega)]; rfl
  | f + 1, pos, h1, h2 => by
    rw [Lib.idxFuncFrom]
    by_cases hlt : pos < s.size
    · have hk : pos < s.data.toList.length := by simpa using hlt
      have hbN : byteN s pos = (s.data.toList[pos]).toNat := by simp [byteN, List.getD_eq_getElem?_getD, List.getElem?_eq_getElem hk]
      rw [if_pos hlt, List.drop_eq_getElem_cons hk, List.takeWhile_cons]
      rcases dec_byteV s pos hlt with ⟨hd, hb⟩ | ⟨hd, hb⟩
      · rw [hd]
        simp only
        have hp : figP (byteN s pos) = isD s.data.toList[pos] := by
          rw [hbN]; unfold figP figV isD; rw [Bool.eq_iff_iff]; simp only [Bool.and_eq_true, decide_eq_true_eq]; omega
        rw [hp]
        cases hD : isD s.data.toList[pos] with
        | true =>
          rw [if_neg (by decide), idx_fig s f (pos + 1) (by omega) (by omega)]
          simp only [if_true, List.length_cons]
          rw [show pos + 1 + (List.takeWhile isD (List.drop (pos + 1) s.data.toList)).length = pos + ((List.takeWhile isD (List.drop (pos + 1) s.data.toList)).length + 1) by omega]
        | false =>
          simp only [if_true, Bool.false_eq_true, if_false, List.length_nil, Nat.add_zero]
          rw [if_pos hlt]
      · have hp : figP (Utf8.decode s pos).1 = false := by
          unfold figP figV; rw [← Bool.not_eq_true]; simp only [Bool.and_eq_true, decide_eq_true_eq]; omega
        have hD : isD s.data.toList[pos] = false := by
          unfold isD; rw [← Bool.not_eq_true]; simp only [Bool.and_eq_true, decide_eq_true_eq]; omega
        rw [hp, hD]
        simp only [if_true, Bool.false_eq_true, if_false, List.length_nil, Nat.add_zero]
        rw [if_pos hlt]
    · have he : pos = s.size := by omega
      have hn : s.data.toList.drop pos = [] := List.drop_eq_nil_of_le (by simp; omega)
      rw [if_neg hlt, if_neg (by rw [hn]; simpa using hlt)]
def behV (r : ByteArray) : ByteArray := Lib.trimLeftF figP r
def digsV (r : ByteArray) : ByteArray := ⟨(Lib.trimSuffix r.data.toList (behV r).data.toList).toArray⟩
theorem figK_le (r : ByteArray) : figK r ≤ r.size := by
  have := (List.takeWhile_sublist (l := r.data.toList) isD).length_le
  unfold figK
  simpa using this
theorem beh_list (r : ByteArray) : (behV r).data.toList = r.data.toList.drop (figK r) := by
  have hi := idx_fig r r.size 0 (by omega) (Nat.zero_le _)
  rw [List.drop_zero, Nat.zero_add] at hi
  have hk := figK_le r
  have hi2 : Lib.idxFuncFrom figP false r r.size 0 = if figK r < r.size then ((figK r : Nat) : Int) else -1 := hi
  unfold behV Lib.trimLeftF Lib.idxFunc
  by_cases h : figK r < r.size
  · rw [if_pos h] at hi2
    rw [hi2, if_neg (by omega), Int.toNat_natCast, Lib.extract_data]
    exact List.take_of_length_le (by simp)
  · rw [if_neg h] at hi2
    rw [hi2, if_pos rfl]
    symm
    exact List.drop_eq_nil_of_le (by simp; omega)
theorem digs_list (r : ByteArray) : (digsV r).data.toList = r.data.toList.take (figK r) := by
  have hk := figK_le r
  have hL : r.data.toList.length = r.size := by simp
  show Lib.trimSuffix r.data.toList (behV r).data.toList = _
  rw [beh_list]
  unfold Lib.trimSuffix Lib.hasSuffix
  rw [if_pos (List.isSuffixOf_iff_suffix.2 (List.drop_suffix _ _)), List.length_drop]
  congr 1
  omega
theorem digs_fig (r : ByteArray) : ∀ b ∈ (digsV r).data.toList, isD b = true := by
  rw [digs_list]
  intro b hb
  have : r.data.toList.take (figK r) = r.data.toList.takeWhile isD := by
    unfold figK
    exact (List.prefix_iff_eq_take.1 (List.takeWhile_prefix isD)).symm
  rw [this] at hb
  exact List.all_eq_true.1 (List.all_takeWhile (p := isD) (l := r.data.toList)) b hb
theorem atoi_nonneg {l : List UInt8} (h : ∀ b ∈ l, isD b = true) {v : Int} (hv : Lib.atoiAll l = .ok v) : 0 ≤ v := by
  cases l with
  | nil => cases hv
  | cons c r =>
    have hc := h c (by simp)
    unfold isD at hc
    simp only [Bool.and_eq_true, decide_eq_true_eq] at hc
    have h45 : ¬ c.toNat = 45 := by omega
    unfold Lib.atoiAll at hv
    simp only [h45, false_and, if_false, not_false_eq_true, true_and] at hv
    split at hv
    · cases hv
    · cases hv
    · split at hv
      · cases hv
      · cases hv
        omega
/-- A version's minor, if it is one. -/
def minorW (s : ByteArray) : Option Nat :=
  match Lib.atoiAll (digsV (leadV s ⟨#[49, 46]⟩)).data.toList with
  | .ok v => if hasV s ⟨#[49, 46]⟩ = true ∧ v ≤ 99 ∧ digsV (leadV s ⟨#[49, 46]⟩) = ⟨(Lib.decDigits v.toNat).toArray⟩ ∧ endV (behV (leadV s ⟨#[49, 46]⟩)) = true then some v.toNat else none
  | _ => none
def minorI (s : ByteArray) : Int := match minorW s with | some v => (v : Int) | none => 0
def minorE (s : ByteArray) : Int := match minorW s with | some _ => 0 | none => 6
theorem beh_size (r : ByteArray) : (behV r).size ≤ r.size := by
  have h := congrArg List.length (beh_list r)
  rw [List.length_drop] at h
  simp at h
  omega
theorem digs_size (r : ByteArray) : (digsV r).size ≤ r.size := by
  have h := congrArg List.length (digs_list r)
  rw [List.length_take] at h
  simp at h
  omega
theorem fig_pred (w : World) : PredAt Tryz.prog 60 #[] encR figP w := fun W r _ => by
  unfold FnGives
  refine (figure_v (r : Int) W).mono ?_
  rintro e w' ⟨rfl, rfl⟩
  exact ⟨rfl, 0, rfl⟩
theorem minorW_ok {s : ByteArray} {v : Int} (h : Lib.atoiAll (digsV (leadV s ⟨#[49, 46]⟩)).data.toList = .ok v) :
    minorW s = if hasV s ⟨#[49, 46]⟩ = true ∧ v ≤ 99 ∧ digsV (leadV s ⟨#[49, 46]⟩) = ⟨(Lib.decDigits v.toNat).toArray⟩ ∧ endV (behV (leadV s ⟨#[49, 46]⟩)) = true then some v.toNat else none := by
  unfold minorW
  rw [h]
theorem minorW_no {s : ByteArray} (h : ∀ v, Lib.atoiAll (digsV (leadV s ⟨#[49, 46]⟩)).data.toList ≠ .ok v) : minorW s = none := by
  unfold minorW
  split
  · rename_i v hv; exact absurd hv (h v)
  · rfl
theorem minorI_of {s : ByteArray} {v : Nat} (h : minorW s = some v) : minorI s = v := by unfold minorI; rw [h]
theorem minorE_of {s : ByteArray} {v : Nat} (h : minorW s = some v) : minorE s = 0 := by unfold minorE; rw [h]
theorem minorI_no {s : ByteArray} (h : minorW s = none) : minorI s = 0 := by unfold minorI; rw [h]
theorem minorE_no {s : ByteArray} (h : minorW s = none) : minorE s = 6 := by unfold minorE; rw [h]
set_option maxRecDepth 100000 in
set_option maxHeartbeats 6400000 in
theorem minor_v (s : ByteArray) (w : World) (hs : s.size ≤ 4000000) (hE : EnvV w) :
    Calls Tryz.prog 48 #[.string s] w fun e w' => e = .returned (.tuple #[.int .i64 (minorI s), .int .i64 (minorE s)]) ∧ Below w.heap.size w w' := by
  have hr := lead_size s ⟨#[49, 46]⟩
  have hcp := fun w => cutp s ⟨#[49, 46]⟩ w
  have hok := fun v => minorW_ok (s := s) (v := v)
  have hno := minorW_no (s := s)
  have hI := fun v => minorI_of (s := s) (v := v)
  have hEE := fun v => minorE_of (s := s) (v := v)
  have hI0 := minorI_no (s := s)
  have hE0 := minorE_no (s := s)
  generalize minorI s = mi at *
  generalize minorE s = me at *
  generalize minorW s = mw at *
  generalize leadV s ⟨#[49, 46]⟩ = r at *
  generalize hasV s ⟨#[49, 46]⟩ = b at *
  have hb := beh_size r
  have hd := digs_size r
  have hnn : ∀ v, Lib.atoiAll (digsV r).data.toList = .ok v → 0 ≤ v := fun v hv => atoi_nonneg (digs_fig r) hv
  have htl : ∀ w, Calls Tryz.prog 59 #[.string r, .func (.func 60) #[] #[]] w fun e w' => e = .returned (.string (behV r)) ∧ Below w.heap.size w w' :=
    fun w => Tryz.strings_TrimLeftFunc 60 #[] figk figP r w (fig_pred w)
  have hts : ∀ w, Calls Tryz.prog 61 #[.string r, .string (behV r)] w fun e w' => e = .returned (.string (digsV r)) ∧ w' = w :=
    fun w => Tryz.strings_TrimSuffix r (behV r) w (by omega)
  have hen := fun w => ending_v (behV r) w (by omega)
  generalize behV r = bh at *
  have hat := fun w1 (h1 : Below w.heap.size w w1) => atoi_v (digsV r) w1 (by omega) (hE.below h1 hE.2.2.2)
  generalize digsV r = dg at *
  generalize endV bh = eb at *
  clear hb hd hr
  go_enter Tryz.func48, Tryz.ntmps48
  go_wp2_with (first
    | (go_at_call 47; with_reducible refine Calls.mono (hcp _) ?_; rintro e w2 ⟨rfl, hw2⟩; replace hw2 := hw2.symm; subst hw2)
    | (go_at_call 59; with_reducible refine Calls.mono (htl _) ?_; rintro e w3 ⟨rfl, hb3⟩; have HB3 := Lib.hid hb3; clear hb3)
    | (go_at_call 61; with_reducible refine Calls.mono (hts _) ?_; rintro e w4 ⟨rfl, hw4⟩; replace hw4 := hw4.symm; subst hw4))
  go_at_call 62
  with_reducible refine Calls.mono (hat _ HB3.out) ?_
  rintro e w5 ⟨hA, hb5⟩
  have HB5 : Hid (Below w.heap.size w w5) := Lib.hid (HB3.out.trans (hb5.mono HB3.out.size))
  clear hb5 hat htl hts hcp
  rcases hA with ⟨v, hv, rfl⟩ | ⟨hne, v, t, p, rfl⟩
  · have hm := hok v hv
    have h0 := hnn v hv
    obtain ⟨n, rfl⟩ := Int.eq_ofNat_of_zero_le h0
    have hi := Tryz.strconv_Itoa_small
    rw [Int.toNat_natCast] at hm
    clear hok hno hnn hv
    cases b with
    | false =>
      have hw : mw = none := by rw [hm, if_neg (fun h => absurd h.1 (by decide))]
      obtain rfl := hI0 hw
      obtain rfl := hE0 hw
      clear hm hw hI hEE hI0 hE0 hen hi
      go_wp2_with fail
      go_ret2
      exact ⟨rfl, HB5.out⟩
    | true =>
      by_cases h99 : n ≤ 99
      · have hgt : decide ((99 : Int) < (n : Int)) = false := by simp; omega
        have hi2 := fun w => hi n (by omega) w
        obtain ⟨it, hit⟩ : ∃ it : ByteArray, it = ⟨(Lib.decDigits n).toArray⟩ := ⟨_, rfl⟩
        rw [← hit] at hi2 hm
        clear hi
        by_cases hdg : dg = it
        · subst hdg
          have hne1 : (dg.toList != dg.toList) = false := by simp
          cases eb with
          | true =>
            have hw : mw = some n := by rw [hm, if_pos ⟨rfl, by omega, rfl, rfl⟩]
            obtain rfl := hI _ hw
            obtain rfl := hEE _ hw
            clear hm hw hI hEE hI0 hE0 hit
            go_wp2_with (first
              | (go_at_call 63; with_reducible refine Calls.mono (hi2 _) ?_; rintro e w6 ⟨rfl, hw6⟩; replace hw6 := hw6.symm; subst hw6)
              | (go_at_call 64; with_reducible refine Calls.mono (hen _) ?_; rintro e w7 ⟨rfl, hb7⟩; have HB7 : Hid (Below w.heap.size w w7) := Lib.hid (HB5.out.trans (hb7.mono HB5.out.size)); clear hb7))
            go_ret2
            exact ⟨rfl, HB7.out⟩
          | false =>
            have hw : mw = none := by rw [hm, if_neg (fun h => absurd h.2.2.2 (by decide))]
            obtain rfl := hI0 hw
            obtain rfl := hE0 hw
            clear hm hw hI hEE hI0 hE0 hit
            go_wp2_with (first
              | (go_at_call 63; with_reducible refine Calls.mono (hi2 _) ?_; rintro e w6 ⟨rfl, hw6⟩; replace hw6 := hw6.symm; subst hw6)
              | (go_at_call 64; with_reducible refine Calls.mono (hen _) ?_; rintro e w7 ⟨rfl, hb7⟩; have HB7 : Hid (Below w.heap.size w w7) := Lib.hid (HB5.out.trans (hb7.mono HB5.out.size)); clear hb7))
            go_ret2
            exact ⟨rfl, HB7.out⟩
        · have hne1 : ¬ dg.toList = it.toList := fun h => hdg (by rw [Lib.toList_data, Lib.toList_data] at h; exact ByteArray.ext (Array.toList_inj.1 h))
          have hne2 : (dg.toList != it.toList) = true := by simpa using hne1
          have hne3 : (dg.toList == it.toList) = false := by simpa using hne1
          have hw : mw = none := by rw [hm, if_neg (fun h => hdg h.2.2.1)]
          obtain rfl := hI0 hw
          obtain rfl := hE0 hw
          clear hm hw hI hEE hI0 hE0 hit hdg hen
          go_wp2_with (go_at_call 63; with_reducible refine Calls.mono (hi2 _) ?_; rintro e w6 ⟨rfl, hw6⟩; replace hw6 := hw6.symm; subst hw6)
          go_ret2
          exact ⟨rfl, HB5.out⟩
      · have hgt : decide ((99 : Int) < (n : Int)) = true := by simp; omega
        have hw : mw = none := by rw [hm, if_neg (fun h => h99 (by have := h.2.1; omega))]
        obtain rfl := hI0 hw
        obtain rfl := hE0 hw
        clear hm hw hI hEE hI0 hE0 hen hi
        go_wp2_with fail
        go_ret2
        exact ⟨rfl, HB5.out⟩
  · have hw := hno hne
    obtain rfl := hI0 hw
    obtain rfl := hE0 hw
    clear hok hno hnn hw hI hEE hI0 hE0 hen hne
    cases b with
    | true =>
      go_wp2_with fail
      go_ret2
      exact ⟨rfl, HB5.out⟩
    | false =>
      go_wp2_with fail
      go_ret2
      exact ⟨rfl, HB5.out⟩
end Go.Proofs.YtjgpopjnmonlkaaGreatDoor
