import Derived.Test.YtlddbelpbgmljaaDoorMa
import Derived.Defers
import Derived.Recover
import Derived.Laws.Pointers
import Derived.Lib.AppendStr
import Derived.Deep.AppendLies
import Derived.Deep.RegionLaw
namespace Go.Proofs.YtlddbelpbgmljaaDoor
open Go.RowKit
set_option linter.unusedSimpArgs false
set_option linter.unusedVariables false
set_option linter.unusedSectionVars false

/-! Layer 3: need, digit, Plain. -/
theorem need_yes (e : Int) (w : World) :
    Calls Tryd.prog 13 #[.bool true, .int .i64 e] w fun r w' => r = .returned (.tuple #[]) ∧ w' = w := by
  go_enter Tryd.func13, Tryd.ntmps13
  go_wp2_with fail
  go_end0
  exact ⟨rfl, rfl⟩
/-- What a wrong part throws. -/
def thrown (e : Int) : Ending := .panicked [{ v := .iface 23 (.int .i64 e), recovered := false }]
theorem need_no (e : Int) (w : World) :
    Calls Tryd.prog 13 #[.bool false, .int .i64 e] w fun r w' => r = .panicked [{ v := .iface 23 (.int .i64 e), recovered := false }] ∧ w' = w := by
  go_enter Tryd.func13, Tryd.ntmps13
  go_wp2_with fail
  exact ⟨rfl, rfl, rfl⟩

/-- What a digit is worth; none: it is none. -/
def digitW (r : Nat) : Nat := if 48 ≤ r ∧ r ≤ 57 then r - 48 else if 97 ≤ r ∧ r ≤ 102 then r - 87 else if 65 ≤ r ∧ r ≤ 70 then r - 55 else 99
set_option maxHeartbeats 1600000 in
theorem digit_yes (r base : Nat) (hr : r ≤ 1114111) (hb : base ≤ 16) (h : digitW r < base) (w : World) :
    Calls Tryd.prog 28 #[.int .i32 r, .int .u32 base] w fun e w' => e = .returned (.int .u32 (digitW r)) ∧ w' = w := by
  unfold digitW at h ⊢
  by_cases c1 : 48 ≤ r ∧ r ≤ 57
  · rw [if_pos c1] at h ⊢
    obtain ⟨a1, a2⟩ := c1
    obtain ⟨m, rfl⟩ : ∃ m, r = m + 48 := ⟨r - 48, by omega⟩
    rw [Nat.add_sub_cancel] at h ⊢
    have hm : ((m + 48 : Nat) : Int) - 48 = (m : Int) := by omega
    go_enter Tryd.func28, Tryd.ntmps28
    go_wp2_with (go_at_call 13; with_reducible refine Calls.mono (need_yes _ _) ?_; rintro e w2 ⟨rfl, hw2⟩; replace hw2 := hw2.symm; subst hw2)
    go_ret
    exact ⟨rfl, rfl⟩
  rw [if_neg c1] at h ⊢
  have n1 : ¬ ((48 : Int) ≤ r ∧ (r : Int) ≤ 57) := by omega
  by_cases c2 : 97 ≤ r ∧ r ≤ 102
  · rw [if_pos c2] at h ⊢
    obtain ⟨a1, a2⟩ := c2
    obtain ⟨m, rfl⟩ : ∃ m, r = m + 97 := ⟨r - 97, by omega⟩
    rw [show m + 97 - 87 = m + 10 from by omega] at h ⊢
    have hd : decide ((m : Int) + 10 < (base : Int)) = true := by simp; omega
    have hm : ((m + 97 : Nat) : Int) - 97 = (m : Int) := by omega
    clear c1 n1
    go_enter Tryd.func28, Tryd.ntmps28
    go_wp2_with (go_at_call 13; with_reducible refine Calls.mono (need_yes _ _) ?_; rintro e w2 ⟨rfl, hw2⟩; replace hw2 := hw2.symm; subst hw2)
    go_ret
    exact ⟨rfl, rfl⟩
  rw [if_neg c2] at h ⊢
  by_cases c3 : 65 ≤ r ∧ r ≤ 70
  · rw [if_pos c3] at h ⊢
    obtain ⟨a1, a2⟩ := c3
    obtain ⟨m, rfl⟩ : ∃ m, r = m + 65 := ⟨r - 65, by omega⟩
    rw [show m + 65 - 55 = m + 10 from by omega] at h ⊢
    have hd : decide ((m : Int) + 10 < (base : Int)) = true := by simp; omega
    have hm : ((m + 65 : Nat) : Int) - 65 = (m : Int) := by omega
    clear c1 c2 n1
    go_enter Tryd.func28, Tryd.ntmps28
    go_wp2_with (go_at_call 13; with_reducible refine Calls.mono (need_yes _ _) ?_; rintro e w2 ⟨rfl, hw2⟩; replace hw2 := hw2.symm; subst hw2)
    go_ret
    exact ⟨rfl, rfl⟩
  · rw [if_neg c3] at h
    omega

def plainG (s : ByteArray) : Nat → Nat → Bool
  | 0, _ => true
  | f + 1, i => if i < s.size then (if 48 ≤ (Utf8.decode s i).1 ∧ (Utf8.decode s i).1 ≤ 57 then plainG s f (i + (Utf8.decode s i).2) else false) else true
def plainF (s : ByteArray) : Bool := if s.size = 0 ∨ 200 < s.size ∨ (byteN s 0 = 48 ∧ s.toList ≠ [48]) then false else plainG s (s.size + 1) 0
theorem str_byte (s : ByteArray) (i : Nat) (h : i < s.size) : s[i].toNat = byteN s i := by
  unfold byteN
  rw [List.getD_eq_getElem?_getD, List.getElem?_eq_getElem (by simpa using h)]
  rfl

set_option maxHeartbeats 800000 in
theorem plain_any (s : ByteArray) (w : World) (hs : s.size ≤ 4611686018427387904) :
    Calls Tryd.prog 8 #[.string s] w fun e w' => e = .returned (.bool (plainF s)) ∧ Below w.heap.size w w' := by
  by_cases h0 : s.size = 0
  · have HF : Hid (plainF s = false) := Lib.hid (by unfold plainF; rw [if_pos (.inl h0)])
    have hl : s.toList = [] := by
      rw [Lib.toList_data]; exact List.eq_nil_of_length_eq_zero (by simpa using h0)
    go_enter Tryd.func8, Tryd.ntmps8
    go_wp2_with fail
    go_ret
    exact ⟨by rw [HF.out]; rfl, Below.refl _ _⟩
  have hl : ¬ s.toList = [] := by
    intro h; apply h0
    rw [Lib.toList_data] at h
    have := congrArg List.length h
    simpa using this
  by_cases h2 : 200 < s.size
  · have HF : Hid (plainF s = false) := Lib.hid (by unfold plainF; rw [if_pos (.inr (.inl h2))])
    go_enter Tryd.func8, Tryd.ntmps8
    go_wp2_with fail
    go_ret
    exact ⟨by rw [HF.out]; rfl, Below.refl _ _⟩
  have hb0 := str_byte s 0 (by omega)
  by_cases c48 : byteN s 0 = 48
  · by_cases hz : s.toList = [48]
    · have HF : Hid (plainF s = plainG s (s.size + 1) 0) := Lib.hid (by unfold plainF; rw [if_neg (by rintro (h | h | h); exact h0 h; exact h2 h; exact h.2 hz)])
      have hz2 : (s.toList == [48]) = true := by simpa using hz
      have hz3 : (s.toList != [48]) = false := by simpa using hz
      rw [c48] at hb0
      go_enter Tryd.func8, Tryd.ntmps8
      go_wp2_with fail
      go_loopw [4] (fun _ wr => ∃ (f pos : Nat), s.size < f + pos ∧ pos ≤ s.size ∧ plainG s (s.size + 1) 0 = plainG s f pos ∧ Below w.heap.size w wr ∧
         wr.heap[w.heap.size]? = some (.stringIter s pos)) (fun _ wr => s.size - wr.iterPos w.heap.size)
      case atStart => exact ⟨s.size + 1, 0, by omega, by omega, rfl, (Below.refl _ _).alloc (Nat.le_refl _) _, iter_at rfl _ _⟩
      case round =>
        obtain ⟨f, pos, hf, hpos, he, hb, hi⟩ := hrel
        obtain ⟨f, rfl⟩ : ∃ g, f = g + 1 := ⟨f - 1, by omega⟩
        have HEE := Lib.hid he; clear he
        have HB := Lib.hid hb; clear hb
        have HI := Lib.hid hi
        by_cases hlt : pos < s.size
        · have hn := Lib.run_next_any_at (P := Tryd.prog) wr w.heap.size s pos 0 hi hlt
          have hst : plainG s (f + 1) pos = if 48 ≤ (Utf8.decode s pos).1 ∧ (Utf8.decode s pos).1 ≤ 57 then plainG s f (pos + (Utf8.decode s pos).2) else false := by rw [plainG, if_pos hlt]
          obtain ⟨n1, n2⟩ := dec_width s pos hlt
          generalize hw1 : wr.iterAt w.heap.size s (pos + (Utf8.decode s pos).2) = w1 at hn
          have HB1 : Hid (Below w.heap.size w w1) := by rw [← hw1]; exact Lib.below_iterAt HB.out (Nat.le_refl _) _ _
          have HI1 : Hid (w1.heap[w.heap.size]? = some (.stringIter s (pos + (Utf8.decode s pos).2))) := by rw [← hw1]; exact Lib.iterAt_heap _ _ _ _ _ hi
          clear hw1 hi
          generalize Utf8.decode s pos = d at *
          obtain ⟨r, n⟩ := d
          simp only at n1 n2 hn hst HI1
          by_cases c1 : 48 ≤ r
          · by_cases c2 : r ≤ 57
            · have HN : Hid (plainG s (s.size + 1) 0 = plainG s f (pos + n)) := Lib.hid (by rw [HEE.out, hst, if_pos ⟨c1, c2⟩])
              clear hst
              go_wp2_with fail
              go_roundw
              case rel => exact ⟨f, pos + n, by omega, by omega, HN.out, HB1.out, HI1.out⟩
              case measure => rw [iterPos_of HI.out, iterPos_of HI1.out]; omega
            · have HN : Hid (plainG s (s.size + 1) 0 = false) := Lib.hid (by rw [HEE.out, hst, if_neg (fun h => c2 h.2)])
              clear hst
              go_wp2_with fail
              go_ret
              exact ⟨by rw [HF.out, HN.out]; rfl, HB1.out⟩
          · have HN : Hid (plainG s (s.size + 1) 0 = false) := Lib.hid (by rw [HEE.out, hst, if_neg (fun h => c1 h.1)])
            clear hst
            go_wp2_with fail
            go_ret
            exact ⟨by rw [HF.out, HN.out]; rfl, HB1.out⟩
        · have hn := Lib.run_next_end_at (P := Tryd.prog) wr w.heap.size s pos 0 hi hlt
          have HN : Hid (plainG s (s.size + 1) 0 = true) := Lib.hid (by rw [HEE.out, plainG, if_neg hlt])
          clear hi
          go_wp2_with fail
          go_ret
          exact ⟨by rw [HF.out, HN.out]; rfl, HB.out⟩
    · have HF : Hid (plainF s = false) := Lib.hid (by unfold plainF; rw [if_pos (.inr (.inr ⟨c48, hz⟩))])
      have hz2 : (s.toList == [48]) = false := by simpa using hz
      have hz3 : (s.toList != [48]) = true := by simpa using hz
      rw [c48] at hb0
      go_enter Tryd.func8, Tryd.ntmps8
      go_wp2_with fail
      go_ret
      exact ⟨by rw [HF.out]; simp [hz2], Below.refl _ _⟩
  · have HF : Hid (plainF s = plainG s (s.size + 1) 0) := Lib.hid (by unfold plainF; rw [if_neg (by rintro (h | h | h); exact h0 h; exact h2 h; exact c48 h.1)])
    have n48 : ((byteN s 0 : Int) == 48) = false := by simp; omega
    have hem : s.toList.isEmpty = false := by simp [hl]
    have hd2 : decide (200 < (s.size : Int)) = false := by simp; omega
    go_enter Tryd.func8, Tryd.ntmps8
    go_wp2_with fail
    go_loopw [4] (fun _ wr => ∃ (f pos : Nat), s.size < f + pos ∧ pos ≤ s.size ∧ plainG s (s.size + 1) 0 = plainG s f pos ∧ Below w.heap.size w wr ∧
       wr.heap[w.heap.size]? = some (.stringIter s pos)) (fun _ wr => s.size - wr.iterPos w.heap.size)
    case atStart => exact ⟨s.size + 1, 0, by omega, by omega, rfl, (Below.refl _ _).alloc (Nat.le_refl _) _, iter_at rfl _ _⟩
    case round =>
      obtain ⟨f, pos, hf, hpos, he, hb, hi⟩ := hrel
      obtain ⟨f, rfl⟩ : ∃ g, f = g + 1 := ⟨f - 1, by omega⟩
      have HEE := Lib.hid he; clear he
      have HB := Lib.hid hb; clear hb
      have HI := Lib.hid hi
      by_cases hlt : pos < s.size
      · have hn := Lib.run_next_any_at (P := Tryd.prog) wr w.heap.size s pos 0 hi hlt
        have hst : plainG s (f + 1) pos = if 48 ≤ (Utf8.decode s pos).1 ∧ (Utf8.decode s pos).1 ≤ 57 then plainG s f (pos + (Utf8.decode s pos).2) else false := by rw [plainG, if_pos hlt]
        obtain ⟨n1, n2⟩ := dec_width s pos hlt
        generalize hw1 : wr.iterAt w.heap.size s (pos + (Utf8.decode s pos).2) = w1 at hn
        have HB1 : Hid (Below w.heap.size w w1) := by rw [← hw1]; exact Lib.below_iterAt HB.out (Nat.le_refl _) _ _
        have HI1 : Hid (w1.heap[w.heap.size]? = some (.stringIter s (pos + (Utf8.decode s pos).2))) := by rw [← hw1]; exact Lib.iterAt_heap _ _ _ _ _ hi
        clear hw1 hi
        generalize Utf8.decode s pos = d at *
        obtain ⟨r, n⟩ := d
        simp only at n1 n2 hn hst HI1
        by_cases c1 : 48 ≤ r
        · by_cases c2 : r ≤ 57
          · have HN : Hid (plainG s (s.size + 1) 0 = plainG s f (pos + n)) := Lib.hid (by rw [HEE.out, hst, if_pos ⟨c1, c2⟩])
            clear hst
            go_wp2_with fail
            go_roundw
            case rel => exact ⟨f, pos + n, by omega, by omega, HN.out, HB1.out, HI1.out⟩
            case measure => rw [iterPos_of HI.out, iterPos_of HI1.out]; omega
          · have HN : Hid (plainG s (s.size + 1) 0 = false) := Lib.hid (by rw [HEE.out, hst, if_neg (fun h => c2 h.2)])
            clear hst
            go_wp2_with fail
            go_ret
            exact ⟨by rw [HF.out, HN.out]; rfl, HB1.out⟩
        · have HN : Hid (plainG s (s.size + 1) 0 = false) := Lib.hid (by rw [HEE.out, hst, if_neg (fun h => c1 h.1)])
          clear hst
          go_wp2_with fail
          go_ret
          exact ⟨by rw [HF.out, HN.out]; rfl, HB1.out⟩
      · have hn := Lib.run_next_end_at (P := Tryd.prog) wr w.heap.size s pos 0 hi hlt
        have HN : Hid (plainG s (s.size + 1) 0 = true) := Lib.hid (by rw [HEE.out, plainG, if_neg hlt])
        clear hi
        go_wp2_with fail
        go_ret
        exact ⟨by rw [HF.out, HN.out]; rfl, HB.out⟩
end Go.Proofs.YtlddbelpbgmljaaDoor
namespace Go.Proofs.YtlddbelpbgmljaaDoor
open Go.RowKit
set_option linter.unusedSimpArgs false
set_option linter.unusedVariables false

set_option maxHeartbeats 1600000 in
theorem digit_no (r base : Nat) (hr : r ≤ 1114111) (hb : base ≤ 16) (h : ¬ digitW r < base) (w : World) :
    Calls Tryd.prog 28 #[.int .i32 r, .int .u32 base] w fun e w' => e = thrown 4 ∧ w' = w := by
  unfold digitW at h
  by_cases c1 : 48 ≤ r ∧ r ≤ 57
  · rw [if_pos c1] at h
    obtain ⟨a1, a2⟩ := c1
    obtain ⟨m, rfl⟩ : ∃ m, r = m + 48 := ⟨r - 48, by omega⟩
    rw [Nat.add_sub_cancel] at h
    have hm : ((m + 48 : Nat) : Int) - 48 = (m : Int) := by omega
    have hd : decide ((m : Int) < (base : Int)) = false := by simp; omega
    go_enter Tryd.func28, Tryd.ntmps28
    go_wp2_with (go_at_call 13; with_reducible refine Calls.mono (need_no _ _) ?_; rintro e w2 ⟨rfl, hw2⟩; replace hw2 := hw2.symm; subst hw2)
    exact ⟨rfl, rfl, rfl⟩
  rw [if_neg c1] at h
  have n1 : ¬ ((48 : Int) ≤ r ∧ (r : Int) ≤ 57) := by omega
  by_cases c2 : 97 ≤ r ∧ r ≤ 102
  · rw [if_pos c2] at h
    obtain ⟨a1, a2⟩ := c2
    obtain ⟨m, rfl⟩ : ∃ m, r = m + 97 := ⟨r - 97, by omega⟩
    rw [show m + 97 - 87 = m + 10 from by omega] at h
    have hd : decide ((m : Int) + 10 < (base : Int)) = false := by simp; omega
    have hm : ((m + 97 : Nat) : Int) - 97 = (m : Int) := by omega
    clear c1 n1
    go_enter Tryd.func28, Tryd.ntmps28
    go_wp2_with (go_at_call 13; with_reducible refine Calls.mono (need_no _ _) ?_; rintro e w2 ⟨rfl, hw2⟩; replace hw2 := hw2.symm; subst hw2)
    exact ⟨rfl, rfl, rfl⟩
  rw [if_neg c2] at h
  by_cases c3 : 65 ≤ r ∧ r ≤ 70
  · rw [if_pos c3] at h
    obtain ⟨a1, a2⟩ := c3
    obtain ⟨m, rfl⟩ : ∃ m, r = m + 65 := ⟨r - 65, by omega⟩
    rw [show m + 65 - 55 = m + 10 from by omega] at h
    have hd : decide ((m : Int) + 10 < (base : Int)) = false := by simp; omega
    have hm : ((m + 65 : Nat) : Int) - 65 = (m : Int) := by omega
    clear c1 c2 n1
    go_enter Tryd.func28, Tryd.ntmps28
    go_wp2_with (go_at_call 13; with_reducible refine Calls.mono (need_no _ _) ?_; rintro e w2 ⟨rfl, hw2⟩; replace hw2 := hw2.symm; subst hw2)
    exact ⟨rfl, rfl, rfl⟩
  · have hbb : decide ((base : Int) < (base : Int)) = false := by simp
    go_enter Tryd.func28, Tryd.ntmps28
    go_wp2_with (go_at_call 13; with_reducible refine Calls.mono (need_no _ _) ?_; rintro e w2 ⟨rfl, hw2⟩; replace hw2 := hw2.symm; subst hw2)
    all_goals exact ⟨rfl, rfl, rfl⟩
end Go.Proofs.YtlddbelpbgmljaaDoor
namespace Go.Proofs.YtlddbelpbgmljaaDoor
open Go.RowKit
set_option linter.unusedSimpArgs false
set_option linter.unusedVariables false

/-- What stands ahead of a number's digits: the base, how many bytes it has; none: what begins so is no number. -/
def splitF (s : ByteArray) : Option (Nat × Nat) :=
  if pre s ⟨#[48, 120]⟩ then some (16, 2)
  else if pre s ⟨#[48, 88]⟩ then some (16, 2)
  else if pre s ⟨#[48, 98]⟩ then some (2, 2)
  else if pre s ⟨#[48, 66]⟩ then some (2, 2)
  else if pre s ⟨#[48, 111]⟩ then some (8, 2)
  else if pre s ⟨#[48, 79]⟩ then some (8, 2)
  else if pre s ⟨#[48]⟩ && !(s.toList == [48]) then some (8, 1)
  else if pre s ⟨#[95]⟩ then none
  else some (10, 0)
theorem pre_size {s p : ByteArray} (h : pre s p = true) : p.size ≤ s.size := by
  unfold pre at h
  simp only [Bool.and_eq_true, decide_eq_true_eq] at h
  exact h.1
theorem ofL0 {s : ByteArray} {l : List UInt8} (h : s.toList = l) : s = ⟨l.toArray⟩ := by
  apply ByteArray.ext
  rw [Lib.toList_data] at h
  apply Array.toList_inj.1
  rw [h]
theorem ext_zero (x : ByteArray) : x.extract 0 x.size = x := by
  apply ByteArray.ext
  apply Array.toList_inj.1
  rw [Lib.extract_data]
  exact List.take_of_length_le (by simp)

set_option maxHeartbeats 6400000 in
theorem split_any (s : ByteArray) (w : World) (hs : s.size ≤ 4611686018427387904) :
    Calls Tryd.prog 26 #[.string s] w fun e w' => (match splitF s with
      | some (b, n) => e = .returned (.tuple #[.int .u32 b, .string (s.extract n s.size)])
      | none => e = thrown 4) ∧ Below w.heap.size w w' := by
  have h0 := hp_any s ⟨#[48, 120]⟩ w (by omega) (by decide)
  have z0 := @pre_size s ⟨#[48, 120]⟩
  have h1 := hp_any s ⟨#[48, 88]⟩ w (by omega) (by decide)
  have z1 := @pre_size s ⟨#[48, 88]⟩
  have h2 := hp_any s ⟨#[48, 98]⟩ w (by omega) (by decide)
  have z2 := @pre_size s ⟨#[48, 98]⟩
  have h3 := hp_any s ⟨#[48, 66]⟩ w (by omega) (by decide)
  have z3 := @pre_size s ⟨#[48, 66]⟩
  have h4 := hp_any s ⟨#[48, 111]⟩ w (by omega) (by decide)
  have z4 := @pre_size s ⟨#[48, 111]⟩
  have h5 := hp_any s ⟨#[48, 79]⟩ w (by omega) (by decide)
  have z5 := @pre_size s ⟨#[48, 79]⟩
  have h6 := hp_any s ⟨#[48]⟩ w (by omega) (by decide)
  have z6 := @pre_size s ⟨#[48]⟩
  have h7 := hp_any s ⟨#[95]⟩ w (by omega) (by decide)
  cases c0 : pre s ⟨#[48, 120]⟩ with
  | true =>
    have hS : splitF s = some (16, 2) := by unfold splitF; simp only [c0, Bool.false_eq_true, if_false, if_true]
    rw [hS]
    rw [c0] at h0
    have hsz : 2 ≤ s.size := z0 c0
    clear z0 z1 z2 z3 z4 z5 z6 h7
    go_enter Tryd.func26, Tryd.ntmps26
    go_wp2_with (first | (go_at_call 40; with_reducible refine Calls.mono h0 ?_; rintro e w2 ⟨rfl, hw2⟩; replace hw2 := hw2.symm; subst hw2))
    first
      | (go_ret2
         exact ⟨rfl, Below.refl _ _⟩)
      | (go_region
         all_goals
           go_wp2_with fail
           go_ret2
           exact ⟨rfl, (Below.refl _ _).drew⟩)
  | false =>
  cases c1 : pre s ⟨#[48, 88]⟩ with
  | true =>
    have hS : splitF s = some (16, 2) := by unfold splitF; simp only [c0, c1, Bool.false_eq_true, if_false, if_true]
    rw [hS]
    rw [c0] at h0
    rw [c1] at h1
    have hsz : 2 ≤ s.size := z1 c1
    clear z0 z1 z2 z3 z4 z5 z6 h7
    go_enter Tryd.func26, Tryd.ntmps26
    go_wp2_with (first | (go_at_call 40; with_reducible refine Calls.mono h0 ?_; rintro e w2 ⟨rfl, hw2⟩; replace hw2 := hw2.symm; subst hw2) | (go_at_call 40; with_reducible refine Calls.mono h1 ?_; rintro e w2 ⟨rfl, hw2⟩; replace hw2 := hw2.symm; subst hw2))
    first
      | (go_ret2
         exact ⟨rfl, Below.refl _ _⟩)
      | (go_region
         all_goals
           go_wp2_with fail
           go_ret2
           exact ⟨rfl, (Below.refl _ _).drew⟩)
  | false =>
  cases c2 : pre s ⟨#[48, 98]⟩ with
  | true =>
    have hS : splitF s = some (2, 2) := by unfold splitF; simp only [c0, c1, c2, Bool.false_eq_true, if_false, if_true]
    rw [hS]
    rw [c0] at h0
    rw [c1] at h1
    rw [c2] at h2
    have hsz : 2 ≤ s.size := z2 c2
    clear z0 z1 z2 z3 z4 z5 z6 h7
    go_enter Tryd.func26, Tryd.ntmps26
    go_wp2_with (first | (go_at_call 40; with_reducible refine Calls.mono h0 ?_; rintro e w2 ⟨rfl, hw2⟩; replace hw2 := hw2.symm; subst hw2) | (go_at_call 40; with_reducible refine Calls.mono h1 ?_; rintro e w2 ⟨rfl, hw2⟩; replace hw2 := hw2.symm; subst hw2) | (go_at_call 40; with_reducible refine Calls.mono h2 ?_; rintro e w2 ⟨rfl, hw2⟩; replace hw2 := hw2.symm; subst hw2))
    first
      | (go_ret2
         exact ⟨rfl, Below.refl _ _⟩)
      | (go_region
         all_goals
           go_wp2_with fail
           go_ret2
           exact ⟨rfl, (Below.refl _ _).drew⟩)
  | false =>
  cases c3 : pre s ⟨#[48, 66]⟩ with
  | true =>
    have hS : splitF s = some (2, 2) := by unfold splitF; simp only [c0, c1, c2, c3, Bool.false_eq_true, if_false, if_true]
    rw [hS]
    rw [c0] at h0
    rw [c1] at h1
    rw [c2] at h2
    rw [c3] at h3
    have hsz : 2 ≤ s.size := z3 c3
    clear z0 z1 z2 z3 z4 z5 z6 h7
    go_enter Tryd.func26, Tryd.ntmps26
    go_wp2_with (first | (go_at_call 40; with_reducible refine Calls.mono h0 ?_; rintro e w2 ⟨rfl, hw2⟩; replace hw2 := hw2.symm; subst hw2) | (go_at_call 40; with_reducible refine Calls.mono h1 ?_; rintro e w2 ⟨rfl, hw2⟩; replace hw2 := hw2.symm; subst hw2) | (go_at_call 40; with_reducible refine Calls.mono h2 ?_; rintro e w2 ⟨rfl, hw2⟩; replace hw2 := hw2.symm; subst hw2) | (go_at_call 40; with_reducible refine Calls.mono h3 ?_; rintro e w2 ⟨rfl, hw2⟩; replace hw2 := hw2.symm; subst hw2))
    first
      | (go_ret2
         exact ⟨rfl, Below.refl _ _⟩)
      | (go_region
         all_goals
           go_wp2_with fail
           go_ret2
           exact ⟨rfl, (Below.refl _ _).drew⟩)
  | false =>
  cases c4 : pre s ⟨#[48, 111]⟩ with
  | true =>
    have hS : splitF s = some (8, 2) := by unfold splitF; simp only [c0, c1, c2, c3, c4, Bool.false_eq_true, if_false, if_true]
    rw [hS]
    rw [c0] at h0
    rw [c1] at h1
    rw [c2] at h2
    rw [c3] at h3
    rw [c4] at h4
    have hsz : 2 ≤ s.size := z4 c4
    clear z0 z1 z2 z3 z4 z5 z6 h7
    go_enter Tryd.func26, Tryd.ntmps26
    go_wp2_with (first | (go_at_call 40; with_reducible refine Calls.mono h0 ?_; rintro e w2 ⟨rfl, hw2⟩; replace hw2 := hw2.symm; subst hw2) | (go_at_call 40; with_reducible refine Calls.mono h1 ?_; rintro e w2 ⟨rfl, hw2⟩; replace hw2 := hw2.symm; subst hw2) | (go_at_call 40; with_reducible refine Calls.mono h2 ?_; rintro e w2 ⟨rfl, hw2⟩; replace hw2 := hw2.symm; subst hw2) | (go_at_call 40; with_reducible refine Calls.mono h3 ?_; rintro e w2 ⟨rfl, hw2⟩; replace hw2 := hw2.symm; subst hw2) | (go_at_call 40; with_reducible refine Calls.mono h4 ?_; rintro e w2 ⟨rfl, hw2⟩; replace hw2 := hw2.symm; subst hw2))
    first
      | (go_ret2
         exact ⟨rfl, Below.refl _ _⟩)
      | (go_region
         all_goals
           go_wp2_with fail
           go_ret2
           exact ⟨rfl, (Below.refl _ _).drew⟩)
  | false =>
  cases c5 : pre s ⟨#[48, 79]⟩ with
  | true =>
    have hS : splitF s = some (8, 2) := by unfold splitF; simp only [c0, c1, c2, c3, c4, c5, Bool.false_eq_true, if_false, if_true]
    rw [hS]
    rw [c0] at h0
    rw [c1] at h1
    rw [c2] at h2
    rw [c3] at h3
    rw [c4] at h4
    rw [c5] at h5
    have hsz : 2 ≤ s.size := z5 c5
    clear z0 z1 z2 z3 z4 z5 z6 h7
    go_enter Tryd.func26, Tryd.ntmps26
    go_wp2_with (first | (go_at_call 40; with_reducible refine Calls.mono h0 ?_; rintro e w2 ⟨rfl, hw2⟩; replace hw2 := hw2.symm; subst hw2) | (go_at_call 40; with_reducible refine Calls.mono h1 ?_; rintro e w2 ⟨rfl, hw2⟩; replace hw2 := hw2.symm; subst hw2) | (go_at_call 40; with_reducible refine Calls.mono h2 ?_; rintro e w2 ⟨rfl, hw2⟩; replace hw2 := hw2.symm; subst hw2) | (go_at_call 40; with_reducible refine Calls.mono h3 ?_; rintro e w2 ⟨rfl, hw2⟩; replace hw2 := hw2.symm; subst hw2) | (go_at_call 40; with_reducible refine Calls.mono h4 ?_; rintro e w2 ⟨rfl, hw2⟩; replace hw2 := hw2.symm; subst hw2) | (go_at_call 40; with_reducible refine Calls.mono h5 ?_; rintro e w2 ⟨rfl, hw2⟩; replace hw2 := hw2.symm; subst hw2))
    first
      | (go_ret2
         exact ⟨rfl, Below.refl _ _⟩)
      | (go_region
         all_goals
           go_wp2_with fail
           go_ret2
           exact ⟨rfl, (Below.refl _ _).drew⟩)
  | false =>
  cases c6 : pre s ⟨#[48]⟩ with
  | true =>
    by_cases hz : s.toList = [48]
    · have c7 : pre s ⟨#[95]⟩ = false := by
        have := ofL0 hz
        rw [this]; decide +kernel
      have hS : splitF s = some (10, 0) := by unfold splitF; rw [hz]; simp only [c0, c1, c2, c3, c4, c5, c6, c7, Bool.false_eq_true, if_false, if_true, beq_self_eq_true, Bool.not_true, Bool.and_false]
      rw [hS]
      rw [c0] at h0
      rw [c1] at h1
      rw [c2] at h2
      rw [c3] at h3
      rw [c4] at h4
      rw [c5] at h5
      rw [c6] at h6
      rw [c7] at h7
      have hz2 : (s.toList != [48]) = false := by simpa using hz
      have hx := ext_zero s
      clear z0 z1 z2 z3 z4 z5 z6
      go_enter Tryd.func26, Tryd.ntmps26
      go_wp2_with (first | (go_at_call 40; with_reducible refine Calls.mono h0 ?_; rintro e w2 ⟨rfl, hw2⟩; replace hw2 := hw2.symm; subst hw2) | (go_at_call 40; with_reducible refine Calls.mono h1 ?_; rintro e w2 ⟨rfl, hw2⟩; replace hw2 := hw2.symm; subst hw2) | (go_at_call 40; with_reducible refine Calls.mono h2 ?_; rintro e w2 ⟨rfl, hw2⟩; replace hw2 := hw2.symm; subst hw2) | (go_at_call 40; with_reducible refine Calls.mono h3 ?_; rintro e w2 ⟨rfl, hw2⟩; replace hw2 := hw2.symm; subst hw2) | (go_at_call 40; with_reducible refine Calls.mono h4 ?_; rintro e w2 ⟨rfl, hw2⟩; replace hw2 := hw2.symm; subst hw2) | (go_at_call 40; with_reducible refine Calls.mono h5 ?_; rintro e w2 ⟨rfl, hw2⟩; replace hw2 := hw2.symm; subst hw2) | (go_at_call 40; with_reducible refine Calls.mono h6 ?_; rintro e w2 ⟨rfl, hw2⟩; replace hw2 := hw2.symm; subst hw2) | (go_at_call 40; with_reducible refine Calls.mono h7 ?_; rintro e w2 ⟨rfl, hw2⟩; replace hw2 := hw2.symm; subst hw2) | (go_at_call 13; with_reducible refine Calls.mono (need_yes _ _) ?_; rintro e w2 ⟨rfl, hw2⟩; replace hw2 := hw2.symm; subst hw2))
      go_ret2
      exact ⟨by rw [hx]; rfl, Below.refl _ _⟩
    · have hS : splitF s = some (8, 1) := by
        have hb : (s.toList == [48]) = false := by simpa using hz
        unfold splitF; simp only [c0, c1, c2, c3, c4, c5, c6, hb, Bool.false_eq_true, if_false, if_true, Bool.not_false, Bool.and_true]
      rw [hS]
      rw [c0] at h0
      rw [c1] at h1
      rw [c2] at h2
      rw [c3] at h3
      rw [c4] at h4
      rw [c5] at h5
      rw [c6] at h6
      have hz2 : (s.toList != [48]) = true := by simpa using hz
      have hz3 : (s.toList == [48]) = false := by simpa using hz
      have hsz : 1 ≤ s.size := z6 c6
      clear z0 z1 z2 z3 z4 z5 z6 h7
      go_enter Tryd.func26, Tryd.ntmps26
      go_wp2_with (first | (go_at_call 40; with_reducible refine Calls.mono h0 ?_; rintro e w2 ⟨rfl, hw2⟩; replace hw2 := hw2.symm; subst hw2) | (go_at_call 40; with_reducible refine Calls.mono h1 ?_; rintro e w2 ⟨rfl, hw2⟩; replace hw2 := hw2.symm; subst hw2) | (go_at_call 40; with_reducible refine Calls.mono h2 ?_; rintro e w2 ⟨rfl, hw2⟩; replace hw2 := hw2.symm; subst hw2) | (go_at_call 40; with_reducible refine Calls.mono h3 ?_; rintro e w2 ⟨rfl, hw2⟩; replace hw2 := hw2.symm; subst hw2) | (go_at_call 40; with_reducible refine Calls.mono h4 ?_; rintro e w2 ⟨rfl, hw2⟩; replace hw2 := hw2.symm; subst hw2) | (go_at_call 40; with_reducible refine Calls.mono h5 ?_; rintro e w2 ⟨rfl, hw2⟩; replace hw2 := hw2.symm; subst hw2) | (go_at_call 40; with_reducible refine Calls.mono h6 ?_; rintro e w2 ⟨rfl, hw2⟩; replace hw2 := hw2.symm; subst hw2))
      first
        | (go_ret2
           exact ⟨rfl, Below.refl _ _⟩)
        | (go_region
           all_goals
             go_wp2_with fail
             go_ret2
             exact ⟨rfl, (Below.refl _ _).drew⟩)
  | false =>
    cases c7 : pre s ⟨#[95]⟩ with
    | true =>
      have hS : splitF s = none := by unfold splitF; simp only [c0, c1, c2, c3, c4, c5, c6, c7, Bool.false_eq_true, if_false, if_true, Bool.false_and]
      rw [hS]
      rw [c0] at h0
      rw [c1] at h1
      rw [c2] at h2
      rw [c3] at h3
      rw [c4] at h4
      rw [c5] at h5
      rw [c6] at h6
      rw [c7] at h7
      clear z0 z1 z2 z3 z4 z5 z6
      go_enter Tryd.func26, Tryd.ntmps26
      go_wp2_with (first | (go_at_call 40; with_reducible refine Calls.mono h0 ?_; rintro e w2 ⟨rfl, hw2⟩; replace hw2 := hw2.symm; subst hw2) | (go_at_call 40; with_reducible refine Calls.mono h1 ?_; rintro e w2 ⟨rfl, hw2⟩; replace hw2 := hw2.symm; subst hw2) | (go_at_call 40; with_reducible refine Calls.mono h2 ?_; rintro e w2 ⟨rfl, hw2⟩; replace hw2 := hw2.symm; subst hw2) | (go_at_call 40; with_reducible refine Calls.mono h3 ?_; rintro e w2 ⟨rfl, hw2⟩; replace hw2 := hw2.symm; subst hw2) | (go_at_call 40; with_reducible refine Calls.mono h4 ?_; rintro e w2 ⟨rfl, hw2⟩; replace hw2 := hw2.symm; subst hw2) | (go_at_call 40; with_reducible refine Calls.mono h5 ?_; rintro e w2 ⟨rfl, hw2⟩; replace hw2 := hw2.symm; subst hw2) | (go_at_call 40; with_reducible refine Calls.mono h6 ?_; rintro e w2 ⟨rfl, hw2⟩; replace hw2 := hw2.symm; subst hw2) | (go_at_call 40; with_reducible refine Calls.mono h7 ?_; rintro e w2 ⟨rfl, hw2⟩; replace hw2 := hw2.symm; subst hw2) | (go_at_call 13; with_reducible refine Calls.mono (need_no _ _) ?_; rintro e w2 ⟨rfl, hw2⟩; replace hw2 := hw2.symm; subst hw2))
      exact ⟨rfl, rfl, Below.refl _ _⟩
    | false =>
      have hS : splitF s = some (10, 0) := by unfold splitF; simp only [c0, c1, c2, c3, c4, c5, c6, c7, Bool.false_eq_true, if_false, if_true, Bool.false_and]
      rw [hS]
      rw [c0] at h0
      rw [c1] at h1
      rw [c2] at h2
      rw [c3] at h3
      rw [c4] at h4
      rw [c5] at h5
      rw [c6] at h6
      rw [c7] at h7
      have hx := ext_zero s
      clear z0 z1 z2 z3 z4 z5 z6
      go_enter Tryd.func26, Tryd.ntmps26
      go_wp2_with (first | (go_at_call 40; with_reducible refine Calls.mono h0 ?_; rintro e w2 ⟨rfl, hw2⟩; replace hw2 := hw2.symm; subst hw2) | (go_at_call 40; with_reducible refine Calls.mono h1 ?_; rintro e w2 ⟨rfl, hw2⟩; replace hw2 := hw2.symm; subst hw2) | (go_at_call 40; with_reducible refine Calls.mono h2 ?_; rintro e w2 ⟨rfl, hw2⟩; replace hw2 := hw2.symm; subst hw2) | (go_at_call 40; with_reducible refine Calls.mono h3 ?_; rintro e w2 ⟨rfl, hw2⟩; replace hw2 := hw2.symm; subst hw2) | (go_at_call 40; with_reducible refine Calls.mono h4 ?_; rintro e w2 ⟨rfl, hw2⟩; replace hw2 := hw2.symm; subst hw2) | (go_at_call 40; with_reducible refine Calls.mono h5 ?_; rintro e w2 ⟨rfl, hw2⟩; replace hw2 := hw2.symm; subst hw2) | (go_at_call 40; with_reducible refine Calls.mono h6 ?_; rintro e w2 ⟨rfl, hw2⟩; replace hw2 := hw2.symm; subst hw2) | (go_at_call 40; with_reducible refine Calls.mono h7 ?_; rintro e w2 ⟨rfl, hw2⟩; replace hw2 := hw2.symm; subst hw2) | (go_at_call 13; with_reducible refine Calls.mono (need_yes _ _) ?_; rintro e w2 ⟨rfl, hw2⟩; replace hw2 := hw2.symm; subst hw2))
      go_ret2
      exact ⟨by rw [hx]; rfl, Below.refl _ _⟩
end Go.Proofs.YtlddbelpbgmljaaDoor
namespace Go.Proofs.YtlddbelpbgmljaaDoor
open Go.RowKit
set_option linter.unusedSimpArgs false
set_option linter.unusedVariables false
set_option linter.unusedSectionVars false

/-! Layer 3: times. -/
def mulF (base : Nat) : List Nat → Nat → List Nat × Nat
  | [], c => ([], c)
  | f :: t, c => ((c + f * base) % 10 :: (mulF base t ((c + f * base) / 10)).1, (mulF base t ((c + f * base) / 10)).2)
def restF : Nat → Nat → List Nat
  | 0, _ => []
  | n + 1, c => if c = 0 then [] else c % 10 :: restF n (c / 10)
/-- Base times a number, and some more: its figures, the lowest first. -/
def timesF (base : Nat) (l : List Nat) (more : Nat) : List Nat := (mulF base l more).1 ++ restF 3 (mulF base l more).2
theorem carry_lt {base c f : Nat} (hc : c < base) (hf : f < 10) : (c + f * base) / 10 < base := by
  have := Nat.mul_le_mul_right base (show f ≤ 9 by omega)
  omega
theorem mulF_len (base : Nat) : ∀ (l : List Nat) (c : Nat), (mulF base l c).1.length = l.length
  | [], c => rfl
  | f :: t, c => by simp [mulF, mulF_len base t]
theorem mulF_lt (base : Nat) : ∀ (l : List Nat) (c : Nat), ∀ x ∈ (mulF base l c).1, x < 10
  | [], c => by simp [mulF]
  | f :: t, c => by
    intro x hx
    simp only [mulF, List.mem_cons] at hx
    rcases hx with rfl | hx
    · omega
    · exact mulF_lt base t _ x hx
theorem mulF_carry {base : Nat} : ∀ (l : List Nat) (c : Nat), (∀ x ∈ l, x < 10) → c < base → (mulF base l c).2 < base
  | [], c, _, h => h
  | f :: t, c, hl, h => mulF_carry t _ (fun x hx => hl x (by simp [hx])) (carry_lt h (hl f (by simp)))
theorem restF_len : ∀ (n c : Nat), (restF n c).length ≤ n
  | 0, c => by simp [restF]
  | n + 1, c => by
    have := restF_len n (c / 10)
    unfold restF
    split <;> simp <;> omega
theorem restF_lt : ∀ (n c : Nat), ∀ x ∈ restF n c, x < 10
  | 0, c => by simp [restF]
  | n + 1, c => by
    intro x hx
    unfold restF at hx
    split at hx
    · simp at hx
    · simp only [List.mem_cons] at hx
      rcases hx with rfl | hx
      · omega
      · exact restF_lt n _ x hx
theorem timesF_lt (base : Nat) (l : List Nat) (m : Nat) : ∀ x ∈ timesF base l m, x < 10 := by
  intro x hx
  rcases List.mem_append.1 hx with h | h
  · exact mulF_lt _ _ _ x h
  · exact restF_lt _ _ x h
theorem timesF_len (base : Nat) (l : List Nat) (m : Nat) : (timesF base l m).length ≤ l.length + 3 := by
  have := restF_len 3 (mulF base l m).2
  simp only [timesF, List.length_append, mulF_len]; omega

/-- Numbers, as bytes' cells. -/
def u8s (l : List Nat) : List Value := l.map fun (x : Nat) => Value.int .u8 (x : Int)
theorem u8s_len (l : List Nat) : (u8s l).length = l.length := by simp [u8s]
theorem u8s_app (a b : List Nat) : u8s (a ++ b) = u8s a ++ u8s b := by simp [u8s]
theorem u8s_mid (a b : List Nat) (f r : Nat) : (u8s (a ++ f :: b)).set a.length (.int .u8 r) = u8s ((a ++ [r]) ++ b) := by
  simp only [u8s, List.map_append, List.map_cons, List.map_nil]
  rw [List.set_append_right _ _ (by simp)]
  simp
theorem u8s_at (a b : List Nat) (f : Nat) : (u8s (a ++ f :: b))[a.length]? = some (.int .u8 (f : Int)) := by
  simp only [u8s, List.map_append, List.map_cons]
  rw [List.getElem?_append_right (by simp)]
  simp
theorem info8 : (Tryd.prog.info? 5).map (fun i => (i.zero, i.size, i.bytes)) = some (some (.int .u8 0), 1, 1) := by kernel_rfl

theorem row_some {w : World} {base e size n : Nat} {v : Value} {xs : List Value} (h : w.ownsRow base e size v n xs) (hx : xs ≠ []) : ∃ g cap, v = .slice (some ⟨g, 0, none⟩) n cap := by
  rcases h.2 with ⟨rfl, h2⟩ | ⟨g, cap, cur, rfl, _⟩
  · subst h2
    exact absurd (List.eq_nil_of_length_eq_zero (by simpa using h.1)) hx
  · exact ⟨_, _, rfl⟩
theorem row_slice {w : World} {base e size n : Nat} {v : Value} {xs : List Value} (h : w.ownsRow base e size v n xs) : ∃ a c, v = .slice a n c := by
  rcases h.2 with ⟨rfl, rfl⟩ | ⟨g, cap, cur, rfl, _⟩
  · exact ⟨_, _, rfl⟩
  · exact ⟨_, _, rfl⟩
end Go.Proofs.YtlddbelpbgmljaaDoor
namespace Go.Proofs.YtlddbelpbgmljaaDoor
open Go.RowKit
set_option linter.unusedSimpArgs false
set_option linter.unusedVariables false
set_option linter.unusedSectionVars false

theorem news1 {w : World} {v : Value} {t : TypeId} : ∀ j u, ([v] : List Value)[j]? = some u → (w.alloc (.cells #[v] t)).cell? ((⟨w.heap.size, 0, none⟩ : Addr).add j) = some u := by
  intro j u hj
  match j, hj with
  | 0, hj =>
    simp at hj; subst hj
    simp [Addr.add]

theorem append8_below {B : Nat} {w w1 w2 : World} {v : Value} {n : Nat} {xs : List Value} {o : Obj} (h : Below B w w1) (hown : w1.ownsRow B 5 1 v n xs) (hB : B ≤ w1.heap.size) (hg : (w1.alloc o).grownBy w2 v.ownBlock) : Below B w w2 := by
  refine (h.alloc (by have := h.size; omega) o).grown hg (by simp; omega) ?_
  intro k hk
  exact (hown.lt k hk).1

set_option maxHeartbeats 3200000 in
theorem times_any (B : Nat) (v : Value) (base more : Nat) (l : List Nat) (w : World) (hv : w.ownsRow B 5 1 v l.length (u8s l)) (hl : ∀ x ∈ l, x < 10) (hb2 : 2 ≤ base) (hb : base ≤ 16) (hm : more < base) (hn : l.length ≤ 100000) (hB : B ≤ w.heap.size) :
    Calls Tryd.prog 27 #[v, .int .u32 base, .int .u32 more] w fun e w' => ∃ v', e = .returned v' ∧ w'.ownsRow B 5 1 v' (timesF base l more).length (u8s (timesF base l more)) ∧ Below B w w' := by
  obtain ⟨i0, hi0, hz0, hz1, hz2⟩ := info_parts info8
  obtain ⟨a, c, rfl⟩ := row_slice hv
  have HV := Lib.hid hv
  clear hv
  go_enter Tryd.func27, Tryd.ntmps27
  go_wp2_with fail
  go_loopw [2, 11] (fun mv iv wr => ∃ (done todo : List Nat) (q : Nat), mv = .int .u32 q ∧ iv = .int .i64 done.length ∧ mulF base l more = (done ++ (mulF base todo q).1, (mulF base todo q).2) ∧ done.length + todo.length = l.length ∧ q < base ∧
      (∀ x ∈ todo, x < 10) ∧ wr.ownsRow B 5 1 (.slice a l.length c) l.length (u8s (done ++ todo)) ∧ Below B w wr) (fun _ iv _ => l.length - (intOf iv).toNat)
  case atStart => exact ⟨[], l, more, rfl, rfl, rfl, by simp, hm, hl, HV.out, Below.refl _ _⟩
  case round =>
    obtain ⟨done, todo, q, rfl, rfl, he, hlen, hq, htodo, hown, hbl⟩ := hrel
    have HE := Lib.hid he
    have HO := Lib.hid hown
    have HBL := Lib.hid hbl
    clear he hown hbl hl
    cases todo with
    | cons f t =>
      simp only [List.length_cons] at hlen
      have hlt : done.length < l.length := by omega
      obtain ⟨g, cap, hs⟩ := row_some HO.out (by simp [u8s])
      simp only [Value.slice.injEq, true_and] at hs
      obtain ⟨rfl, rfl⟩ := hs
      have hf : f < 10 := htodo f (by simp)
      have e0 : wr.cell? ⟨g, done.length, none⟩ = some (.int .u8 (f : Int)) := (HO.out.cellAt done.length (by omega)).trans (u8s_at done t f)
      have e1 : wr.frozen? ⟨g, done.length, none⟩ = false := HO.out.frozenAt _
      obtain ⟨m, hm1⟩ : ∃ m, f * base = m := ⟨_, rfl⟩
      have hm2 : (f : Int) * (base : Int) = (m : Int) := by rw [← hm1, Int.natCast_mul]
      have hm3 : m ≤ 144 := by
        have h1 := Nat.mul_le_mul (show f ≤ 9 by omega) hb
        omega
      have hcl := carry_lt hq hf
      rw [hm1] at hcl
      obtain ⟨p, hp⟩ : ∃ p, q + m = p := ⟨_, rfl⟩
      have hp2 : (q : Int) + (m : Int) = (p : Int) := by omega
      have hp3 : p ≤ 200 := by omega
      have ht1 : (p : Int).tmod 10 = ((p % 10 : Nat) : Int) := by rw [Int.tmod_eq_emod_of_nonneg (by omega)]; omega
      have ht2 : (p : Int).tdiv 10 = ((p / 10 : Nat) : Int) := by rw [Int.tdiv_eq_ediv_of_nonneg (by omega)]; omega
      rw [hp] at hcl
      have HS : Hid (mulF base l more = ((done ++ [p % 10]) ++ (mulF base t (p / 10)).1, (mulF base t (p / 10)).2)) := Lib.hid (by
        rw [HE.out]; simp only [mulF, hm1, hp]; simp)
      have HST := HO.out.stored done.length (.int .u8 ((p % 10 : Nat) : Int))
      rw [u8s_mid] at HST
      have HST := Lib.hid HST
      obtain ⟨r, hr⟩ : ∃ r, p % 10 = r := ⟨_, rfl⟩
      have hr2 : r < 10 := by omega
      obtain ⟨d, hd⟩ : ∃ d, p / 10 = d := ⟨_, rfl⟩
      rw [hr] at ht1 HS HST
      rw [hd] at ht2 HS hcl
      clear hm1 hp
      go_wp2_with fail
      go_roundw
      case rel =>
        refine ⟨done ++ [r], t, d, rfl, by simp, HS.out, by simp; omega, hcl, fun x hx => htodo x (by simp [hx]), HST.out.1, ?_⟩
        refine HBL.out.grown HST.out.2 (by have := HBL.out.size; omega) ?_
        intro k hk
        simp only [Option.some.injEq] at hk
        exact hk ▸ (HO.out.lt _ rfl).1
      case measure => simp [intOf]; omega
    | nil =>
      simp only [List.length_nil, Nat.add_zero] at hlen
      have HQ : Hid (mulF base l more = (done, q)) := Lib.hid (by rw [HE.out]; simp [mulF])
      rw [List.append_nil] at HO
      go_wp2_with fail
      go_loopw [0, 2] (fun v qv wr2 => ∃ (l' : List Nat) (q' n : Nat), qv = .int .u32 q' ∧ timesF base l more = l' ++ restF n q' ∧ q' < 10 ^ n ∧ l'.length + n = l.length + 3 ∧ q' < 16 ∧
        wr2.ownsRow B 5 1 v l'.length (u8s l') ∧ Below B w wr2) (fun _ qv _ => (intOf qv).toNat)
      case atStart => exact ⟨done, q, 3, rfl, by simp [timesF, HQ.out], by omega, by omega, by omega, by rw [hlen]; exact HO.out, HBL.out⟩
      case round =>
        obtain ⟨l', q', n, rfl, ht, hqn, hln, hq16, hown, hbl⟩ := hrel
        have HT := Lib.hid ht
        have HB2 := Lib.hid hbl
        clear ht hbl HQ HE hq HO HBL hlen htodo
        by_cases hq0 : q' = 0
        · subst hq0
          have HR : Hid (timesF base l more = l') := Lib.hid (by rw [HT.out]; cases n <;> simp [restF])
          go_wp2_with fail
          go_ret
          exact ⟨_, rfl, by rw [HR.out]; exact hown, HB2.out⟩
        · obtain ⟨n, rfl⟩ : ∃ m, n = m + 1 := ⟨n - 1, by
            cases n with
            | zero => simp at hqn; omega
            | succ n => simp⟩
          have HR : Hid (timesF base l more = (l' ++ [q' % 10]) ++ restF n (q' / 10)) := Lib.hid (by rw [HT.out, restF, if_neg hq0]; simp)
          have ht1 : (q' : Int).tmod 10 = ((q' % 10 : Nat) : Int) := by rw [Int.tmod_eq_emod_of_nonneg (by omega)]; omega
          have ht2 : (q' : Int).tdiv 10 = ((q' / 10 : Nat) : Int) := by rw [Int.tdiv_eq_ediv_of_nonneg (by omega)]; omega
          have hlt10 : q' / 10 < 10 ^ n := by rw [Nat.pow_succ] at hqn; omega
          clear hqn
          obtain ⟨r, hr⟩ : ∃ r, q' % 10 = r := ⟨_, rfl⟩
          have hr2 : r < 10 := by omega
          obtain ⟨d, hd⟩ : ∃ d, q' / 10 = d := ⟨_, rfl⟩
          have hdq : d < q' := by omega
          rw [hr] at ht1 HR
          rw [hd] at ht2 HR hlt10
          clear hd hr
          have HO := Lib.hid hown
          have HLT := Lib.hid hlt10
          clear hown hlt10
          go_wp2_with (first
            | (at_builtin; refine wpList_append_own _ rfl _ _ 29 rfl B 5 i0 (.int .u8 0) 1 1 Tryd.underlying29 hi0 hz0 hz1 hz2 rfl (by decide) _ _ _ rfl (HO.out.alloc _) ⟨wr.heap.size, 0, none⟩ 1 1 [.int .u8 (r : Int)] rfl rfl news1 ?c2 ?c3 ?c4 ?c5 ?_))
          case c2 => intro u hu; simp at hu; subst hu; rfl
          case c3 => unfold maxLen; omega
          case c4 => omega
          case c5 => have := HB2.out.size; simp; omega
          intro v' w1 hown' hgrow _
          have HO2 : Hid (w1.ownsRow B 5 1 v' (l' ++ [r]).length (u8s (l' ++ [r]))) := Lib.hid (by simpa [u8s] using hown')
          have HB3 : Hid (Below B w w1) := Lib.hid (append8_below HB2.out HO.out (by have := HB2.out.size; omega) hgrow)
          clear hown' hgrow
          go_wp2_with fail
          go_roundw
          case rel => exact ⟨l' ++ [r], d, n, rfl, HR.out, HLT.out, by simp; omega, by omega, HO2.out, HB3.out⟩
          case measure => simp [intOf]; omega
end Go.Proofs.YtlddbelpbgmljaaDoor
namespace Go.Proofs.YtlddbelpbgmljaaDoor
open Go.RowKit
set_option linter.unusedSimpArgs false
set_option linter.unusedVariables false
set_option linter.unusedSectionVars false

/-! Layer 3: slices.Reverse at bytes; decimal. -/
def Turned (xs ys : List Value) (i : Nat) : Prop := ys.length = xs.length ∧ ∀ k, k < xs.length → ys[k]? = if k < i ∨ xs.length - 1 - i < k then xs[xs.length - 1 - k]? else xs[k]?
theorem Turned.start (xs : List Value) : Turned xs xs 0 := ⟨rfl, fun k hk => by rw [if_neg (by omega)]⟩
theorem Turned.stop {xs ys : List Value} {i : Nat} (h : Turned xs ys i) (hi : xs.length ≤ 2 * i + 1) : ys = xs.reverse := by
  apply List.ext_getElem?
  intro k
  by_cases hk : k < xs.length
  · rw [h.2 k hk, List.getElem?_reverse hk]
    split
    · rfl
    · rw [show xs.length - 1 - k = k by omega]
  · rw [List.getElem?_eq_none (by rw [h.1]; omega), List.getElem?_eq_none (by simp; omega)]
theorem Turned.step {xs ys : List Value} {i : Nat} (h : Turned xs ys i) (hi : 2 * i + 1 < xs.length) {u v : Value} (hu : xs[i]? = some u) (hv : xs[xs.length - 1 - i]? = some v) :
    Turned xs ((ys.set i v).set (xs.length - 1 - i) u) (i + 1) ∧ Turned xs ((ys.set (xs.length - 1 - i) u).set i v) (i + 1) := by
  have hc : (ys.set (xs.length - 1 - i) u).set i v = (ys.set i v).set (xs.length - 1 - i) u := by
    rw [List.set_comm]; omega
  rw [hc]
  have : Turned xs ((ys.set i v).set (xs.length - 1 - i) u) (i + 1) := by
    refine ⟨by simp [h.1], fun k hk => ?_⟩
    rw [List.getElem?_set, List.getElem?_set]
    simp only [List.length_set, h.1]
    by_cases h1 : xs.length - 1 - i = k
    · rw [if_pos h1, if_pos (by omega), if_pos (by omega), ← hu]
      congr 1; omega
    · rw [if_neg h1]
      by_cases h2 : i = k
      · rw [if_pos h2, if_pos (by omega), if_pos (by omega), ← hv]
        congr 1; omega
      · rw [if_neg h2, h.2 k hk]
        by_cases h3 : k < i ∨ xs.length - 1 - i < k
        · rw [if_pos h3, if_pos (by omega)]
        · rw [if_neg h3, if_neg (by omega)]
  exact ⟨this, this⟩

theorem stored2 {w : World} {base e n size g cap : Nat} {xs : List Value} (h : w.ownsRow base e size (.slice (some ⟨g, 0, none⟩) n cap) n xs) (i j : Nat) (u v : Value) :
    ((w.setCell ⟨g, i, none⟩ u).setCell ⟨g, j, none⟩ v).ownsRow base e size (.slice (some ⟨g, 0, none⟩) n cap) n ((xs.set i u).set j v) ∧ w.grownBy ((w.setCell ⟨g, i, none⟩ u).setCell ⟨g, j, none⟩ v) (some g) := by
  have h1 := h.stored i u
  have h2 := h1.1.stored j v
  exact ⟨h2.1, ⟨h2.2.os.trans h1.2.os, h2.2.tape.trans h1.2.tape, h2.2.output.trans h1.2.output, Nat.le_trans h1.2.size h2.2.size,
    fun k hk hne => (h2.2.block k (by have := h1.2.size; omega) hne).trans (h1.2.block k hk hne)⟩⟩
theorem row_kept' {w : World} {base e n size : Nat} {v : Value} {xs : List Value} (h : w.ownsRow base e size v n xs) : w.drew.ownsRow base e size v n xs := ⟨h.1, h.2⟩

set_option maxHeartbeats 3200000 in
theorem reverse_any (B : Nat) (v : Value) (xs : List Value) (hx : ∀ x ∈ xs, ∃ n : Int, x = .int .u8 n) (w : World) (hv : w.ownsRow B 5 1 v xs.length xs) (hn : xs.length ≤ 1000000) (hB : B ≤ w.heap.size) :
    Calls Tryd.prog 41 #[v] w fun e w' => e = .returned (.tuple #[]) ∧ w'.ownsRow B 5 1 v xs.length xs.reverse ∧ Below B w w' := by
  obtain ⟨a, c, rfl⟩ := row_slice hv
  have HV := Lib.hid hv
  clear hv
  go_enter Tryd.func41, Tryd.ntmps41
  go_wp2_with fail
  go_loopw [2, 3] (fun iv jv wr => ∃ (i : Nat) (ys : List Value), iv = .int .i64 i ∧ jv = .int .i64 ((xs.length : Int) - 1 - i) ∧ (2 * i ≤ xs.length ∨ i = 0) ∧ Turned xs ys i ∧
      wr.ownsRow B 5 1 (.slice a xs.length c) xs.length ys ∧ Below B w wr) (fun iv _ _ => xs.length - (intOf iv).toNat)
  case atStart => exact ⟨0, xs, rfl, by simp, .inr rfl, Turned.start xs, HV.out, Below.refl _ _⟩
  case round =>
    obtain ⟨i, ys, rfl, rfl, hi, ht, hown, hbl⟩ := hrel
    have HT := Lib.hid ht
    have HO := Lib.hid hown
    have HBL := Lib.hid hbl
    clear ht hown hbl
    by_cases hlt : 2 * i + 1 < xs.length
    · obtain ⟨g, cap, hs⟩ := row_some HO.out (by have := HT.out.1; intro h; subst h; simp at this; omega)
      simp only [Value.slice.injEq, true_and] at hs
      obtain ⟨rfl, rfl⟩ := hs
      obtain ⟨j, hj⟩ : ∃ j, xs.length - 1 - i = j := ⟨_, rfl⟩
      have hj2 : (xs.length : Int) - 1 - i = (j : Int) := by omega
      have hjl : j < xs.length := by omega
      have hij : i < j := by omega
      have hil : i < xs.length := by omega
      have hne : ¬ j = i := by omega
      have hne2 : ¬ i = j := by omega
      obtain ⟨u, hu⟩ : ∃ u : Int, xs[i]? = some (.int .u8 u) := by
        obtain ⟨n, h⟩ := hx xs[i] (List.getElem_mem _)
        exact ⟨n, by rw [List.getElem?_eq_getElem hil, h]⟩
      obtain ⟨v, hv⟩ : ∃ v : Int, xs[j]? = some (.int .u8 v) := by
        obtain ⟨n, h⟩ := hx xs[j] (List.getElem_mem _)
        exact ⟨n, by rw [List.getElem?_eq_getElem hjl, h]⟩
      have hyi : ys[i]? = some (.int .u8 u) := by rw [HT.out.2 i (by omega), if_neg (by omega)]; exact hu
      have hyj : ys[j]? = some (.int .u8 v) := by rw [HT.out.2 j (by omega), if_neg (by omega)]; exact hv
      have e0 : wr.cell? ⟨g, i, none⟩ = some (.int .u8 u) := (HO.out.cellAt i (by omega)).trans hyi
      have e1 : wr.cell? ⟨g, j, none⟩ = some (.int .u8 v) := (HO.out.cellAt j (by omega)).trans hyj
      have f0 : wr.frozen? ⟨g, i, none⟩ = false := HO.out.frozenAt _
      have f1 : wr.frozen? ⟨g, j, none⟩ = false := HO.out.frozenAt _
      have hst := HT.out.step hlt hu (hj ▸ hv)
      rw [hj] at hst
      have HST := Lib.hid hst
      clear hst hyi hyj hu hv
      go_wp2_with fail
      go_region
      all_goals
        go_wp2_with fail
        go_roundw
        case rel =>
          refine ⟨i + 1, _, by go_num, by congr 1; omega, .inl (by omega), HST.out.1, ?_, ?_⟩
          · exact row_kept' (stored2 HO.out i j (.int .u8 v) (.int .u8 u)).1
          · exact (HBL.out.grown (stored2 HO.out i j (.int .u8 v) (.int .u8 u)).2 (by have := HBL.out.size; omega) (fun k hk => (HO.out.lt k hk).1)).drew
        case measure => simp [intOf]; omega
    · go_wp2_with fail
      go_end0
      refine ⟨rfl, ?_, HBL.out⟩
      rw [← HT.out.stop (by omega)]
      exact HO.out

/-- A number's figures, written. -/
def decF (l : List Nat) : ByteArray := if l = [] then ⟨#[48]⟩ else ⟨(l.reverse.map fun d => UInt8.ofNat (48 + d)).toArray⟩
theorem decF_size (l : List Nat) (h : l ≠ []) : (decF l).size = l.length := by
  rw [decF, if_neg h]; simp [ByteArray.size]
theorem decF_byte (l : List Nat) (h : l ≠ []) (hl : ∀ x ∈ l, x < 10) (i : Nat) (hi : i < l.length) : (u8s (l.map (48 + ·))).reverse[i]? = some (.int .u8 (byteN (decF l) i)) := by
  have hg : l.reverse[i]? = some (l.reverse[i]'(by simpa using hi)) := List.getElem?_eq_getElem _
  have hm : l.reverse[i]'(by simpa using hi) < 10 := hl _ (by rw [← List.mem_reverse]; exact List.getElem_mem _)
  rw [decF, if_neg h]
  simp only [u8s, byteN, List.map_map, ← List.map_reverse, List.getElem?_map, hg, Option.map_some, List.getD_eq_getElem?_getD, Option.getD_some, Function.comp]
  congr 2
  generalize l.reverse[i]'(by simpa using hi) = d at hm
  show ((48 + d : Nat) : Int) = ((UInt8.ofNat (48 + d)).toNat : Int)
  rw [UInt8.toNat_ofNat']
  omega
theorem u8s_int (l : List Nat) : ∀ x ∈ u8s l, ∃ n : Int, x = .int .u8 n := by
  intro x hx
  simp only [u8s, List.mem_map] at hx
  obtain ⟨n, _, rfl⟩ := hx
  exact ⟨_, rfl⟩

theorem rev_bsl {w : World} {B : Nat} {a : Option Addr} {c : Nat} {l : List Nat} (h : w.ownsRow B 5 1 (.slice a l.length c) l.length (u8s (l.map (48 + ·))).reverse) (h0 : l ≠ []) (hl : ∀ x ∈ l, x < 10) : BSl w a (decF l) := by
  obtain ⟨g, cap, hs⟩ := row_some h (by simp [u8s, h0])
  simp only [Value.slice.injEq, true_and] at hs
  obtain ⟨rfl, rfl⟩ := hs
  refine .inr ⟨g, 0, rfl, ?_, (h.lt g rfl).2⟩
  intro i hi
  rw [decF_size _ h0] at hi
  rw [Nat.zero_add, h.cellAt i (by omega)]
  exact decF_byte l h0 hl i hi

set_option maxHeartbeats 3200000 in
theorem decimal_any (B : Nat) (v : Value) (l : List Nat) (w : World) (hv : w.ownsRow B 5 1 v l.length (u8s l)) (hl : ∀ x ∈ l, x < 10) (hn : l.length ≤ 100000) (hB : B ≤ w.heap.size) :
    Calls Tryd.prog 29 #[v] w fun e w' => e = .returned (.string (decF l)) ∧ Below B w w' := by
  obtain ⟨a, c, rfl⟩ := row_slice hv
  have HV := Lib.hid hv
  clear hv
  by_cases h0 : l = []
  · subst h0
    go_enter Tryd.func29, Tryd.ntmps29
    go_wp2_with fail
    go_ret
    exact ⟨rfl, Below.refl _ _⟩
  have hl0 : ((l.length : Int) == 0) = false := by simp [h0]
  go_enter Tryd.func29, Tryd.ntmps29
  go_wp2_with fail
  go_loopw [9] (fun iv wr => ∃ (done todo : List Nat), iv = .int .i64 done.length ∧ l = done ++ todo ∧ wr.ownsRow B 5 1 (.slice a l.length c) l.length (u8s (done.map (48 + ·) ++ todo)) ∧ Below B w wr) (fun iv _ => l.length - (intOf iv).toNat)
  case atStart => exact ⟨[], l, rfl, rfl, HV.out, Below.refl _ _⟩
  case round =>
    obtain ⟨done, todo, rfl, he, hown, hbl⟩ := hrel
    have hlen : l.length = done.length + todo.length := by rw [he]; simp
    have HE := Lib.hid he
    have HO := Lib.hid hown
    have HBL := Lib.hid hbl
    clear he hown hbl
    cases todo with
    | cons f t =>
      simp only [List.length_cons] at hlen
      have hlt : done.length < l.length := by omega
      obtain ⟨g, cap, hs⟩ := row_some HO.out (by simp [u8s])
      simp only [Value.slice.injEq, true_and] at hs
      obtain ⟨rfl, rfl⟩ := hs
      have hf : f < 10 := hl f (by rw [HE.out]; simp)
      have e0 : wr.cell? ⟨g, done.length, none⟩ = some (.int .u8 (f : Int)) := (HO.out.cellAt done.length (by omega)).trans (by have := u8s_at (done.map (48 + ·)) t f; simpa using this)
      have e1 : wr.frozen? ⟨g, done.length, none⟩ = false := HO.out.frozenAt _
      have HST := HO.out.stored done.length (.int .u8 ((48 + f : Nat) : Int))
      have hmid := u8s_mid (done.map (48 + ·)) t f (48 + f)
      rw [List.length_map] at hmid
      rw [hmid] at HST
      have HST := Lib.hid HST
      obtain ⟨r, hr⟩ : ∃ r, 48 + f = r := ⟨_, rfl⟩
      have hr2 : (f : Int) + 48 = (r : Int) := by omega
      have hr3 : r < 60 := by omega
      rw [hr] at HST
      have HRR := Lib.hid hr
      clear hr hmid hlen
      go_wp2_with fail
      go_roundw
      case rel =>
        refine ⟨done ++ [f], t, by simp, by rw [HE.out]; simp, by simpa [HRR.out] using HST.out.1, ?_⟩
        exact HBL.out.grown HST.out.2 (by have := HBL.out.size; omega) (fun k hk => (HO.out.lt k hk).1)
      case measure => simp [intOf]; omega
    | nil =>
      simp only [List.length_nil, Nat.add_zero] at hlen
      have hd : done = l := by rw [HE.out]; simp
      subst hd
      rw [List.append_nil] at HO
      have hcall := reverse_any B (.slice a done.length c) (u8s (done.map (48 + ·))) (u8s_int _) wr (by simpa [u8s_len] using HO.out) (by rw [u8s_len]; simpa using (by omega : done.length ≤ 1000000)) (by have := HBL.out.size; omega)
      rw [u8s_len, List.length_map] at hcall
      clear hlen HE
      go_wp2_with (go_at_call 41; with_reducible refine Calls.mono hcall ?_; rintro e w2 ⟨rfl, hown2, hb2⟩
                   have hbs : BSl w2 a (decF done) := rev_bsl hown2 h0 hl
                   have hcv := conv_at hbs c
                   rw [decF_size _ h0] at hcv
                   have HB2 := Lib.hid hb2
                   clear hbs hown2 hb2)
      go_ret
      exact ⟨rfl, HBL.out.trans HB2.out⟩
end Go.Proofs.YtlddbelpbgmljaaDoor
namespace Go.Proofs.YtlddbelpbgmljaaDoor
open Go.RowKit
set_option linter.unusedSimpArgs false
set_option linter.unusedVariables false
set_option linter.unusedSectionVars false

/-! Layer 3: number. -/
theorem dec_max (s : ByteArray) (i : Nat) (h : i < s.size) : (Utf8.decode s i).1 ≤ 1114111 := by
  rw [decode_B s i h]
  have h0 := byteN_lt s i
  have h1 := byteN_lt s (i + 1)
  have h2 := byteN_lt s (i + 2)
  have h3 := byteN_lt s (i + 3)
  generalize byteN s i = b0 at *
  generalize byteN s (i + 1) = b1 at *
  generalize byteN s (i + 2) = b2 at *
  generalize byteN s (i + 3) = b3 at *
  unfold decB
  repeat' split
  all_goals (simp only; omega)
theorem split_base {s : ByteArray} {b n : Nat} (h : splitF s = some (b, n)) : 2 ≤ b ∧ b ≤ 16 ∧ n ≤ 2 := by
  unfold splitF at h
  repeat' split at h
  all_goals (simp only [Option.some.injEq, Prod.mk.injEq, reduceCtorEq] at h; try (obtain ⟨rfl, rfl⟩ := h; omega))
def digF (t : ByteArray) (base : Nat) : Nat → Nat → Nat → List Nat → Option (List Nat)
  | 0, _, _, _ => none
  | f + 1, pos, last, l =>
    if pos < t.size then
      (if (Utf8.decode t pos).1 = 95 then (if last = 95 then none else digF t base f (pos + (Utf8.decode t pos).2) 95 l)
       else if digitW (Utf8.decode t pos).1 < base then digF t base f (pos + (Utf8.decode t pos).2) (Utf8.decode t pos).1 (timesF base l (digitW (Utf8.decode t pos).1))
       else none)
    else if last = 0 ∨ last = 95 then none else some l
/-- What a number's token means; none: it is none. -/
def numR (s : ByteArray) : Option ByteArray :=
  match splitF s with
  | none => none
  | some (b, n) => (digF (s.extract n s.size) b ((s.extract n s.size).size + 1) 0 0 []).map decF
def NumP : Option (List Nat) → Ending → Prop
  | some l, e => e = .returned (.string (decF l))
  | none, e => e = .panicked [{ v := .iface 23 (.int .i64 4), recovered := false }]
theorem row_over {w w' : World} {base e size n : Nat} {v : Value} {xs : List Value} (h : w.ownsRow base e size v n xs) (hb : Below w.heap.size w w') : w'.ownsRow base e size v n xs :=
  h.kept (row := none) ⟨hb.os, hb.tape, hb.output, hb.size, fun k hk _ => hb.block k hk⟩ (by cases v.ownBlock <;> simp)

set_option maxHeartbeats 3200000 in
theorem number_some (s : ByteArray) (b n : Nat) (w : World) (hs : s.size ≤ 10000) (h : splitF s = some (b, n)) :
    Calls Tryd.prog 17 #[.string s] w fun e w' => NumP (digF (s.extract n s.size) b ((s.extract n s.size).size + 1) 0 0 []) e ∧ Below w.heap.size w w' := by
  obtain ⟨hb2, hb16, hn2⟩ := split_base h
  have hsp := split_any s w (by omega)
  rw [h] at hsp
  simp only at hsp
  have hts : (s.extract n s.size).size ≤ 10000 := by simp; omega
  clear h hn2
  generalize s.extract n s.size = t at hsp hts ⊢
  generalize hX : digF t b (t.size + 1) 0 0 [] = X
  have HX := Lib.hid hX
  clear hX
  go_enter Tryd.func17, Tryd.ntmps17
  go_wp2_with (go_at_call 26; with_reducible refine Calls.mono hsp ?_; rintro e w2 ⟨rfl, hb⟩
               have HB := Lib.hid hb
               have hsz := hb.size
               clear hb hsp)
  generalize hit : w2.heap.size = it at *
  go_loopw [5, 6] (fun v lv wr => ∃ (f pos last : Nat) (l : List Nat), lv = .int .i32 last ∧ t.size < f + pos ∧ pos ≤ t.size ∧ X = digF t b f pos last l ∧ l.length ≤ 3 * pos ∧ (∀ x ∈ l, x < 10) ∧ last ≤ 1114111 ∧
      wr.ownsRow (it + 1) 5 1 v l.length (u8s l) ∧ Below w.heap.size w wr ∧ it + 1 ≤ wr.heap.size ∧ wr.heap[it]? = some (.stringIter t pos)) (fun _ _ wr => t.size - wr.iterPos it)
  case atStart =>
    refine ⟨t.size + 1, 0, 0, [], rfl, by omega, by omega, HX.out.symm, by simp, by simp, by omega, ?_, ?_, ?_, ?_⟩
    · exact World.ownsRow_nil _ _ _ _
    · exact HB.out.alloc (by omega) _
    · show it + 1 ≤ (w2.alloc (.stringIter t 0)).heap.size
      simp; omega
    · exact iter_at hit.symm _ _
  case round =>
    obtain ⟨f, pos, last, l, rfl, hf, hpos, he, hll, hl10, hlast, hown, hbl, hsz2, hi⟩ := hrel
    obtain ⟨f, rfl⟩ : ∃ g, f = g + 1 := ⟨f - 1, by omega⟩
    have HE := Lib.hid he
    have HO := Lib.hid hown
    have HBL := Lib.hid hbl
    have HI := Lib.hid hi
    have HL := Lib.hid hl10
    clear he hown hbl hl10
    by_cases hlt : pos < t.size
    · have hn := Lib.run_next_any_at (P := Tryd.prog) wr it t pos 0 hi hlt
      have hst : digF t b (f + 1) pos last l = (if (Utf8.decode t pos).1 = 95 then (if last = 95 then none else digF t b f (pos + (Utf8.decode t pos).2) 95 l)
         else if digitW (Utf8.decode t pos).1 < b then digF t b f (pos + (Utf8.decode t pos).2) (Utf8.decode t pos).1 (timesF b l (digitW (Utf8.decode t pos).1)) else none) := by rw [digF, if_pos hlt]
      obtain ⟨n1, n2⟩ := dec_width t pos hlt
      have n3 := dec_max t pos hlt
      generalize hw1 : wr.iterAt it t (pos + (Utf8.decode t pos).2) = w1 at hn
      have HB1 : Hid (Below w.heap.size w w1) := by rw [← hw1]; exact Lib.below_iterAt HBL.out (by omega) _ _
      have HO1 : Hid (w1.ownsRow (it + 1) 5 1 u5 l.length (u8s l)) := by rw [← hw1]; exact ownsRow_iterAt HO.out (by omega) _ _
      have HI1 : Hid (w1.heap[it]? = some (.stringIter t (pos + (Utf8.decode t pos).2))) := by rw [← hw1]; exact Lib.iterAt_heap _ _ _ _ _ hi
      have hs1 : it + 1 ≤ w1.heap.size := by rw [← hw1, Lib.iterAt_size]; exact hsz2
      clear hw1 hi
      generalize Utf8.decode t pos = d at *
      obtain ⟨r, n⟩ := d
      simp only at n1 n2 n3 hn hst HI1
      by_cases c1 : r = 95
      · subst c1
        by_cases c2 : last = 95
        · subst c2
          have HN : Hid (X = none) := Lib.hid (by rw [HE.out, hst]; simp)
          clear hst
          go_wp2_with (first | (go_at_call 13; with_reducible refine Calls.mono (need_no _ _) ?_; rintro e w2 ⟨rfl, hw2⟩; replace hw2 := hw2.symm; subst hw2))
          refine ⟨rfl, ?_, HB1.out⟩
          rw [HN.out]; rfl
        · have HN : Hid (X = digF t b f (pos + n) 95 l) := Lib.hid (by rw [HE.out, hst]; simp [c2])
          have k1 : ((last : Int) == 95) = false := by simp; omega
          have k2 : ((last : Int) != 95) = true := by simp; omega
          clear hst
          go_wp2_with (first | (go_at_call 13; with_reducible refine Calls.mono (need_yes _ _) ?_; rintro e w2 ⟨rfl, hw2⟩; replace hw2 := hw2.symm; subst hw2))
          go_roundw
          case rel => exact ⟨f, pos + n, 95, l, rfl, by omega, by omega, HN.out, by omega, HL.out, by omega, HO1.out, HB1.out, hs1, HI1.out⟩
          case measure => rw [iterPos_of HI.out, iterPos_of HI1.out]; omega
      · have k1 : ((r : Int) == 95) = false := by simp; omega
        by_cases c2 : digitW r < b
        · have HN : Hid (X = digF t b f (pos + n) r (timesF b l (digitW r))) := Lib.hid (by rw [HE.out, hst, if_neg c1, if_pos c2])
          have hdg := digit_yes r b n3 hb16 c2 w1
          have htm := times_any (it + 1) _ b (digitW r) l w1 HO1.out HL.out hb2 hb16 c2 (by omega) hs1
          have hl2 := timesF_len b l (digitW r)
          have HL2 := Lib.hid (timesF_lt b l (digitW r))
          clear hst
          generalize timesF b l (digitW r) = l2 at *
          generalize digitW r = dw at *
          go_wp2_with (first
            | (go_at_call 28; with_reducible refine Calls.mono hdg ?_; rintro e w2 ⟨rfl, hw2⟩; replace hw2 := hw2.symm; subst hw2; clear hdg)
            | (go_at_call 27; with_reducible refine Calls.mono htm ?_; rintro e w2 ⟨v', rfl, hown2, hbl2⟩
               have HO2 := Lib.hid hown2
               have HB2 := Lib.hid hbl2
               clear hown2 hbl2 htm))
          go_roundw
          case rel => exact ⟨f, pos + n, r, l2, rfl, by omega, by omega, HN.out, by omega, HL2.out, n3, HO2.out, HB1.out.trans (HB2.out.mono (by omega)), by have := HB2.out.size; omega, (HB2.out.block it (by omega)).trans HI1.out⟩
          case measure => rw [iterPos_of HI.out, iterPos_of ((HB2.out.block it (by omega)).trans HI1.out)]; omega
        · have HN : Hid (X = none) := Lib.hid (by rw [HE.out, hst, if_neg c1, if_neg c2])
          have hdg := digit_no r b n3 hb16 c2 w1
          unfold thrown at hdg
          clear hst
          go_wp2_with (first
            | (go_at_call 28; with_reducible refine Calls.mono hdg ?_; rintro e w2 ⟨rfl, hw2⟩; replace hw2 := hw2.symm; subst hw2; clear hdg))
          refine ⟨rfl, ?_, HB1.out⟩
          rw [HN.out]; rfl
    · have hn := Lib.run_next_end_at (P := Tryd.prog) wr it t pos 0 hi hlt
      have hst : digF t b (f + 1) pos last l = if last = 0 ∨ last = 95 then none else some l := by rw [digF, if_neg hlt]
      clear hi
      by_cases c0 : last = 0
      · subst c0
        have HN : Hid (X = none) := Lib.hid (by rw [HE.out, hst]; simp)
        clear hst
        go_wp2_with (first | (go_at_call 13; with_reducible refine Calls.mono (need_no _ _) ?_; rintro e w2 ⟨rfl, hw2⟩; replace hw2 := hw2.symm; subst hw2))
        refine ⟨rfl, ?_, HBL.out⟩
        rw [HN.out]; rfl
      have k0 : ((last : Int) == 0) = false := by simp [c0]
      have k3 : ((last : Int) != 0) = true := by simp; omega
      by_cases c1 : last = 95
      · subst c1
        have HN : Hid (X = none) := Lib.hid (by rw [HE.out, hst]; simp)
        clear hst
        go_wp2_with (first | (go_at_call 13; with_reducible refine Calls.mono (need_no _ _) ?_; rintro e w2 ⟨rfl, hw2⟩; replace hw2 := hw2.symm; subst hw2))
        refine ⟨rfl, ?_, HBL.out⟩
        rw [HN.out]; rfl
      · have k1 : ((last : Int) == 95) = false := by simp; omega
        have k2 : ((last : Int) != 95) = true := by simp; omega
        have HN : Hid (X = some l) := Lib.hid (by rw [HE.out, hst, if_neg (by omega)])
        have hdc := decimal_any (it + 1) _ l wr HO.out HL.out (by omega) hsz2
        clear hst
        go_wp2_with (first
          | (go_at_call 13; with_reducible refine Calls.mono (need_yes _ _) ?_; rintro e w2 ⟨rfl, hw2⟩; replace hw2 := hw2.symm; subst hw2)
          | (go_at_call 29; with_reducible refine Calls.mono hdc ?_; rintro e w2 ⟨rfl, hb2⟩
             have HB2 := Lib.hid hb2
             clear hb2 hdc))
        go_ret
        refine ⟨?_, HBL.out.trans (HB2.out.mono (by omega))⟩
        rw [HN.out]; rfl
end Go.Proofs.YtlddbelpbgmljaaDoor
namespace Go.Proofs.YtlddbelpbgmljaaDoor
open Go.RowKit
set_option linter.unusedSimpArgs false
set_option linter.unusedVariables false
set_option linter.unusedSectionVars false

/-! Layer 3: answer, with its deferred closure. -/
theorem resA {tmps : Array Value} {w : World} {A : Nat} {v0 v1 : Value} (t0 : tmps[2]? = some (.pointer (some ⟨A, 0, none⟩))) (t1 : tmps[3]? = some (.pointer (some ⟨A + 1, 0, none⟩)))
    (c0 : w.cell? ⟨A, 0, none⟩ = some v0) (c1 : w.cell? ⟨A + 1, 0, none⟩ = some v1) :
    (results Tryd.f11 tmps).run Tryd.prog w = .ok (.tuple #[v0, v1]) w := by
  simp [results, Tryd.results11, go_sem, t0, t1, c0, c1]

set_option maxHeartbeats 1600000 in
theorem caught (A : Nat) (va vb : Value) (n : Int) (older : List PanicEntry) (w : World)
    (h0 : ∃ t, w.heap[A]? = some (.cells #[va] t (0, 0))) (h1 : ∃ t, w.heap[A + 1]? = some (.cells #[vb] t (0, 0))) :
    CallsD Tryd.prog 18 #[.pointer (some ⟨A, 0, none⟩), .pointer (some ⟨A + 1, 0, none⟩)] (.panicking ({ v := .iface 23 (.int .i64 n), recovered := false } :: older)) w fun e u' w' =>
      e = .returned (.tuple #[]) ∧ u' = .panicking ({ v := .iface 23 (.int .i64 n), recovered := true } :: older) ∧ w' = ((w.setCell ⟨A, 0, none⟩ (.string ⟨#[]⟩)).setCell ⟨A + 1, 0, none⟩ (.int .i64 4)).setCell ⟨A + 1, 0, none⟩ (.int .i64 n) := by
  refine callsD_of_wpS Tryd.func18 rfl fun c₀ cs hu => ?_
  apply wpS_seq
  apply wpS_region
  simp [wpOpsS, go_sem, recoverD, hu, Tryd.ntmps18, Exit.thenS]
  refine wpS_of_wp ?_
  have hz : #[Value.pointer (some ⟨A, 0, none⟩), .pointer (some ⟨A + 1, 0, none⟩)] ++
          ((Array.replicate 13 undef).setIfInBounds 3 (Value.iface 23 (Value.int IntKind.i64 n))).setIfInBounds 0
            (Value.iface 23 (Value.int IntKind.i64 n)) = #[.pointer (some ⟨A, 0, none⟩), .pointer (some ⟨A + 1, 0, none⟩), .iface 23 (.int .i64 n), undef, undef, .iface 23 (.int .i64 n), undef, undef, undef, undef, undef, undef, undef, undef, undef] := rfl
  rw [hz]
  clear hz
  have hta : ∀ w, (Instr.typeAssert (.iface 23 (.int .i64 n)) 20 23 true).run Tryd.prog w = .ok (.tuple #[.int .i64 n, .bool true]) w := fun _ => by kernel_rfl
  obtain ⟨t0, h0⟩ := h0
  obtain ⟨t1, h1⟩ := h1
  have a0 := cell_of h0 0
  have a1 := cell_of h1 0
  have b0 := free_of h0 0
  have b1 := free_of h1 0
  go_wp2_with fail
  exact ⟨rfl, _, rfl, _, results_none rfl _ _ _, rfl, rfl, rfl⟩

set_option maxHeartbeats 400000 in
theorem idle (a b : Value) (w : World) :
    CallsD Tryd.prog 18 #[a, b] .returning w fun e u' w' => e = .returned (.tuple #[]) ∧ u' = .returning ∧ w' = w := by
  refine callsD_of_wpS Tryd.func18 rfl fun c₀ cs hu => ?_
  apply wpS_seq
  apply wpS_region
  simp [wpOpsS, go_sem, recoverD, hu, Tryd.ntmps18, Exit.thenS]
  refine wpS_of_wp ?_
  have hz : #[a, b] ++ ((Array.replicate 13 undef).setIfInBounds 3 Value.nilIface).setIfInBounds 0 Value.nilIface = #[a, b, .nilIface, undef, undef, .nilIface, undef, undef, undef, undef, undef, undef, undef, undef, undef] := rfl
  rw [hz]
  clear hz
  go_wp2_with fail
  refine ⟨rfl, .returning, ?_, _, results_none rfl _ _ _, rfl, rfl, rfl⟩
  cases c₀
  simp at hu
  subst hu
  rfl
end Go.Proofs.YtlddbelpbgmljaaDoor
namespace Go.Proofs.YtlddbelpbgmljaaDoor
open Go.RowKit
set_option linter.unusedSimpArgs false
set_option linter.unusedVariables false
set_option linter.unusedSectionVars false

/-! Layer 3: answer at a closure that is known by its contract; Number. -/
structure Box2 (A : Nat) (w : World) (v0 v1 : Value) : Prop where
  h0 : w.heap[A]? = some (.cells #[v0] 9)
  h1 : w.heap[A + 1]? = some (.cells #[v1] 23)
def box2 (w : World) : World := (w.alloc (.cells #[.string ⟨#[]⟩] 9)).alloc (.cells #[.int .i64 0] 23)
theorem box2_new (w : World) : Box2 w.heap.size (box2 w) (.string ⟨#[]⟩) (.int .i64 0) ∧ (box2 w).heap.size = w.heap.size + 1 + 1 ∧ Below w.heap.size w (box2 w) := by
  have e1 := heap_alloc_new w (.cells #[.string ⟨#[]⟩] 9)
  have e2 := heap_alloc_new (w.alloc (.cells #[.string ⟨#[]⟩] 9)) (.cells #[.int .i64 0] 23)
  refine ⟨⟨?_, ?_⟩, by simp [box2], ((Below.refl _ _).alloc (Nat.le_refl _) _).alloc (by simp) _⟩
  · unfold box2
    rw [Below.heap_alloc _ _ _ (by simp)]; exact e1
  · unfold box2
    simpa using e2
theorem Box2.below {A B : Nat} {w w' : World} {v0 v1 : Value} (h : Box2 A w v0 v1) (hb : Below B w w') (hB : A + 1 < B) : Box2 A w' v0 v1 :=
  ⟨(hb.block _ (by omega)).trans h.h0, (hb.block _ (by omega)).trans h.h1⟩
theorem Box2.set0 {A : Nat} {w : World} {v0 v1 : Value} (h : Box2 A w v0 v1) (u : Value) : Box2 A (w.setCell ⟨A, 0, none⟩ u) u v1 := by
  refine ⟨by simpa using heap_setCell h.h0 (i := 0) u, ?_⟩
  rw [Below.heap_setCell _ _ _ _ (by simp)]; exact h.h1
theorem Box2.set1 {A : Nat} {w : World} {v0 v1 : Value} (h : Box2 A w v0 v1) (u : Value) : Box2 A (w.setCell ⟨A + 1, 0, none⟩ u) v0 u := by
  refine ⟨?_, by simpa using heap_setCell h.h1 (i := 0) u⟩
  rw [Below.heap_setCell _ _ _ _ (by simp)]; exact h.h0
theorem Box2.res {A : Nat} {w : World} {v0 v1 : Value} (h : Box2 A w v0 v1) {tmps : Array Value} (t0 : tmps[2]? = some (.pointer (some ⟨A, 0, none⟩))) (t1 : tmps[3]? = some (.pointer (some ⟨A + 1, 0, none⟩))) :
    (results Tryd.f11 tmps).run Tryd.prog w = .ok (.tuple #[v0, v1]) w :=
  resA t0 t1 (cell_of h.h0 0) (cell_of h.h1 0)
theorem below_cells {A : Nat} {w0 w : World} (h : Below A w0 w) (k : Nat) (u : Value) : Below A w0 (w.setCell ⟨A + k, 0, none⟩ u) :=
  h.setCell (p := ⟨A + k, 0, none⟩) (by show A ≤ A + k; omega) _

set_option maxHeartbeats 1600000 in
theorem ansN_ok (caps : Array Value) (r : ByteArray) (w : World)
    (h : ∀ w1, Below w.heap.size w w1 → Calls Tryd.prog 16 caps w1 fun e w2 => e = .returned (.string r) ∧ Below w1.heap.size w1 w2) :
    Calls Tryd.prog 11 #[.func (.func 16) #[] caps] w fun e w' => e = .returned (.tuple #[.string r, .int .i64 0]) ∧ Below w.heap.size w w' := by
  have hmf : ∀ (fn : Fn) (first cap : Array Value) (w : World), (Instr.makeFunc fn first cap).run Tryd.prog w = .ok (.func fn first cap) w := fun _ _ _ _ => rfl
  obtain ⟨hx, hz, hbl⟩ := box2_new w
  have hcall := h (box2 w) hbl
  go_enter_defers Tryd.func11, Tryd.ntmps11
  go_wp2_with fail
  change Calls Tryd.prog 16 _ (box2 w) _
  generalize box2 w = w1 at *
  have HBL := Lib.hid hbl
  generalize hA : w.heap.size = A at *
  refine hcall.mono ?_
  rintro e w2 ⟨rfl, hb2⟩
  have hx2 := hx.below hb2 (by omega)
  have HX2 := Lib.hid hx2
  have a0 := cell_of hx2.h0 0
  have a1 := cell_of hx2.h1 0
  have b0 := free_of hx2.h0 0
  have b1 := free_of hx2.h1 0
  have HBB : Hid (Below A w w2) := Lib.hid (HBL.out.trans (hb2.mono (by omega)))
  clear hx2 hx hb2 hbl hcall h
  go_wp2_with fail
  refine leaves_cons (f := 18) (args := #[.pointer (some ⟨A, 0, none⟩), .pointer (some ⟨A + 1, 0, none⟩)]) (by simp) (by simp [go_sem]) ?_
  refine (idle _ _ _).mono ?_
  rintro e u' w'' ⟨rfl, rfl, rfl⟩
  refine ⟨_, ((HX2.out.set0 (.string r)).set1 (.int .i64 0)).res rfl rfl, rfl, ?_⟩
  rw [hA]
  exact below_cells (below_cells HBB.out 0 _) 1 _

set_option maxHeartbeats 1600000 in
theorem ansN_no (caps : Array Value) (n : Int) (w : World)
    (h : ∀ w1, Below w.heap.size w w1 → Calls Tryd.prog 16 caps w1 fun e w2 => e = .panicked [{ v := .iface 23 (.int .i64 n), recovered := false }] ∧ Below w1.heap.size w1 w2) :
    Calls Tryd.prog 11 #[.func (.func 16) #[] caps] w fun e w' => e = .returned (.tuple #[.string ⟨#[]⟩, .int .i64 n]) ∧ Below w.heap.size w w' := by
  have hmf : ∀ (fn : Fn) (first cap : Array Value) (w : World), (Instr.makeFunc fn first cap).run Tryd.prog w = .ok (.func fn first cap) w := fun _ _ _ _ => rfl
  obtain ⟨hx, hz, hbl⟩ := box2_new w
  have hcall := h (box2 w) hbl
  go_enter_defers Tryd.func11, Tryd.ntmps11
  go_wp2_with fail
  change Calls Tryd.prog 16 _ (box2 w) _
  generalize box2 w = w1 at *
  have HBL := Lib.hid hbl
  generalize hA : w.heap.size = A at *
  refine hcall.mono ?_
  rintro e w2 ⟨rfl, hb2⟩
  have hx2 := hx.below hb2 (by omega)
  have HBB : Hid (Below A w w2) := Lib.hid (HBL.out.trans (hb2.mono (by omega)))
  clear hx hb2 hbl hcall h
  go_wp2_with fail
  refine leaves_cons (f := 18) (args := #[.pointer (some ⟨A, 0, none⟩), .pointer (some ⟨A + 1, 0, none⟩)]) (by simp) (by simp [go_sem]) ?_
  refine (caught A _ _ n [] w2 ⟨_, hx2.h0⟩ ⟨_, hx2.h1⟩).mono ?_
  rintro e u' w'' ⟨rfl, rfl, rfl⟩
  refine ⟨_, (((hx2.set0 (.string ⟨#[]⟩)).set1 (.int .i64 4)).set1 (.int .i64 n)).res rfl rfl, rfl, ?_⟩
  rw [hA]
  exact below_cells (below_cells (below_cells HBB.out 0 _) 1 _) 1 _

set_option maxHeartbeats 1600000 in
theorem ansT_ok (caps : Array Value) (r : ByteArray) (w : World)
    (h : ∀ w1, Below w.heap.size w w1 → Calls Tryd.prog 12 caps w1 fun e w2 => e = .returned (.string r) ∧ Below w1.heap.size w1 w2) :
    Calls Tryd.prog 11 #[.func (.func 12) #[] caps] w fun e w' => e = .returned (.tuple #[.string r, .int .i64 0]) ∧ Below w.heap.size w w' := by
  have hmf : ∀ (fn : Fn) (first cap : Array Value) (w : World), (Instr.makeFunc fn first cap).run Tryd.prog w = .ok (.func fn first cap) w := fun _ _ _ _ => rfl
  obtain ⟨hx, hz, hbl⟩ := box2_new w
  have hcall := h (box2 w) hbl
  go_enter_defers Tryd.func11, Tryd.ntmps11
  go_wp2_with fail
  change Calls Tryd.prog 12 _ (box2 w) _
  generalize box2 w = w1 at *
  have HBL := Lib.hid hbl
  generalize hA : w.heap.size = A at *
  refine hcall.mono ?_
  rintro e w2 ⟨rfl, hb2⟩
  have hx2 := hx.below hb2 (by omega)
  have HX2 := Lib.hid hx2
  have a0 := cell_of hx2.h0 0
  have a1 := cell_of hx2.h1 0
  have b0 := free_of hx2.h0 0
  have b1 := free_of hx2.h1 0
  have HBB : Hid (Below A w w2) := Lib.hid (HBL.out.trans (hb2.mono (by omega)))
  clear hx2 hx hb2 hbl hcall h
  go_wp2_with fail
  refine leaves_cons (f := 18) (args := #[.pointer (some ⟨A, 0, none⟩), .pointer (some ⟨A + 1, 0, none⟩)]) (by simp) (by simp [go_sem]) ?_
  refine (idle _ _ _).mono ?_
  rintro e u' w'' ⟨rfl, rfl, rfl⟩
  refine ⟨_, ((HX2.out.set0 (.string r)).set1 (.int .i64 0)).res rfl rfl, rfl, ?_⟩
  rw [hA]
  exact below_cells (below_cells HBB.out 0 _) 1 _

set_option maxHeartbeats 1600000 in
theorem ansT_no (caps : Array Value) (n : Int) (w : World)
    (h : ∀ w1, Below w.heap.size w w1 → Calls Tryd.prog 12 caps w1 fun e w2 => e = .panicked [{ v := .iface 23 (.int .i64 n), recovered := false }] ∧ Below w1.heap.size w1 w2) :
    Calls Tryd.prog 11 #[.func (.func 12) #[] caps] w fun e w' => e = .returned (.tuple #[.string ⟨#[]⟩, .int .i64 n]) ∧ Below w.heap.size w w' := by
  have hmf : ∀ (fn : Fn) (first cap : Array Value) (w : World), (Instr.makeFunc fn first cap).run Tryd.prog w = .ok (.func fn first cap) w := fun _ _ _ _ => rfl
  obtain ⟨hx, hz, hbl⟩ := box2_new w
  have hcall := h (box2 w) hbl
  go_enter_defers Tryd.func11, Tryd.ntmps11
  go_wp2_with fail
  change Calls Tryd.prog 12 _ (box2 w) _
  generalize box2 w = w1 at *
  have HBL := Lib.hid hbl
  generalize hA : w.heap.size = A at *
  refine hcall.mono ?_
  rintro e w2 ⟨rfl, hb2⟩
  have hx2 := hx.below hb2 (by omega)
  have HBB : Hid (Below A w w2) := Lib.hid (HBL.out.trans (hb2.mono (by omega)))
  clear hx hb2 hbl hcall h
  go_wp2_with fail
  refine leaves_cons (f := 18) (args := #[.pointer (some ⟨A, 0, none⟩), .pointer (some ⟨A + 1, 0, none⟩)]) (by simp) (by simp [go_sem]) ?_
  refine (caught A _ _ n [] w2 ⟨_, hx2.h0⟩ ⟨_, hx2.h1⟩).mono ?_
  rintro e u' w'' ⟨rfl, rfl, rfl⟩
  refine ⟨_, (((hx2.set0 (.string ⟨#[]⟩)).set1 (.int .i64 4)).set1 (.int .i64 n)).res rfl rfl, rfl, ?_⟩
  rw [hA]
  exact below_cells (below_cells (below_cells HBB.out 0 _) 1 _) 1 _


theorem number_ok (s r : ByteArray) (w : World) (hs : s.size ≤ 10000) (h : numR s = some r) :
    Calls Tryd.prog 17 #[.string s] w fun e w' => e = .returned (.string r) ∧ Below w.heap.size w w' := by
  unfold numR at h
  split at h
  · simp at h
  · rename_i b n hsp
    refine (number_some s b n w hs hsp).mono ?_
    rintro e w' ⟨he, hb⟩
    cases hd : digF (s.extract n s.size) b ((s.extract n s.size).size + 1) 0 0 [] with
    | none => rw [hd] at h; simp at h
    | some l =>
      rw [hd] at h he
      simp only [Option.map_some, Option.some.injEq] at h
      exact ⟨by rw [← h]; exact he, hb⟩
set_option maxHeartbeats 800000 in
theorem number_none (s : ByteArray) (w : World) (hs : s.size ≤ 10000) (h : splitF s = none) :
    Calls Tryd.prog 17 #[.string s] w fun e w' => e = .panicked [{ v := .iface 23 (.int .i64 4), recovered := false }] ∧ Below w.heap.size w w' := by
  have hsp := split_any s w (by omega)
  rw [h] at hsp
  simp only [thrown] at hsp
  clear h
  go_enter Tryd.func17, Tryd.ntmps17
  go_wp2_with (go_at_call 26; with_reducible refine Calls.mono hsp ?_; rintro e w2 ⟨rfl, hb⟩)
  exact ⟨rfl, rfl, by assumption⟩
theorem number_no (s : ByteArray) (w : World) (hs : s.size ≤ 10000) (h : numR s = none) :
    Calls Tryd.prog 17 #[.string s] w fun e w' => e = .panicked [{ v := .iface 23 (.int .i64 4), recovered := false }] ∧ Below w.heap.size w w' := by
  unfold numR at h
  split at h
  · rename_i hsp
    exact number_none s w hs hsp
  · rename_i b n hsp
    refine (number_some s b n w hs hsp).mono ?_
    rintro e w' ⟨he, hb⟩
    cases hd : digF (s.extract n s.size) b ((s.extract n s.size).size + 1) 0 0 [] with
    | none => rw [hd] at he; exact ⟨he, hb⟩
    | some l => rw [hd] at h; simp at h

def numV (s : ByteArray) : ByteArray := if 200 < s.size then ⟨#[]⟩ else (numR s).getD ⟨#[]⟩
def numE (s : ByteArray) : Int := if 200 < s.size then 12 else if numR s = none then 4 else 0
set_option maxHeartbeats 800000 in
theorem Number1_ok (A : Nat) (s r : ByteArray) (w : World) (hc : w.cell? ⟨A, 0, none⟩ = some (.string s)) (hs : s.size ≤ 200) (h : numR s = some r) :
    Calls Tryd.prog 16 #[.pointer (some ⟨A, 0, none⟩)] w fun e w' => e = .returned (.string r) ∧ Below w.heap.size w w' := by
  have hn := number_ok s r w (by omega) h
  clear h
  have hd : decide ((s.size : Int) ≤ 200) = true := by simp; omega
  go_enter Tryd.func16, Tryd.ntmps16
  go_wp2_with (first
    | (go_at_call 13; with_reducible refine Calls.mono (need_yes _ _) ?_; rintro e w2 ⟨rfl, hw2⟩; replace hw2 := hw2.symm; subst hw2)
    | (go_at_call 17; with_reducible refine Calls.mono hn ?_; rintro e w2 ⟨rfl, hb⟩))
  go_ret
  exact ⟨rfl, by assumption⟩
set_option maxHeartbeats 800000 in
theorem Number1_no (A : Nat) (s : ByteArray) (w : World) (hc : w.cell? ⟨A, 0, none⟩ = some (.string s)) (hs : s.size ≤ 200) (h : numR s = none) :
    Calls Tryd.prog 16 #[.pointer (some ⟨A, 0, none⟩)] w fun e w' => e = .panicked [{ v := .iface 23 (.int .i64 4), recovered := false }] ∧ Below w.heap.size w w' := by
  have hn := number_no s w (by omega) h
  clear h
  have hd : decide ((s.size : Int) ≤ 200) = true := by simp; omega
  go_enter Tryd.func16, Tryd.ntmps16
  go_wp2_with (first
    | (go_at_call 13; with_reducible refine Calls.mono (need_yes _ _) ?_; rintro e w2 ⟨rfl, hw2⟩; replace hw2 := hw2.symm; subst hw2)
    | (go_at_call 17; with_reducible refine Calls.mono hn ?_; rintro e w2 ⟨rfl, hb⟩))
  exact ⟨rfl, rfl, by assumption⟩
set_option maxHeartbeats 800000 in
theorem Number1_long (A : Nat) (s : ByteArray) (w : World) (hc : w.cell? ⟨A, 0, none⟩ = some (.string s)) (hs : 200 < s.size) (hs2 : s.size ≤ 4611686018427387904) :
    Calls Tryd.prog 16 #[.pointer (some ⟨A, 0, none⟩)] w fun e w' => e = .panicked [{ v := .iface 23 (.int .i64 12), recovered := false }] ∧ Below w.heap.size w w' := by
  have hd : decide ((s.size : Int) ≤ 200) = false := by simp; omega
  go_enter Tryd.func16, Tryd.ntmps16
  go_wp2_with (first
    | (go_at_call 13; with_reducible refine Calls.mono (need_no _ _) ?_; rintro e w2 ⟨rfl, hw2⟩; replace hw2 := hw2.symm; subst hw2))
  exact ⟨rfl, rfl, Below.refl _ _⟩
theorem Number_in (A : Nat) (s : ByteArray) (w : World) (hc : w.cell? ⟨A, 0, none⟩ = some (.string s)) (hs2 : s.size ≤ 4611686018427387904) :
    Calls Tryd.prog 11 #[.func (.func 16) #[] #[.pointer (some ⟨A, 0, none⟩)]] w fun e w' => e = .returned (.tuple #[.string (numV s), .int .i64 (numE s)]) ∧ Below w.heap.size w w' := by
  have hlt := World.block_lt_of_cell? _ _ hc
  have hcc : ∀ w1, Below w.heap.size w w1 → w1.cell? ⟨A, 0, none⟩ = some (.string s) := fun w1 hb => (hb.cell hlt).trans hc
  by_cases h1 : 200 < s.size
  · rw [numV, numE, if_pos h1, if_pos h1]
    exact ansN_no _ 12 w fun w1 hb => Number1_long A s w1 (hcc w1 hb) h1 hs2
  · rw [numV, numE, if_neg h1, if_neg h1]
    cases h2 : numR s with
    | none => exact ansN_no _ 4 w fun w1 hb => Number1_no A s w1 (hcc w1 hb) (by omega) h2
    | some r => exact ansN_ok _ r w fun w1 hb => Number1_ok A s r w1 (hcc w1 hb) (by omega) h2
set_option maxHeartbeats 800000 in
theorem Number_any (s : ByteArray) (w : World) (hs2 : s.size ≤ 4611686018427387904) :
    Calls Tryd.prog 9 #[.string s] w fun e w' => e = .returned (.tuple #[.string (numV s), .int .i64 (numE s)]) ∧ Below w.heap.size w w' := by
  have hmf : ∀ (fn : Fn) (first cap : Array Value) (w : World), (Instr.makeFunc fn first cap).run Tryd.prog w = .ok (.func fn first cap) w := fun _ _ _ _ => rfl
  have hin := Number_in w.heap.size s (w.alloc (.cells #[.string s] 9)) (by simp) hs2
  go_enter Tryd.func9, Tryd.ntmps9
  go_wp2_with (go_at_call 11; with_reducible refine Calls.mono hin ?_; rintro e w2 ⟨rfl, hb⟩)
  go_ret2
  exact ⟨rfl, ((Below.refl _ _).alloc (Nat.le_refl _) _).trans (hb.mono (by simp))⟩
end Go.Proofs.YtlddbelpbgmljaaDoor
namespace Go.Proofs.YtlddbelpbgmljaaDoor
open Go.RowKit
set_option linter.unusedSimpArgs false
set_option maxRecDepth 100000
set_option linter.unusedVariables false
set_option linter.unusedSectionVars false

/-! Layer 3: Quote. -/
/-- Numbers as bytes. -/
def bytesOf (l : List Nat) : ByteArray := ⟨(l.map UInt8.ofNat).toArray⟩
theorem bytesOf_size (l : List Nat) : (bytesOf l).size = l.length := by simp [bytesOf, ByteArray.size]
theorem bytesOf_byte (l : List Nat) (hl : ∀ x ∈ l, x < 256) (i : Nat) (hi : i < l.length) : (u8s l)[i]? = some (.int .u8 (byteN (bytesOf l) i)) := by
  have hg : l[i]? = some l[i] := List.getElem?_eq_getElem _
  have hm : l[i] < 256 := hl _ (List.getElem_mem _)
  simp only [u8s, byteN, bytesOf, List.getElem?_map, hg, Option.map_some, List.getD_eq_getElem?_getD, Option.getD_some]
  congr 2
  generalize l[i] = d at hm
  show (d : Int) = ((UInt8.ofNat d).toNat : Int)
  rw [UInt8.toNat_ofNat']
  omega
theorem row_bsl {w : World} {B : Nat} {a : Option Addr} {c : Nat} {l : List Nat} (h : w.ownsRow B 5 1 (.slice a l.length c) l.length (u8s l)) (hl : ∀ x ∈ l, x < 256) : BSl w a (bytesOf l) := by
  by_cases h0 : l = []
  · subst h0; exact .inl rfl
  obtain ⟨g, cap, hs⟩ := row_some h (by simp [u8s, h0])
  simp only [Value.slice.injEq, true_and] at hs
  obtain ⟨rfl, rfl⟩ := hs
  refine .inr ⟨g, 0, rfl, ?_, (h.lt g rfl).2⟩
  intro i hi
  rw [bytesOf_size] at hi
  rw [Nat.zero_add, h.cellAt i (by omega)]
  exact bytesOf_byte l hl i hi
theorem strCells_u8 (s : ByteArray) : Lib.strCells s = u8s (s.data.toList.map UInt8.toNat) := by
  simp [Lib.strCells, u8s]

def hexd (n : Nat) : Nat := if n < 10 then 48 + n else 87 + n
/-- A byte, written plainly. -/
def quoteB (c : Nat) : List Nat :=
  if c = 34 ∨ c = 92 then [92, c] else if c = 10 then [92, 110] else if c = 9 then [92, 116] else if 32 ≤ c ∧ c ≤ 126 then [c] else [92, 120, hexd (c / 16), hexd (c % 16)]
def quoteL (s : ByteArray) (k : Nat) : List Nat := 34 :: (s.data.toList.take k).flatMap fun c => quoteB c.toNat
def quoteF (s : ByteArray) : ByteArray := bytesOf (quoteL s s.size ++ [34])
theorem quoteB_lt (c : Nat) (h : c < 256) : ∀ x ∈ quoteB c, x < 256 := by
  intro x hx
  unfold quoteB hexd at hx
  repeat' split at hx
  all_goals (simp only [List.mem_cons, List.not_mem_nil, or_false] at hx; omega)
theorem quoteB_len (c : Nat) : (quoteB c).length ≤ 4 := by
  unfold quoteB
  repeat' split
  all_goals simp
theorem quoteL_succ (s : ByteArray) (k : Nat) (h : k < s.size) : quoteL s (k + 1) = quoteL s k ++ quoteB (byteN s k) := by
  have hk : k < s.data.toList.length := by simpa using h
  simp only [quoteL, List.take_add_one, List.flatMap_append, List.cons_append, List.cons.injEq, true_and]
  congr 1
  rw [List.getElem?_eq_getElem hk]
  simp only [Option.toList_some, List.flatMap_cons, List.flatMap_nil, List.append_nil, byteN, List.getD_eq_getElem?_getD, List.getElem?_eq_getElem hk, Option.getD_some]
theorem quoteL_lt (s : ByteArray) (k : Nat) : ∀ x ∈ quoteL s k, x < 256 := by
  intro x hx
  simp only [quoteL, List.mem_cons, List.mem_flatMap] at hx
  rcases hx with rfl | ⟨c, _, hx⟩
  · omega
  · exact quoteB_lt _ (UInt8.toNat_lt c) x hx
theorem quoteL_len (s : ByteArray) (k : Nat) : (quoteL s k).length ≤ 1 + 4 * k := by
  have h : ∀ l : List UInt8, (l.flatMap fun c => quoteB c.toNat).length ≤ 4 * l.length := by
    intro l
    induction l with
    | nil => simp
    | cons a l ih => have := quoteB_len a.toNat; simp only [List.flatMap_cons, List.length_append, List.length_cons]; omega
  have := h (s.data.toList.take k)
  simp only [quoteL, List.length_cons, List.length_take] at *
  omega

theorem newsN {w : World} {vs : List Value} {t : TypeId} : ∀ j u, vs[j]? = some u → (w.alloc (.cells vs.toArray t)).cell? ((⟨w.heap.size, 0, none⟩ : Addr).add j) = some u :=
  World.news_of_block (cs := vs.toArray) (heap_alloc_new w _)

theorem hex_all : ∀ a : Fin 16, ((⟨#[48, 49, 50, 51, 52, 53, 54, 55, 56, 57, 97, 98, 99, 100, 101, 102]⟩ : ByteArray)[a.val]'(by have := a.isLt; simp [ByteArray.size])).toNat = hexd a.val := by decide +kernel
theorem and15_all : ∀ c : Fin 256, bits BinOp.and IntKind.u8 (c.val : Int) 15 = ((c.val % 16 : Nat) : Int) := by decide +kernel
theorem hex_at (a : Nat) (h : a < 16) : ∀ h' : a < (⟨#[48, 49, 50, 51, 52, 53, 54, 55, 56, 57, 97, 98, 99, 100, 101, 102]⟩ : ByteArray).size, ((⟨#[48, 49, 50, 51, 52, 53, 54, 55, 56, 57, 97, 98, 99, 100, 101, 102]⟩ : ByteArray)[a]'h').toNat = hexd a := fun _ => hex_all ⟨a, h⟩

set_option maxHeartbeats 6400000 in
theorem quote_any (s : ByteArray) (w : World) (hs : s.size ≤ 100000) :
    Calls Tryd.prog 5 #[.string s] w fun e w' => e = .returned (.string (quoteF s)) ∧ Below w.heap.size w w' := by
  obtain ⟨i0, hi0, hz0, hz1, hz2⟩ := info_parts info8
  go_enter Tryd.func5, Tryd.ntmps5
  go_wp2_with fail
  have hown0 : (w.alloc (.cells #[.int .u8 34] 5)).ownsRow w.heap.size 5 1 (.slice (some ⟨w.heap.size, 0, none⟩) 1 1) 1 [.int .u8 34] := World.ownsRow_lit w #[.int .u8 34] 1 (Nat.le_refl _) (by decide) rfl
  have hb0 : Below w.heap.size w (w.alloc (.cells #[.int .u8 34] 5)) := (Below.refl _ _).alloc (Nat.le_refl _) _
  have hsz0 : w.heap.size ≤ (w.alloc (.cells #[.int .u8 34] 5)).heap.size := hb0.size
  generalize w.alloc (.cells #[.int .u8 34] 5) = w0 at *
  go_loopw [3, 9] (fun v iv wr => ∃ k : Nat, iv = .int .i64 k ∧ k ≤ s.size ∧ wr.ownsRow w.heap.size 5 1 v (quoteL s k).length (u8s (quoteL s k)) ∧ Below w.heap.size w wr) (fun _ iv _ => s.size - (intOf iv).toNat)
  case atStart => exact ⟨0, rfl, by omega, by simpa [quoteL, u8s] using hown0, hb0⟩
  case round =>
    obtain ⟨k, rfl, hk, hown, hbl⟩ := hrel
    have HO := Lib.hid hown
    have HBL := Lib.hid hbl
    have hwr := hbl.size
    clear hown hbl hown0 hb0 hsz0
    have hql := quoteL_len s k
    by_cases hlt : k < s.size
    · have hb := str_byte s k hlt
      have hc := byteN_lt s k
      have HS := Lib.hid (quoteL_succ s k hlt)
      generalize byteN s k = c at *
      by_cases c1 : c = 34
      · subst c1
        have HQ : Hid (quoteB 34 = [92, 34]) := Lib.hid rfl
        go_wp2_with (first
          | (at_builtin; refine wpList_append_own _ rfl _ _ 29 rfl w.heap.size 5 i0 (.int .u8 0) 1 1 Tryd.underlying29 hi0 hz0 hz1 hz2 rfl (by decide) _ _ _ rfl (HO.out.alloc _) ⟨wr.heap.size, 0, none⟩ 2 2 [.int .u8 92, .int .u8 34] rfl rfl newsN ?c2 ?c3 ?c4 ?c5 ?_))
        case c2 => intro u hu; simp at hu; (try rcases hu with rfl | rfl); all_goals (first | rfl | (subst hu; rfl))
        case c3 => unfold maxLen; omega
        case c4 => omega
        case c5 => simp; omega
        intro v' w1 hown' hgrow _
        have HO2 : Hid (w1.ownsRow w.heap.size 5 1 v' (quoteL s (k + 1)).length (u8s (quoteL s (k + 1)))) := Lib.hid (by rw [HS.out, HQ.out]; simpa [u8s] using hown')
        have HB3 : Hid (Below w.heap.size w w1) := Lib.hid (append8_below HBL.out HO.out hwr hgrow)
        clear hown' hgrow
        go_wp2_with fail
        go_roundw
        case rel => exact ⟨k + 1, by go_num, by omega, HO2.out, HB3.out⟩
        case measure => simp [intOf]; omega
      have k1 : ((c : Int) == 34) = false := by simp; omega
      by_cases c2 : c = 92
      · subst c2
        have HQ : Hid (quoteB 92 = [92, 92]) := Lib.hid rfl
        go_wp2_with (first
          | (at_builtin; refine wpList_append_own _ rfl _ _ 29 rfl w.heap.size 5 i0 (.int .u8 0) 1 1 Tryd.underlying29 hi0 hz0 hz1 hz2 rfl (by decide) _ _ _ rfl (HO.out.alloc _) ⟨wr.heap.size, 0, none⟩ 2 2 [.int .u8 92, .int .u8 92] rfl rfl newsN ?c2 ?c3 ?c4 ?c5 ?_))
        case c2 => intro u hu; simp at hu; (try rcases hu with rfl | rfl); all_goals (first | rfl | (subst hu; rfl))
        case c3 => unfold maxLen; omega
        case c4 => omega
        case c5 => simp; omega
        intro v' w1 hown' hgrow _
        have HO2 : Hid (w1.ownsRow w.heap.size 5 1 v' (quoteL s (k + 1)).length (u8s (quoteL s (k + 1)))) := Lib.hid (by rw [HS.out, HQ.out]; simpa [u8s] using hown')
        have HB3 : Hid (Below w.heap.size w w1) := Lib.hid (append8_below HBL.out HO.out hwr hgrow)
        clear hown' hgrow
        go_wp2_with fail
        go_roundw
        case rel => exact ⟨k + 1, by go_num, by omega, HO2.out, HB3.out⟩
        case measure => simp [intOf]; omega
      have k2 : ((c : Int) == 92) = false := by simp; omega
      by_cases c3 : c = 10
      · subst c3
        have HQ : Hid (quoteB 10 = [92, 110]) := Lib.hid rfl
        go_wp2_with (first
          | (at_builtin; refine Lib.wpList_append_own_string _ rfl _ _ 29 9 rfl w.heap.size 5 i0 Tryd.underlying29 Tryd.underlying9 hi0 hz0 hz1 hz2 _ _ _ rfl HO.out ⟨#[92, 110]⟩ rfl ?c3 ?c4 ?c5 ?_))
        case c3 => simp [ByteArray.size]; unfold maxLen; omega
        case c4 => simp [ByteArray.size]; omega
        case c5 => omega
        intro v' w1 hown' hgrow _
        have HO2 : Hid (w1.ownsRow w.heap.size 5 1 v' (quoteL s (k + 1)).length (u8s (quoteL s (k + 1)))) := Lib.hid (by rw [HS.out, HQ.out]; rw [strCells_u8] at hown'; simpa [u8s, ByteArray.size] using hown')
        have HB3 : Hid (Below w.heap.size w w1) := Lib.hid (HBL.out.grown hgrow hwr (fun k hk => (HO.out.lt k hk).1))
        clear hown' hgrow
        go_wp2_with fail
        go_roundw
        case rel => exact ⟨k + 1, by go_num, by omega, HO2.out, HB3.out⟩
        case measure => simp [intOf]; omega
      have k3 : ((c : Int) == 10) = false := by simp; omega
      by_cases c4 : c = 9
      · subst c4
        have HQ : Hid (quoteB 9 = [92, 116]) := Lib.hid rfl
        go_wp2_with (first
          | (at_builtin; refine Lib.wpList_append_own_string _ rfl _ _ 29 9 rfl w.heap.size 5 i0 Tryd.underlying29 Tryd.underlying9 hi0 hz0 hz1 hz2 _ _ _ rfl HO.out ⟨#[92, 116]⟩ rfl ?c3 ?c4 ?c5 ?_))
        case c3 => simp [ByteArray.size]; unfold maxLen; omega
        case c4 => simp [ByteArray.size]; omega
        case c5 => omega
        intro v' w1 hown' hgrow _
        have HO2 : Hid (w1.ownsRow w.heap.size 5 1 v' (quoteL s (k + 1)).length (u8s (quoteL s (k + 1)))) := Lib.hid (by rw [HS.out, HQ.out]; rw [strCells_u8] at hown'; simpa [u8s, ByteArray.size] using hown')
        have HB3 : Hid (Below w.heap.size w w1) := Lib.hid (HBL.out.grown hgrow hwr (fun k hk => (HO.out.lt k hk).1))
        clear hown' hgrow
        go_wp2_with fail
        go_roundw
        case rel => exact ⟨k + 1, by go_num, by omega, HO2.out, HB3.out⟩
        case measure => simp [intOf]; omega
      have k4 : ((c : Int) == 9) = false := by simp; omega
      by_cases c5 : 32 ≤ c
      · by_cases c6 : c ≤ 126
        · have HQ : Hid (quoteB c = [c]) := Lib.hid (by unfold quoteB; rw [if_neg (by omega), if_neg c3, if_neg c4, if_pos ⟨c5, c6⟩])
          go_wp2_with (first
            | (at_builtin; refine wpList_append_own _ rfl _ _ 29 rfl w.heap.size 5 i0 (.int .u8 0) 1 1 Tryd.underlying29 hi0 hz0 hz1 hz2 rfl (by decide) _ _ _ rfl (HO.out.alloc _) ⟨wr.heap.size, 0, none⟩ 1 1 [.int .u8 (c : Int)] rfl rfl newsN ?c2 ?c3 ?c4 ?c5 ?_))
          case c2 => intro u hu; simp at hu; (try rcases hu with rfl | rfl); all_goals (first | rfl | (subst hu; rfl))
          case c3 => unfold maxLen; omega
          case c4 => omega
          case c5 => simp; omega
          intro v' w1 hown' hgrow _
          have HO2 : Hid (w1.ownsRow w.heap.size 5 1 v' (quoteL s (k + 1)).length (u8s (quoteL s (k + 1)))) := Lib.hid (by rw [HS.out, HQ.out]; simpa [u8s] using hown')
          have HB3 : Hid (Below w.heap.size w w1) := Lib.hid (append8_below HBL.out HO.out hwr hgrow)
          clear hown' hgrow
          go_wp2_with fail
          go_roundw
          case rel => exact ⟨k + 1, by go_num, by omega, HO2.out, HB3.out⟩
          case measure => simp [intOf]; omega
        · have HQ : Hid (quoteB c = [92, 120, hexd (c / 16), hexd (c % 16)]) := Lib.hid (by unfold quoteB; rw [if_neg (by omega), if_neg c3, if_neg c4, if_neg (by omega)])
          obtain ⟨d1, hd1⟩ : ∃ d, c / 16 = d := ⟨_, rfl⟩
          obtain ⟨d2, hd2⟩ : ∃ d, c % 16 = d := ⟨_, rfl⟩
          have l1 : d1 < 16 := by omega
          have l2 : d2 < 16 := by omega
          have m1 : (c : Int) / 16 = (d1 : Int) := by omega
          have m2 : bits BinOp.and IntKind.u8 (c : Int) 15 = (d2 : Int) := by rw [← hd2]; exact and15_all ⟨c, hc⟩
          have i1 : (d1 : Int) < 16 := by omega
          have i2 : (d2 : Int) < 16 := by omega
          have x1 := hex_at d1 l1
          have x2 := hex_at d2 l2
          rw [hd1, hd2] at HQ
          clear hd1 hd2
          go_wp2_with fail
          go_region_law (refine step_append_lies _ (by rfl) _ _ _ (by rfl) w.heap.size 5 i0 _ 1 1 Tryd.underlying29 hi0 hz0 hz1 hz2 rfl (by decide) _ _ _ (by rfl) ((row_kept' HO.out).alloc _) ⟨wr.heap.size, 0, none⟩ 4 4 [.int .u8 92, .int .u8 120, .int .u8 (hexd d1 : Int), .int .u8 (hexd d2 : Int)] (by rfl) (by rfl) (newsN (w := wr.drew)) (by simp [Value.oneCell']) (by omega) (by unfold maxLen; omega) (by omega) (by simp; omega) (wr.heap.size + 1) (by simp) ?_; intro gg cap w1 hown' hgrow hat hlt3)
          all_goals
            have HO2 : Hid (w1.ownsRow w.heap.size 5 1 (.slice (some ⟨gg, 0, none⟩) ((quoteL s k).length + 4) cap) (quoteL s (k + 1)).length (u8s (quoteL s (k + 1)))) := Lib.hid (by rw [HS.out, HQ.out]; simpa [u8s] using hown')
            have HB3 : Hid (Below w.heap.size w w1) := Lib.hid (append8_below HBL.out.drew (row_kept' HO.out) hwr hgrow)
            clear hown' hgrow hat x1 x2 m1 m2
            go_wp2_with fail
            go_roundw
            case rel => exact ⟨k + 1, by go_num, by omega, HO2.out, HB3.out⟩
            case measure => simp [intOf]; omega
      · have HQ : Hid (quoteB c = [92, 120, hexd (c / 16), hexd (c % 16)]) := Lib.hid (by unfold quoteB; rw [if_neg (by omega), if_neg c3, if_neg c4, if_neg (by omega)])
        obtain ⟨d1, hd1⟩ : ∃ d, c / 16 = d := ⟨_, rfl⟩
        obtain ⟨d2, hd2⟩ : ∃ d, c % 16 = d := ⟨_, rfl⟩
        have l1 : d1 < 16 := by omega
        have l2 : d2 < 16 := by omega
        have m1 : (c : Int) / 16 = (d1 : Int) := by omega
        have m2 : bits BinOp.and IntKind.u8 (c : Int) 15 = (d2 : Int) := by rw [← hd2]; exact and15_all ⟨c, hc⟩
        have i1 : (d1 : Int) < 16 := by omega
        have i2 : (d2 : Int) < 16 := by omega
        have x1 := hex_at d1 l1
        have x2 := hex_at d2 l2
        rw [hd1, hd2] at HQ
        clear hd1 hd2
        go_wp2_with fail
        go_region_law (refine step_append_lies _ (by rfl) _ _ _ (by rfl) w.heap.size 5 i0 _ 1 1 Tryd.underlying29 hi0 hz0 hz1 hz2 rfl (by decide) _ _ _ (by rfl) ((row_kept' HO.out).alloc _) ⟨wr.heap.size, 0, none⟩ 4 4 [.int .u8 92, .int .u8 120, .int .u8 (hexd d1 : Int), .int .u8 (hexd d2 : Int)] (by rfl) (by rfl) (newsN (w := wr.drew)) (by simp [Value.oneCell']) (by omega) (by unfold maxLen; omega) (by omega) (by simp; omega) (wr.heap.size + 1) (by simp) ?_; intro gg cap w1 hown' hgrow hat hlt3)
        all_goals
          have HO2 : Hid (w1.ownsRow w.heap.size 5 1 (.slice (some ⟨gg, 0, none⟩) ((quoteL s k).length + 4) cap) (quoteL s (k + 1)).length (u8s (quoteL s (k + 1)))) := Lib.hid (by rw [HS.out, HQ.out]; simpa [u8s] using hown')
          have HB3 : Hid (Below w.heap.size w w1) := Lib.hid (append8_below HBL.out.drew (row_kept' HO.out) hwr hgrow)
          clear hown' hgrow hat x1 x2 m1 m2
          go_wp2_with fail
          go_roundw
          case rel => exact ⟨k + 1, by go_num, by omega, HO2.out, HB3.out⟩
          case measure => simp [intOf]; omega
    · obtain rfl : k = s.size := by omega
      go_wp2_with (first
        | (at_builtin; refine wpList_append_own _ rfl _ _ 29 rfl w.heap.size 5 i0 (.int .u8 0) 1 1 Tryd.underlying29 hi0 hz0 hz1 hz2 rfl (by decide) _ _ _ rfl (HO.out.alloc _) ⟨wr.heap.size, 0, none⟩ 1 1 [.int .u8 34] rfl rfl newsN ?c2 ?c3 ?c4 ?c5 ?_))
      case c2 => intro u hu; simp at hu; subst hu; rfl
      case c3 => unfold maxLen; omega
      case c4 => omega
      case c5 => simp; omega
      intro v' w1 hown' hgrow _
      have HO2 : Hid (w1.ownsRow w.heap.size 5 1 v' (quoteL s s.size ++ [34]).length (u8s (quoteL s s.size ++ [34]))) := Lib.hid (by simpa [u8s] using hown')
      have HB3 : Hid (Below w.heap.size w w1) := Lib.hid (append8_below HBL.out HO.out hwr hgrow)
      clear hown' hgrow
      obtain ⟨a, cc, rfl⟩ := row_slice HO2.out
      have hcv := conv_at (row_bsl HO2.out (by intro x hx; rcases List.mem_append.1 hx with h | h; exact quoteL_lt _ _ x h; simp at h; omega)) cc
      rw [bytesOf_size] at hcv
      simp only [List.length_append, List.length_cons, List.length_nil, Nat.zero_add] at hcv
      go_wp2_with fail
      go_ret
      exact ⟨rfl, HB3.out⟩
end Go.Proofs.YtlddbelpbgmljaaDoor
namespace Go.Proofs.YtlddbelpbgmljaaDoor
open Go.RowKit
set_option linter.unusedSimpArgs false
set_option linter.unusedVariables false
set_option linter.unusedSectionVars false

/-! Layer 3: reckon. -/
def reckF (t : ByteArray) (base : Nat) : Nat → Nat → Nat → Option Nat
  | 0, _, _ => none
  | f + 1, pos, v => if pos < t.size then (if digitW (Utf8.decode t pos).1 < base then reckF t base f (pos + (Utf8.decode t pos).2) (v * base + digitW (Utf8.decode t pos).1) else none) else some v
/-- What the first n digits are worth; none: there are not so many. -/
def reckR (s : ByteArray) (n base : Nat) : Option Nat := if s.size < n then none else reckF (s.extract 0 n) base (n + 1) 0 0
def RecP : Option Nat → Ending → Prop
  | some v, e => e = .returned (.int .u32 v)
  | none, e => e = .panicked [{ v := .iface 23 (.int .i64 4), recovered := false }]

theorem step_lt {v base pos d : Nat} (h : v < base ^ pos) (hd : d < base) : v * base + d < base ^ (pos + 1) := by
  rw [Nat.pow_succ]
  have := Nat.mul_le_mul_right base (show v + 1 ≤ base ^ pos by omega)
  rw [Nat.add_mul] at this
  omega

set_option maxHeartbeats 3200000 in
theorem reckon_in (s : ByteArray) (n base : Nat) (w : World) (hs : n ≤ s.size) (hs2 : s.size ≤ 100000000) (hb2 : 2 ≤ base) (hb : base ≤ 16) (hp : base ^ n ≤ 4294967296) :
    Calls Tryd.prog 70 #[.string s, .int .i64 n, .int .u32 base] w fun e w' => RecP (reckF (s.extract 0 n) base (n + 1) 0 0) e ∧ Below w.heap.size w w' := by
  have hd : decide ((n : Int) ≤ (s.size : Int)) = true := by simp; omega
  have hts : (s.extract 0 n).size = n := by simp; omega
  obtain ⟨t, ht⟩ : ∃ t, s.extract 0 n = t := ⟨_, rfl⟩
  generalize hX : reckF (s.extract 0 n) base (n + 1) 0 0 = X
  have HX := Lib.hid hX
  clear hX
  go_enter Tryd.func70, Tryd.ntmps70
  go_wp2_with (first | (go_at_call 13; with_reducible refine Calls.mono (need_yes _ _) ?_; rintro e w2 ⟨rfl, hw2⟩; replace hw2 := hw2.symm; subst hw2))
  rw [ht] at HX hts
  go_loopw [6] (fun v wr => ∃ (f pos x : Nat), v = .int .u32 x ∧ t.size < f + pos ∧ pos ≤ t.size ∧ X = reckF t base f pos x ∧ x < base ^ pos ∧ Below w.heap.size w wr ∧ wr.heap[w.heap.size]? = some (.stringIter t pos)) (fun _ wr => t.size - wr.iterPos w.heap.size)
  case atStart => exact ⟨n + 1, 0, 0, rfl, by omega, by omega, HX.out.symm, by simp, (Below.refl _ _).alloc (Nat.le_refl _) _, iter_at rfl _ _⟩
  case round =>
    obtain ⟨f, pos, x, rfl, hf, hpos, he, hx, hbl, hi⟩ := hrel
    obtain ⟨f, rfl⟩ : ∃ g, f = g + 1 := ⟨f - 1, by omega⟩
    have HE := Lib.hid he
    have HBL := Lib.hid hbl
    have HI := Lib.hid hi
    clear he hbl
    by_cases hlt : pos < t.size
    · have hn := Lib.run_next_any_at (P := Tryd.prog) wr w.heap.size t pos 0 hi hlt
      have hst : reckF t base (f + 1) pos x = (if digitW (Utf8.decode t pos).1 < base then reckF t base f (pos + (Utf8.decode t pos).2) (x * base + digitW (Utf8.decode t pos).1) else none) := by rw [reckF, if_pos hlt]
      obtain ⟨n1, n2⟩ := dec_width t pos hlt
      have n3 := dec_max t pos hlt
      generalize hw1 : wr.iterAt w.heap.size t (pos + (Utf8.decode t pos).2) = w1 at hn
      have HB1 : Hid (Below w.heap.size w w1) := by rw [← hw1]; exact Lib.below_iterAt HBL.out (Nat.le_refl _) _ _
      have HI1 : Hid (w1.heap[w.heap.size]? = some (.stringIter t (pos + (Utf8.decode t pos).2))) := by rw [← hw1]; exact Lib.iterAt_heap _ _ _ _ _ hi
      clear hw1 hi
      generalize Utf8.decode t pos = d at *
      obtain ⟨r, m⟩ := d
      simp only at n1 n2 n3 hn hst HI1
      by_cases c2 : digitW r < base
      · have hdg := digit_yes r base n3 hb c2 w1
        have hlt2 := step_lt hx c2
        have hle1 : base ^ (pos + 1) ≤ base ^ n := Nat.pow_le_pow_right (by omega) (by omega)
        have hle2 : base ^ (pos + 1) ≤ base ^ (pos + m) := Nat.pow_le_pow_right (by omega) (by omega)
        have HN : Hid (X = reckF t base f (pos + m) (x * base + digitW r)) := Lib.hid (by rw [HE.out, hst, if_pos c2])
        have HP : Hid (x * base + digitW r < base ^ (pos + m)) := Lib.hid (by omega)
        have hmx : x * base + digitW r < 4294967296 := by omega
        clear hst hle1 hle2 hlt2 hx hp
        generalize digitW r = dw at *
        obtain ⟨y, hy⟩ : ∃ y, x * base = y := ⟨_, rfl⟩
        have hyI : (x : Int) * (base : Int) = (y : Int) := by rw [← hy, Int.natCast_mul]
        rw [hy] at HN HP hmx
        clear hy
        go_wp2_with (first
          | (go_at_call 28; with_reducible refine Calls.mono hdg ?_; rintro e w2 ⟨rfl, hw2⟩; replace hw2 := hw2.symm; subst hw2; clear hdg))
        go_roundw
        case rel => exact ⟨f, pos + m, y + dw, by go_num, by omega, by omega, HN.out, HP.out, HB1.out, HI1.out⟩
        case measure => rw [iterPos_of HI.out, iterPos_of HI1.out]; omega
      · have HN : Hid (X = none) := Lib.hid (by rw [HE.out, hst, if_neg c2])
        have hdg := digit_no r base n3 hb c2 w1
        unfold thrown at hdg
        clear hst hp hx
        go_wp2_with (first
          | (go_at_call 28; with_reducible refine Calls.mono hdg ?_; rintro e w2 ⟨rfl, hw2⟩; replace hw2 := hw2.symm; subst hw2; clear hdg))
        refine ⟨rfl, ?_, HB1.out⟩
        rw [HN.out]; rfl
    · have hn := Lib.run_next_end_at (P := Tryd.prog) wr w.heap.size t pos 0 hi hlt
      have HN : Hid (X = some x) := Lib.hid (by rw [HE.out, reckF, if_neg hlt])
      clear hi hp hx
      go_wp2_with fail
      go_ret
      refine ⟨?_, HBL.out⟩
      rw [HN.out]; rfl

set_option maxHeartbeats 800000 in
theorem reckon_any (s : ByteArray) (n base : Nat) (w : World) (hs2 : s.size ≤ 100000000) (hn : n ≤ 100) (hb2 : 2 ≤ base) (hb : base ≤ 16) (hp : base ^ n ≤ 4294967296) :
    Calls Tryd.prog 70 #[.string s, .int .i64 n, .int .u32 base] w fun e w' => RecP (reckR s n base) e ∧ Below w.heap.size w w' := by
  by_cases h : s.size < n
  · rw [reckR, if_pos h]
    have hd : decide (n ≤ s.size) = false := by simp; omega
    clear hp
    go_enter Tryd.func70, Tryd.ntmps70
    go_wp2_with (first | (go_at_call 13; with_reducible refine Calls.mono (need_no _ _) ?_; rintro e w2 ⟨rfl, hw2⟩; replace hw2 := hw2.symm; subst hw2))
    exact ⟨rfl, rfl, Below.refl _ _⟩
  · rw [reckR, if_neg h]
    exact reckon_in s n base w (by omega) hs2 hb2 hb hp
end Go.Proofs.YtlddbelpbgmljaaDoor
