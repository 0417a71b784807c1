import Derived.Test.YtgoaakdopbielaaDoorPlO1
namespace Go.Proofs.YtgoaakdopbielaaDoor
open Go.RowKit
set_option linter.unusedSimpArgs false
set_option linter.unusedVariables false
set_option linter.unusedSectionVars false

/-! Layer 3: need, digit, Plain. -/
/-- What a wrong part throws. -/
def thrown (e : Int) : Ending := .panicked [{ v := .iface 22 (.int .i64 e), recovered := false }]
/-- What a digit is worth; none: it is none. -/
def digitW (r : Nat) : Nat := if 48 ≤ r ∧ r ≤ 57 then r - 48 else if 97 ≤ r ∧ r ≤ 102 then r - 87 else if 65 ≤ r ∧ r ≤ 70 then r - 55 else 99
def plainG (s : ByteArray) : Nat → Nat → Bool
  | 0, _ => true
  | f + 1, i => if i < s.size then (if 48 ≤ (Utf8.decode s i).1 ∧ (Utf8.decode s i).1 ≤ 57 then plainG s f (i + (Utf8.decode s i).2) else false) else true
def plainF (s : ByteArray) : Bool := if s.size = 0 ∨ 200 < s.size ∨ (byteN s 0 = 48 ∧ s.toList ≠ [48]) then false else plainG s (s.size + 1) 0
theorem str_byte (s : ByteArray) (i : Nat) (h : i < s.size) : s[i].toNat = byteN s i := by
  unfold byteN
  rw [List.getD_eq_getElem?_getD, List.getElem?_eq_getElem (by simpa using h)]
  rfl

set_option maxHeartbeats 800000 in
theorem plain_any (s : ByteArray) (w : World) (hs : s.size ≤ 4611686018427387904) :
    Calls Tryd.prog 42 #[.string s] w fun e w' => e = .returned (.bool (plainF s)) ∧ Below w.heap.size w w' := by
  by_cases h0 : s.size = 0
  · have HF : Hid (plainF s = false) := Lib.hid (by unfold plainF; rw [if_pos (.inl h0)])
    have hl : s.toList = [] := by
      rw [Lib.toList_data]; exact List.eq_nil_of_length_eq_zero (by simpa using h0)
    go_enter Tryd.func42, Tryd.ntmps42
    go_wp2_with fail
    go_ret
    exact ⟨by rw [HF.out]; rfl, Below.refl _ _⟩
  have hl : ¬ s.toList = [] := by
    intro h; apply h0
    rw [Lib.toList_data] at h
    have := congrArg List.length h
    simpa using this
  by_cases h2 : 200 < s.size
  · have HF : Hid (plainF s = false) := Lib.hid (by unfold plainF; rw [if_pos (.inr (.inl h2))])
    go_enter Tryd.func42, Tryd.ntmps42
    go_wp2_with fail
    go_ret
    exact ⟨by rw [HF.out]; rfl, Below.refl _ _⟩
  have hb0 := str_byte s 0 (by omega)
  by_cases c48 : byteN s 0 = 48
  · by_cases hz : s.toList = [48]
    · have HF : Hid (plainF s = plainG s (s.size + 1) 0) := Lib.hid (by unfold plainF; rw [if_neg (by rintro (h | h | h); exact h0 h; exact h2 h; exact h.2 hz)])
      have hz2 : (s.toList == [48]) = true := by simpa using hz
      have hz3 : (s.toList != [48]) = false := by simpa using hz
      rw [c48] at hb0
      go_enter Tryd.func42, Tryd.ntmps42
      go_wp2_with fail
      go_loopw [4] (fun _ wr => ∃ (f pos : Nat), s.size < f + pos ∧ pos ≤ s.size ∧ plainG s (s.size + 1) 0 = plainG s f pos ∧ Below w.heap.size w wr ∧
         wr.heap[w.heap.size]? = some (.stringIter s pos)) (fun _ wr => s.size - wr.iterPos w.heap.size)
      case atStart => exact ⟨s.size + 1, 0, by omega, by omega, rfl, (Below.refl _ _).alloc (Nat.le_refl _) _, iter_at rfl _ _⟩
      case round =>
        obtain ⟨f, pos, hf, hpos, he, hb, hi⟩ := hrel
        obtain ⟨f, rfl⟩ : ∃ g, f = g + 1 := ⟨f - 1, by omega⟩
        have HEE := Lib.hid he; clear he
        have HB := Lib.hid hb; clear hb
        have HI := Lib.hid hi
        by_cases hlt : pos < s.size
        · have hn := Lib.run_next_any_at (P := Tryd.prog) wr w.heap.size s pos 0 hi hlt
          have hst : plainG s (f + 1) pos = if 48 ≤ (Utf8.decode s pos).1 ∧ (Utf8.decode s pos).1 ≤ 57 then plainG s f (pos + (Utf8.decode s pos).2) else false := by rw [plainG, if_pos hlt]
          obtain ⟨n1, n2⟩ := dec_width s pos hlt
          generalize hw1 : wr.iterAt w.heap.size s (pos + (Utf8.decode s pos).2) = w1 at hn
          have HB1 : Hid (Below w.heap.size w w1) := by rw [← hw1]; exact Lib.below_iterAt HB.out (Nat.le_refl _) _ _
          have HI1 : Hid (w1.heap[w.heap.size]? = some (.stringIter s (pos + (Utf8.decode s pos).2))) := by rw [← hw1]; exact Lib.iterAt_heap _ _ _ _ _ hi
          clear hw1 hi
          generalize Utf8.decode s pos = d at *
          obtain ⟨r, n⟩ := d
          simp only at n1 n2 hn hst HI1
          by_cases c1 : 48 ≤ r
          · by_cases c2 : r ≤ 57
            · have HN : Hid (plainG s (s.size + 1) 0 = plainG s f (pos + n)) := Lib.hid (by rw [HEE.out, hst, if_pos ⟨c1, c2⟩])
              clear hst
              go_wp2_with fail
              go_roundw
              case rel => exact ⟨f, pos + n, by omega, by omega, HN.out, HB1.out, HI1.out⟩
              case measure => rw [iterPos_of HI.out, iterPos_of HI1.out]; omega
            · have HN : Hid (plainG s (s.size + 1) 0 = false) := Lib.hid (by rw [HEE.out, hst, if_neg (fun h => c2 h.2)])
              clear hst
              go_wp2_with fail
              go_ret
              exact ⟨by rw [HF.out, HN.out]; rfl, HB1.out⟩
          · have HN : Hid (plainG s (s.size + 1) 0 = false) := Lib.hid (by rw [HEE.out, hst, if_neg (fun h => c1 h.1)])
            clear hst
            go_wp2_with fail
            go_ret
            exact ⟨by rw [HF.out, HN.out]; rfl, HB1.out⟩
        · have hn := Lib.run_next_end_at (P := Tryd.prog) wr w.heap.size s pos 0 hi hlt
          have HN : Hid (plainG s (s.size + 1) 0 = true) := Lib.hid (by rw [HEE.out, plainG, if_neg hlt])
          clear hi
          go_wp2_with fail
          go_ret
          exact ⟨by rw [HF.out, HN.out]; rfl, HB.out⟩
    · have HF : Hid (plainF s = false) := Lib.hid (by unfold plainF; rw [if_pos (.inr (.inr ⟨c48, hz⟩))])
      have hz2 : (s.toList == [48]) = false := by simpa using hz
      have hz3 : (s.toList != [48]) = true := by simpa using hz
      rw [c48] at hb0
      go_enter Tryd.func42, Tryd.ntmps42
      go_wp2_with fail
      go_ret
      exact ⟨by rw [HF.out]; simp [hz2], Below.refl _ _⟩
  · have HF : Hid (plainF s = plainG s (s.size + 1) 0) := Lib.hid (by unfold plainF; rw [if_neg (by rintro (h | h | h); exact h0 h; exact h2 h; exact c48 h.1)])
    have n48 : ((byteN s 0 : Int) == 48) = false := by simp; omega
    have hem : s.toList.isEmpty = false := by simp [hl]
    have hd2 : decide (200 < (s.size : Int)) = false := by simp; omega
    go_enter Tryd.func42, Tryd.ntmps42
    go_wp2_with fail
    go_loopw [4] (fun _ wr => ∃ (f pos : Nat), s.size < f + pos ∧ pos ≤ s.size ∧ plainG s (s.size + 1) 0 = plainG s f pos ∧ Below w.heap.size w wr ∧
       wr.heap[w.heap.size]? = some (.stringIter s pos)) (fun _ wr => s.size - wr.iterPos w.heap.size)
    case atStart => exact ⟨s.size + 1, 0, by omega, by omega, rfl, (Below.refl _ _).alloc (Nat.le_refl _) _, iter_at rfl _ _⟩
    case round =>
      obtain ⟨f, pos, hf, hpos, he, hb, hi⟩ := hrel
      obtain ⟨f, rfl⟩ : ∃ g, f = g + 1 := ⟨f - 1, by omega⟩
      have HEE := Lib.hid he; clear he
      have HB := Lib.hid hb; clear hb
      have HI := Lib.hid hi
      by_cases hlt : pos < s.size
      · have hn := Lib.run_next_any_at (P := Tryd.prog) wr w.heap.size s pos 0 hi hlt
        have hst : plainG s (f + 1) pos = if 48 ≤ (Utf8.decode s pos).1 ∧ (Utf8.decode s pos).1 ≤ 57 then plainG s f (pos + (Utf8.decode s pos).2) else false := by rw [plainG, if_pos hlt]
        obtain ⟨n1, n2⟩ := dec_width s pos hlt
        generalize hw1 : wr.iterAt w.heap.size s (pos + (Utf8.decode s pos).2) = w1 at hn
        have HB1 : Hid (Below w.heap.size w w1) := by rw [← hw1]; exact Lib.below_iterAt HB.out (Nat.le_refl _) _ _
        have HI1 : Hid (w1.heap[w.heap.size]? = some (.stringIter s (pos + (Utf8.decode s pos).2))) := by rw [← hw1]; exact Lib.iterAt_heap _ _ _ _ _ hi
        clear hw1 hi
        generalize Utf8.decode s pos = d at *
        obtain ⟨r, n⟩ := d
        simp only at n1 n2 hn hst HI1
        by_cases c1 : 48 ≤ r
        · by_cases c2 : r ≤ 57
          · have HN : Hid (plainG s (s.size + 1) 0 = plainG s f (pos + n)) := Lib.hid (by rw [HEE.out, hst, if_pos ⟨c1, c2⟩])
            clear hst
            go_wp2_with fail
            go_roundw
            case rel => exact ⟨f, pos + n, by omega, by omega, HN.out, HB1.out, HI1.out⟩
            case measure => rw [iterPos_of HI.out, iterPos_of HI1.out]; omega
          · have HN : Hid (plainG s (s.size + 1) 0 = false) := Lib.hid (by rw [HEE.out, hst, if_neg (fun h => c2 h.2)])
            clear hst
            go_wp2_with fail
            go_ret
            exact ⟨by rw [HF.out, HN.out]; rfl, HB1.out⟩
        · have HN : Hid (plainG s (s.size + 1) 0 = false) := Lib.hid (by rw [HEE.out, hst, if_neg (fun h => c1 h.1)])
          clear hst
          go_wp2_with fail
          go_ret
          exact ⟨by rw [HF.out, HN.out]; rfl, HB1.out⟩
      · have hn := Lib.run_next_end_at (P := Tryd.prog) wr w.heap.size s pos 0 hi hlt
        have HN : Hid (plainG s (s.size + 1) 0 = true) := Lib.hid (by rw [HEE.out, plainG, if_neg hlt])
        clear hi
        go_wp2_with fail
        go_ret
        exact ⟨by rw [HF.out, HN.out]; rfl, HB.out⟩
end Go.Proofs.YtgoaakdopbielaaDoor
