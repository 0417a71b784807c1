import Derived.Test.YtppnjliamfnlkaaLtAe
import Derived.Test.YtppnjliamfnlkaaLtAb
namespace Go.Proofs.Ytppnjliamfnlkaa
open Go.RowKit
set_option linter.unusedSimpArgs false
set_option linter.unusedVariables false
set_option linter.unusedSectionVars false

/-! strings.ContainsAny of a quote and a line's end, at every string. -/
def isB (b : UInt8) : Bool := b == 34 || b == 10
def hasB (s : ByteArray) (pos : Nat) : Bool := (s.data.toList.drop pos).any isB
theorem any_list : ∀ l : List UInt8, decide (0 ≤ Lib.indexAny l [34, 10]) = l.any isB
  | [] => rfl
  | b :: l => by
    have ih := any_list l
    have hge := Lib.indexAny_ge [34, 10] l
    have hc : ([34, 10] : List UInt8).contains b = isB b := by simp only [List.contains_cons, List.contains_nil, Bool.or_false]; rfl
    have hu : Lib.indexAny (b :: l) [34, 10] = if ([34, 10] : List UInt8).contains b then 0 else if Lib.indexAny l [34, 10] == -1 then -1 else Lib.indexAny l [34, 10] + 1 := rfl
    rw [List.any_cons, ← ih, hu, hc]
    cases isB b
    · simp only [Bool.false_eq_true, if_false, Bool.false_or]
      by_cases h : Lib.indexAny l [34, 10] = -1
      · rw [h]; rfl
      · have h2 : (Lib.indexAny l [34, 10] == -1) = false := by simpa using h
        rw [h2]
        simp only [Bool.false_eq_true, if_false]
        rw [decide_eq_decide]; omega
    · rfl
theorem plainB_has (p : ByteArray) : plainB p = hasB p 0 := by
  unfold plainB Lib.containsAny hasB
  rw [any_list, List.drop_zero]
theorem hasB_step (s : ByteArray) (pos : Nat) (h : pos < s.size) : hasB s pos = (decide (byteN s pos = 34 ∨ byteN s pos = 10) || hasB s (pos + 1)) := by
  have hk : pos < s.data.toList.length := by simpa using h
  unfold hasB
  rw [List.drop_eq_getElem_cons hk, List.any_cons]
  congr 1
  simp only [byteN, List.getD_eq_getElem?_getD, List.getElem?_eq_getElem hk, Option.getD_some, isB]
  generalize s.data.toList[pos] = b
  rw [Bool.eq_iff_iff]
  simp only [Bool.or_eq_true, beq_iff_eq, decide_eq_true_eq, ← UInt8.toNat_inj]
  rfl
theorem hasB_skip (s : ByteArray) : ∀ (n pos : Nat), pos + n ≤ s.size → (∀ j, j < n → 128 ≤ byteN s (pos + j)) → hasB s pos = hasB s (pos + n)
  | 0, _, _, _ => rfl
  | n + 1, pos, h, hb => by
    have h0 := hb 0 (by omega)
    rw [Nat.add_zero] at h0
    rw [hasB_step s pos (by omega)]
    have hd : decide (byteN s pos = 34 ∨ byteN s pos = 10) = false := by simp; omega
    rw [hd, Bool.false_or, hasB_skip s n (pos + 1) (by omega) (fun j hj => by have := hb (j + 1) (by omega); rw [show pos + 1 + j = pos + (j + 1) by omega]; exact this)]
    congr 1; omega
theorem hasB_end (s : ByteArray) : hasB s s.size = false := by
  unfold hasB
  rw [List.drop_of_length_le (by simp)]
  rfl
/-- What a sign that is decoded tells. -/
theorem dec_has (s : ByteArray) (pos : Nat) (h : pos < s.size) :
    ((Utf8.decode s pos).1 < 128 ∧ hasB s pos = (decide ((Utf8.decode s pos).1 = 34 ∨ (Utf8.decode s pos).1 = 10) || hasB s (pos + (Utf8.decode s pos).2))) ∨
    (128 ≤ (Utf8.decode s pos).1 ∧ ((Utf8.decode s pos).1 < 55296 ∨ 57343 < (Utf8.decode s pos).1) ∧ hasB s pos = hasB s (pos + (Utf8.decode s pos).2)) := by
  by_cases hc : byteN s pos < 128
  · left
    rw [dec_ascii s pos h hc]
    exact ⟨hc, hasB_step s pos h⟩
  · right
    have hw := dec_width s pos h
    refine ⟨dec_high s pos h (by omega), ?_, ?_⟩
    · rw [decode_B s pos h]
      unfold decB
      repeat' split
      all_goals (simp only; omega)
    · refine hasB_skip s _ pos hw.2 ?_
      have hsc := sc_dec s pos
      rw [← decode_B s pos h] at hsc
      intro j hj
      rcases hsc with ⟨h1, h2, _⟩ | ⟨h1, h2, _⟩ | ⟨_, _, _, h4⟩
      · omega
      · rw [h1] at hj
        obtain rfl : j = 0 := by omega
        exact h2
      · exact h4 j hj

set_option maxRecDepth 100000 in
set_option maxHeartbeats 6400000 in
theorem iany_short (s : ByteArray) (w : World) (hs : s.size ≤ 8) :
    Calls Try.prog 53 #[.string s, .string ⟨#[34, 10]⟩] w fun e w' => (∃ x : Int, e = .returned (.int .i64 x) ∧ decide (0 ≤ x) = hasB s 0) ∧ Below w.heap.size w w' := by
  have hsh := fun w => Try.strings_shouldUseASCIISet (s.size : Int) w
  rw [show decide ((8 : Int) < (s.size : Int)) = false from by simp; omega] at hsh
  have hz : (⟨#[34, 10]⟩ : ByteArray).size = 2 := rfl
  have hl : (⟨#[34, 10]⟩ : ByteArray).toList = [34, 10] := by rw [Lib.toList_data]
  have hlow := irune_low
  have hbad := irune_bad
  have hhigh := irune_high
  obtain ⟨q, hq⟩ : ∃ q : ByteArray, q = ⟨#[34, 10]⟩ := ⟨_, rfl⟩
  rw [← hq] at hz hl hlow hbad hhigh ⊢
  clear hq
  have HLOW := Lib.hid hlow
  have HBAD := Lib.hid hbad
  have HHIGH := Lib.hid hhigh
  clear hlow hbad hhigh
  generalize hX : hasB s 0 = X
  have HX := Lib.hid hX
  clear hX
  go_enter Try.func53, Try.ntmps53
  go_wp2_with (go_at_call 61; with_reducible refine Calls.mono (hsh _) ?_; rintro e w3 ⟨rfl, hw3⟩; replace hw3 := hw3.symm; subst hw3)
  go_loopw [9] (fun _ wr => ∃ pos : Nat, pos ≤ s.size ∧ X = hasB s pos ∧ Below w.heap.size w wr ∧ wr.heap[w.heap.size]? = some (.stringIter s pos)) (fun _ wr => s.size - wr.iterPos w.heap.size)
  case atStart => exact ⟨0, by omega, HX.out.symm, (Below.refl _ _).alloc (Nat.le_refl _) _, iter_at rfl _ _⟩
  case round =>
    obtain ⟨pos, hp, he, hb, hi⟩ := hrel
    have HB := Lib.hid hb
    have HI := Lib.hid hi
    have HE := Lib.hid he
    clear hb he HX
    have hlw : w.heap.size < wr.heap.size := World.block_lt_map hi
    by_cases hlt : pos < s.size
    · have hn := Lib.run_next_any_at (P := Try.prog) wr w.heap.size s pos 0 hi hlt
      have hdh := dec_has s pos hlt
      obtain ⟨n1, n2⟩ := dec_width s pos hlt
      have n3 := dec_max s pos hlt
      generalize hw1 : wr.iterAt w.heap.size s (pos + (Utf8.decode s pos).2) = w1 at hn
      have HB1 : Hid (Below w.heap.size w w1) := by rw [← hw1]; exact Lib.below_iterAt HB.out (Nat.le_refl _) _ _
      have HI1 : Hid (w1.heap[w.heap.size]? = some (.stringIter s (pos + (Utf8.decode s pos).2))) := by rw [← hw1]; exact Lib.iterAt_heap _ _ _ _ _ hi
      have hs1 : w.heap.size < w1.heap.size := by rw [← hw1, Lib.iterAt_size]; exact hlw
      clear hw1 hi
      generalize Utf8.decode s pos = d at *
      obtain ⟨r, m⟩ := d
      simp only at hdh n1 n2 n3 hn HI1
      rcases hdh with ⟨c1, hh⟩ | ⟨c1, hv, hh⟩
      · have hlow := HLOW.out r c1
        by_cases k34 : r = 34
        · have HN : Hid (X = true) := Lib.hid (by rw [HE.out, hh, k34]; rfl)
          rw [if_pos k34] at hlow
          clear hh
          subst k34
          rw [show ((34 : Nat) : Int) = 34 from rfl] at hlow
          go_wp2_with (go_at_call 60; with_reducible refine Calls.mono (hlow _) ?_; rintro e w3 ⟨rfl, hw3⟩; replace hw3 := hw3.symm; subst hw3)
          go_ret
          exact ⟨⟨_, rfl, by rw [HN.out]; simp⟩, HB1.out⟩
        rw [if_neg k34] at hlow
        by_cases k10 : r = 10
        · have HN : Hid (X = true) := Lib.hid (by rw [HE.out, hh, k10]; rfl)
          rw [if_pos k10] at hlow
          clear hh
          subst k10
          rw [show ((10 : Nat) : Int) = 10 from rfl] at hlow
          go_wp2_with (go_at_call 60; with_reducible refine Calls.mono (hlow _) ?_; rintro e w3 ⟨rfl, hw3⟩; replace hw3 := hw3.symm; subst hw3)
          go_ret
          exact ⟨⟨_, rfl, by rw [HN.out]; simp⟩, HB1.out⟩
        rw [if_neg k10] at hlow
        have HN : Hid (X = hasB s (pos + m)) := Lib.hid (by rw [HE.out, hh]; simp [k34, k10])
        clear hh
        go_wp2_with (go_at_call 60; with_reducible refine Calls.mono (hlow _) ?_; rintro e w3 ⟨rfl, hw3⟩; replace hw3 := hw3.symm; subst hw3)
        go_roundw
        case rel => exact ⟨pos + m, by omega, HN.out, HB1.out, HI1.out⟩
        case measure => rw [iterPos_of HI.out, iterPos_of HI1.out]; omega
      · have HN : Hid (X = hasB s (pos + m)) := Lib.hid (by rw [HE.out, hh])
        have hcall : ∀ w2, Calls Try.prog 60 #[.string q, .int .i32 r] w2 fun e w' => e = .returned (.int .i64 (-1)) ∧ Below w2.heap.size w2 w' := by
          intro w2
          by_cases kb : r = 65533
          · subst kb; exact HBAD.out w2
          · exact HHIGH.out r c1 n3 hv kb w2
        clear hh
        go_wp2_with (go_at_call 60; with_reducible refine Calls.mono (hcall _) ?_; rintro e w3 ⟨rfl, hb3⟩; have HB3 := Lib.hid hb3; clear hb3)
        go_roundw
        case rel => exact ⟨pos + m, by omega, HN.out, HB1.out.trans (HB3.out.mono HB1.out.size), by rw [HB3.out.block _ hs1]; exact HI1.out⟩
        case measure =>
          have hi3 : w3.heap[w.heap.size]? = some (.stringIter s (pos + m)) := by rw [HB3.out.block _ hs1]; exact HI1.out
          rw [iterPos_of HI.out, iterPos_of hi3]; omega
    · have hn := Lib.run_next_end_at (P := Try.prog) wr w.heap.size s pos 0 hi hlt
      have HN : Hid (X = false) := Lib.hid (by rw [HE.out, show pos = s.size by omega]; exact hasB_end s)
      clear hi
      go_wp2_with fail
      go_ret
      exact ⟨⟨_, rfl, by rw [HN.out]; rfl⟩, HB.out⟩

theorem iany_all (s : ByteArray) (w : World) (hs : s.size ≤ 100000000) :
    Calls Try.prog 53 #[.string s, .string ⟨#[34, 10]⟩] w fun e w' => (∃ x : Int, e = .returned (.int .i64 x) ∧ decide (0 ≤ x) = plainB s) ∧ Below w.heap.size w w' := by
  by_cases h : s.size ≤ 8
  · rw [plainB_has]
    exact iany_short s w h
  · refine (Try.strings_IndexAny_long (fun w => by kernel_rfl) s ⟨#[34, 10]⟩ w (by decide) (by omega) (by omega) (by decide) (by
      intro j b hj
      have hm := List.mem_of_getElem? hj
      simp only [List.mem_cons, List.not_mem_nil, or_false] at hm
      rcases hm with rfl | rfl <;> decide)).mono ?_
    rintro e w' ⟨rfl, rfl⟩
    exact ⟨⟨_, rfl, rfl⟩, ((Below.refl _ _).alloc (Nat.le_refl _) _).alloc (by simp) _⟩
set_option maxHeartbeats 800000 in
/-- ContainsAny, at every string. -/
theorem cany_all (p : ByteArray) (w : World) (hs : p.size ≤ 100000000) :
    Calls Try.prog 48 #[.string p, .string ⟨#[34, 10]⟩] w fun e w' => e = .returned (.bool (plainB p)) ∧ Below w.heap.size w w' := by
  have hin := iany_all p w hs
  generalize plainB p = X at *
  go_enter Try.func48, Try.ntmps48
  go_wp2_with (go_at_call 53; with_reducible refine Calls.mono hin ?_; rintro e w2 ⟨⟨x, rfl, hx⟩, hb2⟩)
  go_ret
  exact ⟨rfl, by assumption⟩
theorem every_ok : OkS (fun _ => True) := ⟨fun _ _ _ _ => trivial, trivial⟩
end Go.Proofs.Ytppnjliamfnlkaa
