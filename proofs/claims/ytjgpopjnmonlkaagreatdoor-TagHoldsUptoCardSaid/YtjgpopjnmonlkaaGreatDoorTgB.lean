import Derived.Test.YtjgpopjnmonlkaaGreatDoorTgQ
import Derived.Test.YtjgpopjnmonlkaaGreatDoorPlM
import Derived.Test.YtjgpopjnmonlkaaGreatDoorPlA
namespace Go.Proofs.YtjgpopjnmonlkaaGreatDoor
open Go.RowKit
set_option linter.unusedSimpArgs false
set_option linter.unusedVariables false
set_option linter.unusedSectionVars false

/-! Layer 5: what may stand in a tag; a row looked through. -/
def inTagF (r : Int) : Bool := (decide (97 ≤ r) && decide (r ≤ 122)) || (decide (65 ≤ r) && decide (r ≤ 90)) || (decide (48 ≤ r) && decide (r ≤ 57)) || (r == 95) || (r == 46)
theorem retG {a b : Bool} (h : a = b) : Ending.returned (.bool a) = Ending.returned (.bool b) := by rw [h]
set_option maxHeartbeats 800000 in
theorem inTag_v (r : Int) (w : World) :
    Calls Tryz.prog 44 #[.int .i32 r] w fun e w' => e = .returned (.bool (inTagF r)) ∧ w' = w := by
  go_enter Tryz.func44, Tryz.ntmps44
  go_wp2_with fail
  all_goals (go_ret; refine ⟨retG ?_, rfl⟩; unfold inTagF; rw [Bool.eq_iff_iff]; simp <;> try omega)
theorem inTag_byte (b : UInt8) : inTagF ((b.toNat : Nat) : Int) = mayB b := by
  unfold inTagF mayB
  rw [Bool.eq_iff_iff]
  simp <;> omega
theorem inTag_high {r : Int} (h : 128 ≤ r) : inTagF r = false := by
  unfold inTagF
  simp <;> omega
theorem mayB_high {b : UInt8} (h : 128 ≤ b.toNat) : mayB b = false := by
  unfold mayB
  simp <;> omega
theorem dec_byteG (s : ByteArray) (i : Nat) (h : i < s.size) : (Utf8.decode s i = (byteN s i, 1) ∧ byteN s i < 128) ∨ (128 ≤ (Utf8.decode s i).1 ∧ 128 ≤ byteN s i) := by
  rw [decode_B s i h]
  by_cases h0 : byteN s i < 128
  · exact .inl ⟨by unfold decB; rw [if_pos h0], h0⟩
  · refine .inr ⟨?_, by omega⟩
    unfold decB
    rw [if_neg h0]
    repeat' split
    all_goals (simp only; omega)
theorem tagLen_step (l : List UInt8) (i : Nat) (x : UInt8) (hx : l[i]? = some x) : tagLen (l.drop i) = if mayB x = true then 1 + tagLen (l.drop (i + 1)) else 0 := by
  have hi := (List.getElem?_eq_some_iff.mp hx)
  unfold tagLen
  rw [List.drop_eq_getElem_cons hi.1, hi.2, List.takeWhile_cons]
  split
  · rw [List.length_cons]; omega
  · rfl
set_option maxHeartbeats 800000 in
theorem tagSize_v (s : ByteArray) (w : World) (hs : s.size ≤ 9223372036854775807) :
    Calls Tryz.prog 29 #[.string s] w fun e w' => e = .returned (.int .i64 (tagLen s.data.toList : Int)) ∧ Below w.heap.size w w' := by
  have hl : s.data.toList.length = s.size := by simp
  go_enter Tryz.func29, Tryz.ntmps29
  go_wp2_with fail
  go_loopw [2] (fun vb wr => ∃ pos : Nat, vb = .int .i64 0 ∧ pos ≤ s.size ∧ tagLen s.data.toList = pos + tagLen (s.data.toList.drop pos) ∧ Below w.heap.size w wr ∧
     wr.heap[w.heap.size]? = some (.stringIter s pos)) (fun _ wr => s.size - wr.iterPos w.heap.size)
  case atStart => exact ⟨0, rfl, by omega, by simp, (Below.refl _ _).alloc (Nat.le_refl _) _, iter_at rfl _ _⟩
  case round =>
    obtain ⟨pos, rfl, hpos, he, hb, hi⟩ := hrel
    have HE := Lib.hid he; clear he
    have HB := Lib.hid hb; clear hb
    have HI := Lib.hid hi
    by_cases hlt : pos < s.size
    · have hn := Lib.run_next_any_at (P := Tryz.prog) wr w.heap.size s pos 0 hi hlt
      obtain ⟨x, hx⟩ : ∃ x, s.data.toList[pos]? = some x := ⟨_, List.getElem?_eq_getElem (by omega)⟩
      have hst := tagLen_step _ _ _ hx
      have hbx : byteN s pos = x.toNat := by unfold byteN; rw [List.getD_eq_getElem?_getD, hx]; rfl
      have hdec := dec_byteG s pos hlt
      rw [hbx] at hdec
      have hin : inTagF ((Utf8.decode s pos).1 : Int) = mayB x := by
        rcases hdec with ⟨h1, _⟩ | ⟨h1, h2⟩
        · rw [h1]; exact inTag_byte x
        · rw [inTag_high (by omega), mayB_high h2]
      have hwid : mayB x = true → (Utf8.decode s pos).2 = 1 := by
        intro hm
        rcases hdec with ⟨h1, _⟩ | ⟨h1, h2⟩
        · rw [h1]
        · rw [mayB_high h2] at hm; cases hm
      generalize hw1 : wr.iterAt w.heap.size s (pos + (Utf8.decode s pos).2) = w1 at hn
      have HB1 : Hid (Below w.heap.size w w1) := by rw [← hw1]; exact Lib.below_iterAt HB.out (Nat.le_refl _) _ _
      have HI1 : Hid (w1.heap[w.heap.size]? = some (.stringIter s (pos + (Utf8.decode s pos).2))) := by rw [← hw1]; exact Lib.iterAt_heap _ _ _ _ _ hi
      have hcall := fun w => inTag_v ((Utf8.decode s pos).1 : Int) w
      rw [hin] at hcall
      have HC := Lib.hid hcall
      have HST := Lib.hid hst
      have HWID := Lib.hid hwid
      clear hw1 hi hst hcall hin hdec hwid hx hbx
      cases hm : mayB x with
      | true =>
        rw [hm] at HC HST HWID
        have h1 := HWID.out rfl
        rw [h1] at HI1
        have HT : Hid (tagLen s.data.toList = (pos + 1) + tagLen (s.data.toList.drop (pos + 1))) := Lib.hid (by rw [HE.out, HST.out, if_pos rfl]; omega)
        clear h1 HWID
        go_wp2_with (go_at_call 44; with_reducible refine Calls.mono (HC.out _) ?_; rintro e w2 ⟨rfl, hw2⟩; replace hw2 := hw2.symm; subst hw2)
        go_roundw
        case rel => exact ⟨pos + 1, rfl, by omega, HT.out, HB1.out, HI1.out⟩
        case measure => rw [iterPos_of HI.out, iterPos_of HI1.out]; omega
      | false =>
        rw [hm] at HC HST
        have HT : Hid (tagLen s.data.toList = pos) := Lib.hid (by rw [HE.out, HST.out, if_neg (by decide)]; omega)
        go_wp2_with (go_at_call 44; with_reducible refine Calls.mono (HC.out _) ?_; rintro e w2 ⟨rfl, hw2⟩; replace hw2 := hw2.symm; subst hw2)
        go_ret
        exact ⟨by rw [HT.out]; rfl, HB1.out⟩
    · have hn := Lib.run_next_end_at (P := Tryz.prog) wr w.heap.size s pos 0 hi hlt
      have HT : Hid (tagLen s.data.toList = s.size) := Lib.hid (by rw [HE.out, List.drop_eq_nil_of_le (by omega)]; simp [tagLen]; omega)
      clear hi
      go_wp2_with fail
      go_ret
      exact ⟨by rw [HT.out]; rfl, HB.out⟩
end Go.Proofs.YtjgpopjnmonlkaaGreatDoor
