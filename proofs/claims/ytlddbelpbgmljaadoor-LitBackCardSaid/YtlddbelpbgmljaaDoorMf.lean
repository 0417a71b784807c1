import Derived.Test.YtlddbelpbgmljaaDoorMe
import Derived.Scope
import Derived.Test.YtlddbelpbgmljaaDoorMa
import Derived.Lib.SliceRun
import Derived.Deep.RegionLaw
import Derived.Deep.RegionWith
import Derived.Test.YtlddbelpbgmljaaDoorMd
import Derived.Test.YtlddbelpbgmljaaDoorMc
import Derived.Test.YtlddbelpbgmljaaDoorMb
namespace Go.Proofs.YtlddbelpbgmljaaDoor
open Go.RowKit
set_option linter.unusedSimpArgs false
set_option linter.unusedVariables false
set_option linter.unusedSectionVars false

/-! strings.ContainsAny of a quote and a line's end, at every string. -/
theorem ib2_all : ∀ r : Fin 128, Lib.indexByte [34, 10] ((r.val : Int).toNat.toUInt8) = (if r.val = 34 then 0 else if r.val = 10 then 1 else -1) := by decide +kernel
theorem irune_low (r : Nat) (h : r < 128) (w : World) :
    Calls Tryd.prog 66 #[.string ⟨#[34, 10]⟩, .int .i32 r] w fun e w' => e = .returned (.int .i64 (if r = 34 then 0 else if r = 10 then 1 else -1)) ∧ w' = w := by
  have := Tryd.strings_IndexRune_ascii ⟨#[34, 10]⟩ (r : Int) w (by omega) (by omega)
  have h2 : Lib.indexByte [34, 10] ((r : Int).toNat.toUInt8) = (if r = 34 then 0 else if r = 10 then 1 else -1) := ib2_all ⟨r, h⟩
  rw [show (⟨#[34, 10]⟩ : ByteArray).data.toList = [34, 10] from rfl, h2] at this
  exact this
set_option maxRecDepth 100000 in
set_option maxHeartbeats 6400000 in
theorem irune_bad (w : World) :
    Calls Tryd.prog 66 #[.string ⟨#[34, 10]⟩, .int .i32 65533] w fun e w' => e = .returned (.int .i64 (-1)) ∧ Below w.heap.size w w' := by
  have hd0 : Utf8.decode ⟨#[34, 10]⟩ 0 = (34, 1) := by decide +kernel
  have hd1 : Utf8.decode ⟨#[34, 10]⟩ 1 = (10, 1) := by decide +kernel
  have hz : (⟨#[34, 10]⟩ : ByteArray).size = 2 := rfl
  obtain ⟨q, hq⟩ : ∃ q : ByteArray, q = ⟨#[34, 10]⟩ := ⟨_, rfl⟩
  rw [← hq] at hd0 hd1 hz ⊢
  clear hq
  go_enter Tryd.func66, Tryd.ntmps66
  go_wp2_with fail
  go_loopw [5] (fun _ wr => ∃ pos : Nat, pos ≤ 2 ∧ Below w.heap.size w wr ∧ wr.heap[w.heap.size]? = some (.stringIter q pos)) (fun _ wr => 2 - wr.iterPos w.heap.size)
  case atStart => exact ⟨0, by omega, (Below.refl _ _).alloc (Nat.le_refl _) _, iter_at rfl _ _⟩
  case round =>
    obtain ⟨pos, hp, hb, hi⟩ := hrel
    have HB := Lib.hid hb
    have HI := Lib.hid hi
    clear hb
    by_cases hlt : pos < q.size
    · have hn := Lib.run_next_any_at (P := Tryd.prog) wr w.heap.size q pos 0 hi hlt
      have hdd : Utf8.decode q pos = (34, 1) ∨ Utf8.decode q pos = (10, 1) := by
        have : pos = 0 ∨ pos = 1 := by omega
        rcases this with rfl | rfl
        · exact .inl hd0
        · exact .inr hd1
      have hw2 : pos + (Utf8.decode q pos).2 = pos + 1 := by rcases hdd with h | h <;> rw [h]
      generalize hw1 : wr.iterAt w.heap.size q (pos + (Utf8.decode q pos).2) = w1 at hn
      have HB1 : Hid (Below w.heap.size w w1) := by rw [← hw1]; exact Lib.below_iterAt HB.out (Nat.le_refl _) _ _
      have HI1 : Hid (w1.heap[w.heap.size]? = some (.stringIter q (pos + 1))) := by rw [← hw1, hw2]; exact Lib.iterAt_heap _ _ _ _ _ hi
      clear hw1 hi hw2 hd0 hd1
      rcases hdd with h | h
      all_goals
        rw [h] at hn
        clear h
        go_wp2_with fail
        go_roundw
        case rel => exact ⟨pos + 1, by omega, HB1.out, HI1.out⟩
        case measure => rw [iterPos_of HI.out, iterPos_of HI1.out]; omega
    · have hn := Lib.run_next_end_at (P := Tryd.prog) wr w.heap.size q pos 0 hi hlt
      clear hi
      go_wp2_with fail
      go_ret
      exact ⟨rfl, HB.out⟩
theorem enc_facts (r : Nat) (h : 128 ≤ r) : 2 ≤ (Utf8.encode (r : Int)).size ∧ (Utf8.encode (r : Int)).size ≤ 4 ∧ 128 ≤ byteN (Utf8.encode (r : Int)) ((Utf8.encode (r : Int)).size - 1) := by
  have hc : 128 ≤ (if Utf8.valid (r : Int) then (r : Int).toNat else Utf8.runeError) := by
    split
    · simpa using h
    · decide
  have hc2 : (if Utf8.valid (r : Int) then (r : Int).toNat else Utf8.runeError) ≤ 1114111 := by
    split
    · rename_i hv
      simp only [Utf8.valid, Bool.and_eq_true, Bool.or_eq_true, decide_eq_true_eq] at hv
      omega
    · decide
  unfold Utf8.encode
  simp only
  generalize (if Utf8.valid (r : Int) then (r : Int).toNat else Utf8.runeError) = c at *
  rw [if_neg (by omega)]
  have hb : ∀ n, n < 64 → 128 ≤ (UInt8.ofNat (128 + n)).toNat := by
    intro n hn
    rw [UInt8.toNat_ofNat']
    omega
  split
  · refine ⟨by show 2 ≤ 2; omega, by show 2 ≤ 4; omega, ?_⟩
    exact hb _ (by omega)
  · split
    · refine ⟨by show 2 ≤ 3; omega, by show 3 ≤ 4; omega, ?_⟩
      exact hb _ (by omega)
    · refine ⟨by show 2 ≤ 4; omega, by show 4 ≤ 4; omega, ?_⟩
      exact hb _ (by omega)

set_option maxRecDepth 100000 in
set_option maxHeartbeats 12800000 in
theorem irune_high (r : Nat) (h : 128 ≤ r) (h2 : r ≤ 1114111) (h3 : r < 55296 ∨ 57343 < r) (hb : r ≠ 65533) (w : World) :
    Calls Tryd.prog 66 #[.string ⟨#[34, 10]⟩, .int .i32 r] w fun e w' => e = .returned (.int .i64 (-1)) ∧ Below w.heap.size w w' := by
  have hvr := fun w => Tryd.utf8_ValidRune (r : Int) w
  rw [show Lib.validRune (r : Int) = true from by unfold Lib.validRune; simp; omega] at hvr
  have hk1 : decide ((r : Int) < 128) = false := by simp; omega
  have hk2 : ((r : Int) == 65533) = false := by simp; omega
  obtain ⟨s1, s2, s3⟩ := enc_facts r h
  obtain ⟨e, he⟩ : ∃ e, Utf8.encode (r : Int) = e := ⟨_, rfl⟩
  rw [he] at s1 s2 s3
  obtain ⟨m, hm⟩ : ∃ m, e.size - 1 = m := ⟨_, rfl⟩
  have hmI : (e.size : Int) - 1 = (m : Int) := by omega
  rw [hm] at s3
  have hml : m < e.size := by omega
  have hmlI : (m : Int) < e.size := by omega
  have hx := str_byte e m hml
  have hz : (⟨#[34, 10]⟩ : ByteArray).size = 2 := rfl
  have hq1 : ∀ h' : 1 < (⟨#[34, 10]⟩ : ByteArray).size, ((⟨#[34, 10]⟩ : ByteArray)[1]'h').toNat = 10 := fun _ => rfl
  have hie : ∀ c : UInt8, Lib.indexByte ByteArray.empty.data.toList c = -1 := fun c => rfl
  have hix := fun (x : Int) w => Tryd.strings_IndexByte ByteArray.empty x w
  simp only [hie] at hix
  obtain ⟨q, hq⟩ : ∃ q : ByteArray, q = ⟨#[34, 10]⟩ := ⟨_, rfl⟩
  rw [← hq] at hz hq1 ⊢
  clear hq hie
  generalize byteN e m = x at *
  have hxn : ((10 : Int) != (x : Int)) = true := by simp; omega
  have hxn2 : ((10 : Int) == (x : Int)) = false := by simp; omega
  go_enter Tryd.func66, Tryd.ntmps66
  go_wp2_with (go_at_call 71; with_reducible refine Calls.mono (hvr _) ?_; rintro e w3 ⟨rfl, hw3⟩; replace hw3 := hw3.symm; subst hw3)
  refine wp_scope_straight ?_
  go_wp2_with fail
  go_loopw [9] (fun iv wr => iv = .int .i64 m ∧ wr = w) (fun _ _ => 0)
  case atStart => exact ⟨rfl, rfl⟩
  case round =>
    obtain ⟨rfl, rfl⟩ := hrel
    by_cases h1 : m = 1
    · subst h1
      have hd1 : q[1].toNat = 10 := hq1 (by omega)
      rw [show (((1 : Nat) : Int)) = 1 from rfl]
      go_wp2_with fail
      refine wp_scope_straight ?_
      go_wp2_with fail
      have hI0 : InvC wr [] wr.drew := InvC.start (Below.refl _ _) (by simp)
      have hne5 : Nonempty (Wld (InvC wr [])) := ⟨⟨_, hI0⟩⟩
      refine wp_region_inv (InvC wr []) (by kernel_rfl) (by kernel_rfl) hI0 ?_
      clear hI0
      repeat (go_big_quiet_step (fail))
      refine wpQuiet_nil ?_
      intro w6 hw6
      have HB6 : Hid (Below wr.heap.size wr w6) := by obtain ⟨i, rfl⟩ := hw6; exact Lib.hid i.ok.1
      clear hw6 hne5
      go_wp2_with fail
      have hI1 : InvC w6 [] w6.drew := InvC.start (Below.refl _ _) (by simp)
      have hne6 : Nonempty (Wld (InvC w6 [])) := ⟨⟨_, hI1⟩⟩
      refine wp_region_inv (InvC w6 []) (by kernel_rfl) (by kernel_rfl) hI1 ?_
      clear hI1
      repeat (go_big_quiet_step ((go_at_call 77; with_reducible exact Calls.inv_same (hix _ _))))
      refine wpQuiet_nil ?_
      intro w7 hw7
      have HB7 : Hid (Below w6.heap.size w6 w7) := by obtain ⟨i, rfl⟩ := hw7; exact Lib.hid i.ok.1
      clear hw7 hne6
      go_wp2_with fail
      simp only [Exit.noGoto, Exit.inBlock]
      show bodyPost Tryd.prog Tryd.f66 (fun e w' => e = .returned (.int .i64 (-1)) ∧ Below wr.heap.size wr w') Exit.ret _ _
      go_ret
      exact ⟨rfl, HB6.out.trans (HB7.out.mono HB6.out.size)⟩
    · have hm2 : 2 ≤ m := by omega
      have hmd : decide ((m : Int) < 2) = false := by simp; omega
      clear hx hxn hxn2 hq1 hix hvr hk1 hk2 s1 s2 s3 hml hmlI hmI hm he
      go_wp2_with fail
      (try simp only [Exit.noGoto, Exit.inBlock])
      go_ret
      exact ⟨rfl, Below.refl _ _⟩
end Go.Proofs.YtlddbelpbgmljaaDoor
namespace Go.Proofs.YtlddbelpbgmljaaDoor
open Go.RowKit
set_option linter.unusedSimpArgs false
set_option linter.unusedVariables false
set_option linter.unusedSectionVars false

/-! strings.ContainsAny of a quote and a line's end, at every string. -/
def isB (b : UInt8) : Bool := b == 34 || b == 10
def hasB (s : ByteArray) (pos : Nat) : Bool := (s.data.toList.drop pos).any isB
theorem any_list : ∀ l : List UInt8, decide (0 ≤ Lib.indexAny l [34, 10]) = l.any isB
  | [] => rfl
  | b :: l => by
    have ih := any_list l
    have hge := Lib.indexAny_ge [34, 10] l
    have hc : ([34, 10] : List UInt8).contains b = isB b := by simp only [List.contains_cons, List.contains_nil, Bool.or_false]; rfl
    have hu : Lib.indexAny (b :: l) [34, 10] = if ([34, 10] : List UInt8).contains b then 0 else if Lib.indexAny l [34, 10] == -1 then -1 else Lib.indexAny l [34, 10] + 1 := rfl
    rw [List.any_cons, ← ih, hu, hc]
    cases isB b
    · simp only [Bool.false_eq_true, if_false, Bool.false_or]
      by_cases h : Lib.indexAny l [34, 10] = -1
      · rw [h]; rfl
      · have h2 : (Lib.indexAny l [34, 10] == -1) = false := by simpa using h
        rw [h2]
        simp only [Bool.false_eq_true, if_false]
        rw [decide_eq_decide]; omega
    · rfl
theorem plainB_has (p : ByteArray) : plainB p = hasB p 0 := by
  unfold plainB Lib.containsAny hasB
  rw [any_list, List.drop_zero]
theorem hasB_step (s : ByteArray) (pos : Nat) (h : pos < s.size) : hasB s pos = (decide (byteN s pos = 34 ∨ byteN s pos = 10) || hasB s (pos + 1)) := by
  have hk : pos < s.data.toList.length := by simpa using h
  unfold hasB
  rw [List.drop_eq_getElem_cons hk, List.any_cons]
  congr 1
  simp only [byteN, List.getD_eq_getElem?_getD, List.getElem?_eq_getElem hk, Option.getD_some, isB]
  generalize s.data.toList[pos] = b
  rw [Bool.eq_iff_iff]
  simp only [Bool.or_eq_true, beq_iff_eq, decide_eq_true_eq, ← UInt8.toNat_inj]
  rfl
theorem hasB_skip (s : ByteArray) : ∀ (n pos : Nat), pos + n ≤ s.size → (∀ j, j < n → 128 ≤ byteN s (pos + j)) → hasB s pos = hasB s (pos + n)
  | 0, _, _, _ => rfl
  | n + 1, pos, h, hb => by
    have h0 := hb 0 (by omega)
    rw [Nat.add_zero] at h0
    rw [hasB_step s pos (by omega)]
    have hd : decide (byteN s pos = 34 ∨ byteN s pos = 10) = false := by simp; omega
    rw [hd, Bool.false_or, hasB_skip s n (pos + 1) (by omega) (fun j hj => by have := hb (j + 1) (by omega); rw [show pos + 1 + j = pos + (j + 1) by omega]; exact this)]
    congr 1; omega
theorem hasB_end (s : ByteArray) : hasB s s.size = false := by
  unfold hasB
  rw [List.drop_of_length_le (by simp)]
  rfl
/-- What a sign that is decoded tells. -/
theorem dec_has (s : ByteArray) (pos : Nat) (h : pos < s.size) :
    ((Utf8.decode s pos).1 < 128 ∧ hasB s pos = (decide ((Utf8.decode s pos).1 = 34 ∨ (Utf8.decode s pos).1 = 10) || hasB s (pos + (Utf8.decode s pos).2))) ∨
    (128 ≤ (Utf8.decode s pos).1 ∧ ((Utf8.decode s pos).1 < 55296 ∨ 57343 < (Utf8.decode s pos).1) ∧ hasB s pos = hasB s (pos + (Utf8.decode s pos).2)) := by
  by_cases hc : byteN s pos < 128
  · left
    rw [dec_ascii s pos h hc]
    exact ⟨hc, hasB_step s pos h⟩
  · right
    have hw := dec_width s pos h
    refine ⟨dec_high s pos h (by omega), ?_, ?_⟩
    · rw [decode_B s pos h]
      unfold decB
      repeat' split
      all_goals (simp only; omega)
    · refine hasB_skip s _ pos hw.2 ?_
      have hsc := sc_dec s pos
      rw [← decode_B s pos h] at hsc
      intro j hj
      rcases hsc with ⟨h1, h2, _⟩ | ⟨h1, h2, _⟩ | ⟨_, _, _, h4⟩
      · omega
      · rw [h1] at hj
        obtain rfl : j = 0 := by omega
        exact h2
      · exact h4 j hj

set_option maxRecDepth 100000 in
set_option maxHeartbeats 6400000 in
theorem iany_short (s : ByteArray) (w : World) (hs : s.size ≤ 8) :
    Calls Tryd.prog 44 #[.string s, .string ⟨#[34, 10]⟩] w fun e w' => (∃ x : Int, e = .returned (.int .i64 x) ∧ decide (0 ≤ x) = hasB s 0) ∧ Below w.heap.size w w' := by
  have hsh := fun w => Tryd.strings_shouldUseASCIISet (s.size : Int) w
  rw [show decide ((8 : Int) < (s.size : Int)) = false from by simp; omega] at hsh
  have hz : (⟨#[34, 10]⟩ : ByteArray).size = 2 := rfl
  have hl : (⟨#[34, 10]⟩ : ByteArray).toList = [34, 10] := by rw [Lib.toList_data]
  have hlow := irune_low
  have hbad := irune_bad
  have hhigh := irune_high
  obtain ⟨q, hq⟩ : ∃ q : ByteArray, q = ⟨#[34, 10]⟩ := ⟨_, rfl⟩
  rw [← hq] at hz hl hlow hbad hhigh ⊢
  clear hq
  have HLOW := Lib.hid hlow
  have HBAD := Lib.hid hbad
  have HHIGH := Lib.hid hhigh
  clear hlow hbad hhigh
  generalize hX : hasB s 0 = X
  have HX := Lib.hid hX
  clear hX
  go_enter Tryd.func44, Tryd.ntmps44
  go_wp2_with (go_at_call 67; with_reducible refine Calls.mono (hsh _) ?_; rintro e w3 ⟨rfl, hw3⟩; replace hw3 := hw3.symm; subst hw3)
  go_loopw [9] (fun _ wr => ∃ pos : Nat, pos ≤ s.size ∧ X = hasB s pos ∧ Below w.heap.size w wr ∧ wr.heap[w.heap.size]? = some (.stringIter s pos)) (fun _ wr => s.size - wr.iterPos w.heap.size)
  case atStart => exact ⟨0, by omega, HX.out.symm, (Below.refl _ _).alloc (Nat.le_refl _) _, iter_at rfl _ _⟩
  case round =>
    obtain ⟨pos, hp, he, hb, hi⟩ := hrel
    have HB := Lib.hid hb
    have HI := Lib.hid hi
    have HE := Lib.hid he
    clear hb he HX
    have hlw : w.heap.size < wr.heap.size := World.block_lt_map hi
    by_cases hlt : pos < s.size
    · have hn := Lib.run_next_any_at (P := Tryd.prog) wr w.heap.size s pos 0 hi hlt
      have hdh := dec_has s pos hlt
      obtain ⟨n1, n2⟩ := dec_width s pos hlt
      have n3 := dec_max s pos hlt
      generalize hw1 : wr.iterAt w.heap.size s (pos + (Utf8.decode s pos).2) = w1 at hn
      have HB1 : Hid (Below w.heap.size w w1) := by rw [← hw1]; exact Lib.below_iterAt HB.out (Nat.le_refl _) _ _
      have HI1 : Hid (w1.heap[w.heap.size]? = some (.stringIter s (pos + (Utf8.decode s pos).2))) := by rw [← hw1]; exact Lib.iterAt_heap _ _ _ _ _ hi
      have hs1 : w.heap.size < w1.heap.size := by rw [← hw1, Lib.iterAt_size]; exact hlw
      clear hw1 hi
      generalize Utf8.decode s pos = d at *
      obtain ⟨r, m⟩ := d
      simp only at hdh n1 n2 n3 hn HI1
      rcases hdh with ⟨c1, hh⟩ | ⟨c1, hv, hh⟩
      · have hlow := HLOW.out r c1
        by_cases k34 : r = 34
        · have HN : Hid (X = true) := Lib.hid (by rw [HE.out, hh, k34]; rfl)
          rw [if_pos k34] at hlow
          clear hh
          subst k34
          rw [show ((34 : Nat) : Int) = 34 from rfl] at hlow
          go_wp2_with (go_at_call 66; with_reducible refine Calls.mono (hlow _) ?_; rintro e w3 ⟨rfl, hw3⟩; replace hw3 := hw3.symm; subst hw3)
          go_ret
          exact ⟨⟨_, rfl, by rw [HN.out]; simp⟩, HB1.out⟩
        rw [if_neg k34] at hlow
        by_cases k10 : r = 10
        · have HN : Hid (X = true) := Lib.hid (by rw [HE.out, hh, k10]; rfl)
          rw [if_pos k10] at hlow
          clear hh
          subst k10
          rw [show ((10 : Nat) : Int) = 10 from rfl] at hlow
          go_wp2_with (go_at_call 66; with_reducible refine Calls.mono (hlow _) ?_; rintro e w3 ⟨rfl, hw3⟩; replace hw3 := hw3.symm; subst hw3)
          go_ret
          exact ⟨⟨_, rfl, by rw [HN.out]; simp⟩, HB1.out⟩
        rw [if_neg k10] at hlow
        have HN : Hid (X = hasB s (pos + m)) := Lib.hid (by rw [HE.out, hh]; simp [k34, k10])
        clear hh
        go_wp2_with (go_at_call 66; with_reducible refine Calls.mono (hlow _) ?_; rintro e w3 ⟨rfl, hw3⟩; replace hw3 := hw3.symm; subst hw3)
        go_roundw
        case rel => exact ⟨pos + m, by omega, HN.out, HB1.out, HI1.out⟩
        case measure => rw [iterPos_of HI.out, iterPos_of HI1.out]; omega
      · have HN : Hid (X = hasB s (pos + m)) := Lib.hid (by rw [HE.out, hh])
        have hcall : ∀ w2, Calls Tryd.prog 66 #[.string q, .int .i32 r] w2 fun e w' => e = .returned (.int .i64 (-1)) ∧ Below w2.heap.size w2 w' := by
          intro w2
          by_cases kb : r = 65533
          · subst kb; exact HBAD.out w2
          · exact HHIGH.out r c1 n3 hv kb w2
        clear hh
        go_wp2_with (go_at_call 66; with_reducible refine Calls.mono (hcall _) ?_; rintro e w3 ⟨rfl, hb3⟩; have HB3 := Lib.hid hb3; clear hb3)
        go_roundw
        case rel => exact ⟨pos + m, by omega, HN.out, HB1.out.trans (HB3.out.mono HB1.out.size), by rw [HB3.out.block _ hs1]; exact HI1.out⟩
        case measure =>
          have hi3 : w3.heap[w.heap.size]? = some (.stringIter s (pos + m)) := by rw [HB3.out.block _ hs1]; exact HI1.out
          rw [iterPos_of HI.out, iterPos_of hi3]; omega
    · have hn := Lib.run_next_end_at (P := Tryd.prog) wr w.heap.size s pos 0 hi hlt
      have HN : Hid (X = false) := Lib.hid (by rw [HE.out, show pos = s.size by omega]; exact hasB_end s)
      clear hi
      go_wp2_with fail
      go_ret
      exact ⟨⟨_, rfl, by rw [HN.out]; rfl⟩, HB.out⟩

theorem iany_all (s : ByteArray) (w : World) (hs : s.size ≤ 100000000) :
    Calls Tryd.prog 44 #[.string s, .string ⟨#[34, 10]⟩] w fun e w' => (∃ x : Int, e = .returned (.int .i64 x) ∧ decide (0 ≤ x) = plainB s) ∧ Below w.heap.size w w' := by
  by_cases h : s.size ≤ 8
  · rw [plainB_has]
    exact iany_short s w h
  · refine (Tryd.strings_IndexAny_long (fun w => by kernel_rfl) s ⟨#[34, 10]⟩ w (by decide) (by omega) (by omega) (by decide) (by
      intro j b hj
      have hm := List.mem_of_getElem? hj
      simp only [List.mem_cons, List.not_mem_nil, or_false] at hm
      rcases hm with rfl | rfl <;> decide)).mono ?_
    rintro e w' ⟨rfl, rfl⟩
    exact ⟨⟨_, rfl, rfl⟩, ((Below.refl _ _).alloc (Nat.le_refl _) _).alloc (by simp) _⟩
set_option maxHeartbeats 800000 in
/-- ContainsAny, at every string. -/
theorem cany_all (p : ByteArray) (w : World) (hs : p.size ≤ 100000000) :
    Calls Tryd.prog 36 #[.string p, .string ⟨#[34, 10]⟩] w fun e w' => e = .returned (.bool (plainB p)) ∧ Below w.heap.size w w' := by
  have hin := iany_all p w hs
  generalize plainB p = X at *
  go_enter Tryd.func36, Tryd.ntmps36
  go_wp2_with (go_at_call 44; with_reducible refine Calls.mono hin ?_; rintro e w2 ⟨⟨x, rfl, hx⟩, hb2⟩)
  go_ret
  exact ⟨rfl, by assumption⟩
theorem every_ok : OkS (fun _ => True) := ⟨fun _ _ _ _ => trivial, trivial⟩
end Go.Proofs.YtlddbelpbgmljaaDoor
namespace Go.Proofs.YtlddbelpbgmljaaDoor
open Go.RowKit
set_option linter.unusedSimpArgs false
set_option linter.unusedVariables false
set_option linter.unusedSectionVars false

/-! slices.DeleteFunc at bytes, with the closure that asks for 13. -/
theorem cr_any (c : Nat) (w : World) :
    Calls Tryd.prog 22 #[.int .u8 c] w fun e w' => e = .returned (.bool (decide (c = 13))) ∧ w' = w := by
  by_cases h : c = 13
  · subst h
    go_enter Tryd.func22, Tryd.ntmps22
    go_wp2_with fail
    go_ret
    exact ⟨rfl, rfl⟩
  · have hd : ((c : Int) == 13) = false := by rw [beq_eq_false_iff_ne]; omega
    rw [show decide (c = 13) = false from by simpa using h]
    go_enter Tryd.func22, Tryd.ntmps22
    go_wp2_with fail
    go_ret
    exact ⟨rfl, rfl⟩
/-- Where the first 13 stands. -/
def firstCR (s : ByteArray) (x : Int) : Prop := (∃ k : Nat, x = k ∧ k < s.size ∧ byteN s k = 13 ∧ ∀ j, j < k → byteN s j ≠ 13) ∨ (x = -1 ∧ ∀ j, j < s.size → byteN s j ≠ 13)
set_option maxHeartbeats 3200000 in
theorem ifunc_any (b cap : Nat) (s : ByteArray) (w : World) (hb : BytesN w b 0 s) (hs : s.size ≤ 100000000) :
    Calls Tryd.prog 34 #[.slice (some ⟨b, 0, none⟩) s.size cap, .func (.func 22) #[] #[]] w fun e w' => (∃ x : Int, e = .returned (.int .i64 x) ∧ firstCR s x) ∧ w' = w := by
  have HB := Lib.hid hb
  clear hb
  go_enter Tryd.func34, Tryd.ntmps34
  go_wp2_with fail
  go_loopw [8] (fun iv wr => ∃ k : Nat, iv = .int .i64 k ∧ k ≤ s.size ∧ (∀ j, j < k → byteN s j ≠ 13) ∧ wr = w) (fun iv _ => s.size - (intOf iv).toNat)
  case atStart => exact ⟨0, rfl, by omega, by omega, rfl⟩
  case round =>
    obtain ⟨k, rfl, hk, hn, rfl⟩ := hrel
    have HN := Lib.hid hn
    clear hn
    by_cases hlt : k < s.size
    · have e0 : wr.cell? ⟨b, k, none⟩ = some (.int .u8 (byteN s k)) := by have := HB.out k hlt; rwa [Nat.zero_add] at this
      have hcr := fun w => cr_any (byteN s k) w
      by_cases h13 : byteN s k = 13
      · have HF : Hid (firstCR s (k : Int)) := Lib.hid (.inl ⟨k, rfl, hlt, h13, HN.out⟩)
        rw [h13] at e0 hcr
        rw [show decide (13 = 13) = true from rfl, show ((13 : Nat) : Int) = 13 from rfl] at hcr
        rw [show ((13 : Nat) : Int) = 13 from rfl] at e0
        clear h13
        go_wp2_with (go_at_call 22; with_reducible refine Calls.mono (hcr _) ?_; rintro e w3 ⟨rfl, hw3⟩; replace hw3 := hw3.symm; subst hw3)
        go_ret
        exact ⟨⟨_, rfl, HF.out⟩, rfl⟩
      · have HN2 : Hid (∀ j, j < k + 1 → byteN s j ≠ 13) := Lib.hid (by
          intro j hj
          by_cases hjk : j = k
          · subst hjk; exact h13
          · exact HN.out j (by omega))
        rw [show decide (byteN s k = 13) = false from by simpa using h13] at hcr
        clear h13
        generalize byteN s k = c at *
        go_wp2_with (go_at_call 22; with_reducible refine Calls.mono (hcr _) ?_; rintro e w3 ⟨rfl, hw3⟩; replace hw3 := hw3.symm; subst hw3)
        go_roundw
        case rel => exact ⟨k + 1, by go_num, by omega, HN2.out, by first | rfl | trivial⟩
        case measure => simp [intOf]; omega
    · have HF : Hid (firstCR s (-1)) := Lib.hid (.inr ⟨rfl, fun j hj => HN.out j (by omega)⟩)
      go_wp2_with fail
      go_ret
      exact ⟨⟨_, rfl, HF.out⟩, rfl⟩

def RowB (w : World) (b n : Nat) (f : Nat → Nat) : Prop := ∀ j, j < n → w.cell? ⟨b, j, none⟩ = some (.int .u8 (f j)) ∧ w.frozen? ⟨b, j, none⟩ = false
theorem RowB.set {w : World} {b n : Nat} {f : Nat → Nat} (h : RowB w b n f) (i v : Nat) (hi : i < n) : RowB (w.setCell ⟨b, i, none⟩ (.int .u8 v)) b n (fun j => if j = i then v else f j) := by
  have he : w.setCell ⟨b, i, none⟩ (.int .u8 v) = w.setCells b i [.int .u8 (v : Int)] := rfl
  rw [he]
  intro j hj
  refine ⟨?_, by rw [World.frozen?_setCells]; exact (h j hj).2⟩
  by_cases hji : j = i
  · subst hji
    simp only [if_true]
    have := World.cell?_setCells_in b [.int .u8 (v : Int)] j w (by
      intro t ht
      simp only [List.length_cons, List.length_nil] at ht
      obtain rfl : t = 0 := by omega
      rw [Nat.add_zero, (h j hj).1]; rfl) 0 (by simp)
    rw [Nat.add_zero] at this
    exact this
  · simp only [if_neg hji]
    rw [World.cell?_setCells_out b _ _ _ _ (fun _ _ => by simp only [List.length_cons, List.length_nil]; omega)]
    exact (h j hj).1
def FL (s : ByteArray) (j : Nat) : List Nat := ((bytesL s).take j).filter (· ≠ 13)
theorem bytesL_get (s : ByteArray) (j : Nat) (h : j < s.size) : (bytesL s)[j]? = some (byteN s j) := by
  have hk : j < s.data.toList.length := by simpa using h
  simp only [bytesL, List.getElem?_map, List.getElem?_eq_getElem hk, Option.map_some, byteN, List.getD_eq_getElem?_getD, Option.getD_some]
theorem FL_succ (s : ByteArray) (j : Nat) (h : j < s.size) : FL s (j + 1) = FL s j ++ (if byteN s j = 13 then [] else [byteN s j]) := by
  unfold FL
  rw [List.take_add_one, bytesL_get s j h, List.filter_append]
  congr 1
  by_cases h13 : byteN s j = 13
  · simp [h13]
  · simp [h13]
theorem FL_len (s : ByteArray) : ∀ j, j ≤ s.size → (FL s j).length ≤ j := by
  intro j hj
  unfold FL
  refine Nat.le_trans (List.length_filter_le _ _) ?_
  simp [bytesL_len]; omega
theorem FL_plain (s : ByteArray) : ∀ k, k ≤ s.size → (∀ j, j < k → byteN s j ≠ 13) → FL s k = (bytesL s).take k
  | 0, _, _ => by simp [FL]
  | k + 1, h, hn => by
    rw [FL_succ s k (by omega), FL_plain s k (by omega) (fun j hj => hn j (by omega)), if_neg (hn k (by omega)), List.take_add_one, bytesL_get s k (by omega)]
    rfl
theorem FL_all (s : ByteArray) : FL s s.size = (bytesL s).filter (· ≠ 13) := by
  unfold FL
  rw [List.take_of_length_le (by rw [bytesL_len]; omega)]
theorem FL_lt (s : ByteArray) (j : Nat) : ∀ x ∈ FL s j, x < 256 := fun x hx => bytesL_lt s x (List.mem_of_mem_take (List.mem_filter.1 hx).1)
theorem fl_bsl {w : World} {b n : Nat} {f : Nat → Nat} {l : List Nat} (h : RowB w b n f) (hl : l.length ≤ n) (hx : ∀ x ∈ l, x < 256) (hf : ∀ t, t < l.length → l[t]? = some (f t)) (hb : b < w.heap.size) : BSl w (some ⟨b, 0, none⟩) (bytesOf l) := by
  refine .inr ⟨b, 0, rfl, ?_, hb⟩
  intro i hi
  rw [bytesOf_size] at hi
  rw [Nat.zero_add, (h i (by omega)).1]
  have h1 := bytesOf_byte l hx i hi
  have h2 := hf i hi
  simp only [u8s, List.getElem?_map, h2, Option.map_some, Option.some.injEq] at h1
  rw [h1]

theorem byteN_13 (s : ByteArray) (j : Nat) (h : j < s.size) : byteN s j = 13 ↔ s.data.toList[j]? = some 13 := by
  have hk : j < s.data.toList.length := by simpa using h
  simp only [byteN, List.getD_eq_getElem?_getD, List.getElem?_eq_getElem hk, Option.getD_some, Option.some.injEq]
  rw [← UInt8.toNat_inj]; rfl
theorem firstCR_ex (s : ByteArray) : ∃ x, firstCR s x := by
  have hge := Lib.indexByte_ge s.data.toList 13
  by_cases h : Lib.indexByte s.data.toList 13 = -1
  · exact ⟨-1, .inr ⟨rfl, fun j hj h13 => Lib.indexByte_none h j ((byteN_13 s j hj).1 h13)⟩⟩
  · obtain ⟨k, hk⟩ : ∃ k : Nat, Lib.indexByte s.data.toList 13 = k := ⟨(Lib.indexByte s.data.toList 13).toNat, by omega⟩
    have h2 := Lib.indexByte_some hk
    have hlt : k < s.size := by simpa using ix_lt hk
    exact ⟨k, .inl ⟨k, rfl, hlt, (byteN_13 s k hlt).2 h2.1, fun j hj h13 => h2.2 j hj ((byteN_13 s j (by omega)).1 h13)⟩⟩
theorem firstCR_uniq {s : ByteArray} {x y : Int} (h : firstCR s x) (h' : firstCR s y) : x = y := by
  rcases h with ⟨k, rfl, k1, k2, k3⟩ | ⟨rfl, hn⟩
  · rcases h' with ⟨m, rfl, m1, m2, m3⟩ | ⟨rfl, hn⟩
    · by_cases h1 : k < m
      · exact absurd k2 (m3 k h1)
      · by_cases h2 : m < k
        · exact absurd m2 (k3 m h2)
        · omega
    · exact absurd k2 (hn k k1)
  · rcases h' with ⟨m, rfl, m1, m2, m3⟩ | ⟨rfl, hn'⟩
    · exact absurd m2 (hn m m1)
    · rfl

theorem Lib.below_setCells_w2 {B b : Nat} {a : World} (hb : B ≤ b) : ∀ {w : World} (_ : Below B a w) (vs : List Value) (o : Nat), Below B a (w.setCells b o vs)
  | w, h, [], o => h
  | w, h, v :: vs, o => Lib.below_setCells_w2 hb (h.setCell (p := ⟨b, o, none⟩) hb v) vs (o + 1)

set_option maxHeartbeats 6400000 in
theorem dfunc_any (b cap : Nat) (s : ByteArray) (w : World) (hr : RowB w b s.size (byteN s)) (hb : b < w.heap.size) (hs : s.size ≤ 100000000) (hcap : s.size ≤ cap) :
    Calls Tryd.prog 21 #[.slice (some ⟨b, 0, none⟩) s.size cap, .func (.func 22) #[] #[]] w fun e w' =>
      e = .returned (.slice (some ⟨b, 0, none⟩) (FL s s.size).length cap) ∧ BSl w' (some ⟨b, 0, none⟩) (bytesOf (FL s s.size)) ∧ Below b w w' := by
  have hif := ifunc_any b cap s w (fun i hi => by rw [Nat.zero_add]; exact (hr i hi).1) hs
  obtain ⟨x, hx⟩ := firstCR_ex s
  have hif2 : Calls Tryd.prog 34 #[.slice (some ⟨b, 0, none⟩) s.size cap, .func (.func 22) #[] #[]] w fun e w' => e = .returned (.int .i64 x) ∧ w' = w := by
    refine hif.mono ?_
    rintro e w' ⟨⟨y, rfl, hy⟩, rfl⟩
    exact ⟨by rw [firstCR_uniq hy hx], rfl⟩
  clear hif
  have HR := Lib.hid hr
  clear hr
  rcases (show _ ∨ _ from hx.symm) with ⟨rfl, hn⟩ | ⟨k, rfl, hk, h13, hn⟩
  · have hfl := FL_plain s s.size (Nat.le_refl _) hn
    rw [List.take_of_length_le (by rw [bytesL_len]; omega)] at hfl
    have HFL := Lib.hid hfl
    clear hfl hn
    go_enter Tryd.func21, Tryd.ntmps21
    go_wp2_with (go_at_call 34; with_reducible refine Calls.mono hif2 ?_; rintro e w2 ⟨rfl, hw2⟩; replace hw2 := hw2.symm; subst hw2; clear hif2)
    go_ret
    rw [HFL.out, bytesL_len]
    refine ⟨rfl, ?_, Below.refl _ _⟩
    exact fl_bsl HR.out (by rw [bytesL_len]; omega) (bytesL_lt s) (fun t ht => bytesL_get s t (by rwa [bytesL_len] at ht)) hb
  · have HH : Hid (byteN s k = 13 ∧ ∀ j, j < k → byteN s j ≠ 13) := Lib.hid ⟨h13, hn⟩
    clear h13 hn
    have hkm : ((k : Int) == -1) = false := by rw [beq_eq_false_iff_ne]; omega
    go_enter Tryd.func21, Tryd.ntmps21
    go_wp2_with (go_at_call 34; with_reducible refine Calls.mono hif2 ?_; rintro e w2 ⟨rfl, hw2⟩; replace hw2 := hw2.symm; subst hw2; clear hif2)
    have h13 := HH.out.1
    have hn := HH.out.2
    have HFL : Hid (FL s (k + 1) = (bytesL s).take k) := Lib.hid (by rw [FL_succ s k hk, if_pos h13, List.append_nil, FL_plain s k (by omega) hn])
    have hfll : ((bytesL s).take k).length = k := by simp [bytesL_len]; omega
    clear h13 hn hkm
    go_loopw [5, 6, 7] (fun iv jv _ wr => ∃ (i j : Nat) (f : Nat → Nat), iv = .int .i64 i ∧ jv = .int .i64 j ∧ i < j ∧ j ≤ s.size ∧ i = (FL s j).length ∧ RowB wr b s.size f ∧ (∀ t, t < i → (FL s j)[t]? = some (f t)) ∧ (∀ t, j ≤ t → t < s.size → f t = byteN s t) ∧ Below b w wr ∧ b < wr.heap.size) (fun _ jv _ _ => s.size - (intOf jv).toNat)
    case atStart =>
      refine ⟨k, k + 1, byteN s, rfl, rfl, by omega, by omega, by rw [HFL.out, hfll], HR.out, ?_, fun _ _ _ => rfl, Below.refl _ _, hb⟩
      intro t ht
      rw [HFL.out, List.getElem?_take, if_pos ht]
      exact bytesL_get s t (by omega)
    case round =>
      obtain ⟨i, j, f, rfl, rfl, hij, hj, hi, hrow, hf1, hf2, hbl, hbs⟩ := hrel
      have HROW := Lib.hid hrow
      have HF1 := Lib.hid hf1
      have HF2 := Lib.hid hf2
      have HBL := Lib.hid hbl
      have HI := Lib.hid hi
      clear hrow hf1 hf2 hbl HFL hfll HR hi
      by_cases hlt : j < s.size
      · have hfj := HF2.out j (Nat.le_refl _) hlt
        have e0 : wr.cell? ⟨b, j, none⟩ = some (.int .u8 (byteN s j)) := by rw [(HROW.out j hlt).1, hfj]
        have e1 : wr.cell? ⟨b, i, none⟩ = some (.int .u8 (f i)) := (HROW.out i (by omega)).1
        have e2 : wr.frozen? ⟨b, i, none⟩ = false := (HROW.out i (by omega)).2
        have hcr := fun w => cr_any (byteN s j) w
        have hil : i < s.size := by omega
        have hils : (i : Int) < s.size := by omega
        by_cases h13 : byteN s j = 13
        · have HFN : Hid (FL s (j + 1) = FL s j) := Lib.hid (by rw [FL_succ s j hlt, if_pos h13, List.append_nil])
          rw [h13] at e0 hcr
          rw [show decide (13 = 13) = true from rfl, show ((13 : Nat) : Int) = 13 from rfl] at hcr
          rw [show ((13 : Nat) : Int) = 13 from rfl] at e0
          clear h13 hfj e1 e2
          go_wp2_with (go_at_call 22; with_reducible refine Calls.mono (hcr _) ?_; rintro e w3 ⟨rfl, hw3⟩; replace hw3 := hw3.symm; subst hw3)
          go_roundw
          case rel => exact ⟨i, j + 1, f, rfl, by go_num, by omega, by omega, by rw [HFN.out]; exact HI.out, HROW.out, by rw [HFN.out]; exact HF1.out, fun t h1 h2 => HF2.out t (by omega) h2, HBL.out, hbs⟩
          case measure => simp [intOf]; omega
        · have HFN : Hid (FL s (j + 1) = FL s j ++ [byteN s j]) := Lib.hid (by rw [FL_succ s j hlt, if_neg h13])
          rw [show decide (byteN s j = 13) = false from by simpa using h13] at hcr
          have HRN := Lib.hid (HROW.out.set i (byteN s j) hil)
          clear h13 hfj
          have HEV : Hid (∃ v, byteN s j = v) := Lib.hid ⟨_, rfl⟩
          generalize hv : byteN s j = v at e0 hcr HFN HRN
          have HV := Lib.hid hv
          clear hv
          go_wp2_with (go_at_call 22; with_reducible refine Calls.mono (hcr _) ?_; rintro e w3 ⟨rfl, hw3⟩; replace hw3 := hw3.symm; subst hw3)
          go_roundw
          case rel =>
            refine ⟨i + 1, j + 1, _, by go_num, by go_num, by omega, by omega, by rw [HFN.out, List.length_append, ← HI.out]; rfl, HRN.out, ?_, ?_, HBL.out.setCell (p := ⟨b, i, none⟩) (Nat.le_refl _) _, by simpa using hbs⟩
            · intro t ht
              rw [HFN.out]
              by_cases hti : t = i
              · subst hti
                simp only [if_true]
                rw [List.getElem?_append_right (by rw [← HI.out]; omega), ← HI.out, Nat.sub_self]; rfl
              · simp only [if_neg hti]
                rw [List.getElem?_append_left (by rw [← HI.out]; omega)]
                exact HF1.out t (by omega)
            · intro t h1 h2
              simp only [if_neg (show ¬ t = i by omega)]
              exact HF2.out t (by omega) h2
          case measure => simp [intOf]; omega
      · obtain rfl : j = s.size := by omega
        have hclr := Lib.run_clear_slice (P := Tryd.prog) wr 29 5 0 (.int .u8 0) Tryd.underlying29 (fun _ => by kernel_rfl) rfl rfl b i (s.size - i) (cap - i) (by omega) (fun t ht => by rw [(HROW.out (i + t) (by omega)).1]; rfl) (fun t ht => (HROW.out (i + t) (by omega)).2)
        have hsi : (s.size : Int) - (i : Int) = ((s.size - i : Nat) : Int) := by omega
        have hic : i ≤ cap := by omega
        have hisz : i ≤ s.size := by omega
        have hicI : (i : Int) ≤ cap := by omega
        have hisI : (i : Int) ≤ s.size := by omega
        go_wp2_with fail
        go_ret
        have hrow2 : RowB (wr.setCells b i (List.replicate (s.size - i) (.int .u8 0))) b i f := by
          intro t ht
          refine ⟨?_, by rw [World.frozen?_setCells]; exact (HROW.out t (by omega)).2⟩
          rw [World.cell?_setCells_out b _ _ _ _ (fun _ _ => .inl ht)]
          exact (HROW.out t (by omega)).1
        have hbel : Below b w (wr.setCells b i (List.replicate (s.size - i) (.int .u8 0))) := Lib.below_setCells_w2 (Nat.le_refl b) HBL.out _ _
        refine ⟨by rw [← HI.out]; rfl, ?_, hbel⟩
        exact fl_bsl hrow2 (by rw [← HI.out]; omega) (FL_lt s _) (fun t ht => HF1.out t (by rw [HI.out]; exact ht)) (Nat.lt_of_lt_of_le hb hbel.size)
end Go.Proofs.YtlddbelpbgmljaaDoor
namespace Go.Proofs.YtlddbelpbgmljaaDoor
open Go.RowKit
set_option linter.unusedSimpArgs false
set_option linter.unusedVariables false
set_option linter.unusedSectionVars false

/-! Layer 3: text's other ways. -/
set_option maxHeartbeats 6400000 in
theorem text_wrong (s : ByteArray) (w : World) (h : 2 ≤ s.size) (hs : s.size ≤ 100000) (h3 : byteN s 0 = byteN s (s.size - 1)) (hw : 0 ≤ wrongF s) :
    Calls Tryd.prog 14 #[.string s] w fun e w' => e = .panicked [{ v := .iface 23 (.int .i64 4), recovered := false }] ∧ Below w.heap.size w w' := by
  have hd : decide ((2 : Int) ≤ (s.size : Int)) = true := by simp; omega
  have hx0 := str_byte s 0 (by omega)
  obtain ⟨k, hk⟩ : ∃ k, s.size - 1 = k := ⟨_, rfl⟩
  have hk1 : (s.size : Int) - 1 = (k : Int) := by omega
  have hk2 : k < s.size := by omega
  have hk3 : (k : Int) < s.size := by omega
  have hk4 : 1 ≤ k := by omega
  have hk5 : (1 : Int) ≤ k := by omega
  have hk6 : (k : Int) ≤ s.size := by omega
  have hk7 : k ≤ s.size := by omega
  have hk8 : IntKind.i64.wrap (k : Int) = k := IntWalk.i64_in _ (by omega)
  have hx1 := str_byte s k hk2
  rw [hk] at h3
  rw [← h3] at hx1
  have h0 : 0 < s.size := by omega
  have h0' : (0 : Int) < s.size := by omega
  have hcv := fun w => run_bytes_of_string (P := Tryd.prog) w 9 29 5 s Tryd.underlying9 Tryd.underlying29 Tryd.underlying5
  generalize byteN s 0 = c at *
  clear h3 hk
  go_enter Tryd.func14, Tryd.ntmps14
  go_wp2_with fail
  have hI0 : InvC w [] w.drew := InvC.start (Below.refl _ _) (by simp)
  have hne5 : Nonempty (Wld (InvC w [])) := ⟨⟨_, hI0⟩⟩
  refine wp_region_inv (InvC w []) (by kernel_rfl) (by kernel_rfl) hI0 ?_
  clear hI0
  repeat (go_big_quiet_step ((go_at_call 13; exact Calls.inv_same (need_yes2 _ _))))
  refine wpQuiet_nil ?_
  intro w6 hw6
  have HB6 : Hid (Below w.heap.size w w6) := by obtain ⟨i, rfl⟩ := hw6; exact i.ok.1
  clear hw6 hne5
  have hcv6 := hcv w6
  have hge := grownCap_ge w6 s.size 0 5
  generalize grownCap w6 s.size 0 5 = gc at *
  have hbs := bytesRow_bsl s w6.drew gc hge ((bytesRow s gc).size, (bytesRow s gc).size + 1)
  have hb7 : Below w6.heap.size w6 (w6.drew.alloc (.cells (bytesRow s gc) 5 ((bytesRow s gc).size, (bytesRow s gc).size + 1))) := (Below.refl _ _).drew.alloc (Nat.le_refl _) _
  have hwr := wrong_b (some ⟨w6.heap.size, 0, none⟩) gc s _ hbs (by omega)
  have HB7 := Lib.hid hb7
  generalize w6.drew.alloc (.cells (bytesRow s gc) 5 ((bytesRow s gc).size, (bytesRow s gc).size + 1)) = w7 at *
  clear hbs hb7 hcv hge
  have hwn : decide (wrongF s < 0) = false := by simpa using hw
  generalize wrongF s = wf at *
  go_wp2_with (first
                        | (go_at_call 19; with_reducible refine Calls.mono hwr ?_; rintro e w8 ⟨rfl, hb8⟩; have HB8 := Lib.hid hb8; clear hb8 hwr)
                        | (go_at_call 13; with_reducible refine Calls.mono (need_no _ _) ?_; rintro e w9 ⟨rfl, hw9⟩; replace hw9 := hw9.symm; subst hw9))
  exact ⟨rfl, rfl, (HB6.out.trans (HB7.out.mono HB6.out.size)).trans (HB8.out.mono (Nat.le_trans HB6.out.size HB7.out.size))⟩
set_option maxHeartbeats 6400000 in
theorem text_other (s : ByteArray) (w : World) (h : 2 ≤ s.size) (hs : s.size ≤ 100000) (h3 : byteN s 0 = byteN s (s.size - 1)) (hw : wrongF s < 0) (h96 : byteN s 0 ≠ 96) (h34 : byteN s 0 ≠ 34) :
    Calls Tryd.prog 14 #[.string s] w fun e w' => e = .panicked [{ v := .iface 23 (.int .i64 4), recovered := false }] ∧ Below w.heap.size w w' := by
  have hd : decide ((2 : Int) ≤ (s.size : Int)) = true := by simp; omega
  have hx0 := str_byte s 0 (by omega)
  obtain ⟨k, hk⟩ : ∃ k, s.size - 1 = k := ⟨_, rfl⟩
  have hk1 : (s.size : Int) - 1 = (k : Int) := by omega
  have hk2 : k < s.size := by omega
  have hk3 : (k : Int) < s.size := by omega
  have hk4 : 1 ≤ k := by omega
  have hk5 : (1 : Int) ≤ k := by omega
  have hk6 : (k : Int) ≤ s.size := by omega
  have hk7 : k ≤ s.size := by omega
  have hk8 : IntKind.i64.wrap (k : Int) = k := IntWalk.i64_in _ (by omega)
  have hx1 := str_byte s k hk2
  rw [hk] at h3
  rw [← h3] at hx1
  have h0 : 0 < s.size := by omega
  have h0' : (0 : Int) < s.size := by omega
  have hcv := fun w => run_bytes_of_string (P := Tryd.prog) w 9 29 5 s Tryd.underlying9 Tryd.underlying29 Tryd.underlying5
  generalize byteN s 0 = c at *
  have m1 : ((c : Int) == 96) = false := by simp; omega
  have m2 : ((c : Int) == 34) = false := by simp; omega
  clear h3 hk
  go_enter Tryd.func14, Tryd.ntmps14
  go_wp2_with fail
  have hI0 : InvC w [] w.drew := InvC.start (Below.refl _ _) (by simp)
  have hne5 : Nonempty (Wld (InvC w [])) := ⟨⟨_, hI0⟩⟩
  refine wp_region_inv (InvC w []) (by kernel_rfl) (by kernel_rfl) hI0 ?_
  clear hI0
  repeat (go_big_quiet_step ((go_at_call 13; exact Calls.inv_same (need_yes2 _ _))))
  refine wpQuiet_nil ?_
  intro w6 hw6
  have HB6 : Hid (Below w.heap.size w w6) := by obtain ⟨i, rfl⟩ := hw6; exact i.ok.1
  clear hw6 hne5
  have hcv6 := hcv w6
  have hge := grownCap_ge w6 s.size 0 5
  generalize grownCap w6 s.size 0 5 = gc at *
  have hbs := bytesRow_bsl s w6.drew gc hge ((bytesRow s gc).size, (bytesRow s gc).size + 1)
  have hb7 : Below w6.heap.size w6 (w6.drew.alloc (.cells (bytesRow s gc) 5 ((bytesRow s gc).size, (bytesRow s gc).size + 1))) := (Below.refl _ _).drew.alloc (Nat.le_refl _) _
  have hwr := wrong_b (some ⟨w6.heap.size, 0, none⟩) gc s _ hbs (by omega)
  have HB7 := Lib.hid hb7
  generalize w6.drew.alloc (.cells (bytesRow s gc) 5 ((bytesRow s gc).size, (bytesRow s gc).size + 1)) = w7 at *
  clear hbs hb7 hcv hge
  have hwn : decide (wrongF s < 0) = true := by simpa using hw
  generalize wrongF s = wf at *
  go_wp2_with (first
                        | (go_at_call 19; with_reducible refine Calls.mono hwr ?_; rintro e w8 ⟨rfl, hb8⟩; have HB8 := Lib.hid hb8; clear hb8 hwr)
                        | (go_at_call 13; with_reducible refine Calls.mono (need_yes2 _ _) ?_; rintro e w9 ⟨rfl, hw9⟩; replace hw9 := hw9.symm; subst hw9))
  exact ⟨rfl, rfl, (HB6.out.trans (HB7.out.mono HB6.out.size)).trans (HB8.out.mono (Nat.le_trans HB6.out.size HB7.out.size))⟩
set_option maxHeartbeats 6400000 in
theorem text_raw_no (s : ByteArray) (w : World) (h : 2 ≤ s.size) (hs : s.size ≤ 100000) (h2 : byteN s 0 = 96) (h3 : byteN s (s.size - 1) = 96) (hw : wrongF s < 0) (hc : 0 ≤ Lib.indexByte (inner s).data.toList 96) :
    Calls Tryd.prog 14 #[.string s] w fun e w' => e = .panicked [{ v := .iface 23 (.int .i64 4), recovered := false }] ∧ Below w.heap.size w w' := by
  have hd : decide ((2 : Int) ≤ (s.size : Int)) = true := by simp; omega
  have hx0 := str_byte s 0 (by omega)
  obtain ⟨k, hk⟩ : ∃ k, s.size - 1 = k := ⟨_, rfl⟩
  have hk1 : (s.size : Int) - 1 = (k : Int) := by omega
  have hk2 : k < s.size := by omega
  have hk3 : (k : Int) < s.size := by omega
  have hk4 : 1 ≤ k := by omega
  have hk5 : (1 : Int) ≤ k := by omega
  have hk6 : (k : Int) ≤ s.size := by omega
  have hk7 : k ≤ s.size := by omega
  have hk8 : IntKind.i64.wrap (k : Int) = k := IntWalk.i64_in _ (by omega)
  have hx1 := str_byte s k hk2
  rw [hk] at h3
  rw [h3] at hx1
  have h0 : 0 < s.size := by omega
  have h0' : (0 : Int) < s.size := by omega
  have hcv := fun w => run_bytes_of_string (P := Tryd.prog) w 9 29 5 s Tryd.underlying9 Tryd.underlying29 Tryd.underlying5
  rw [h2] at hx0
  have hin : inner s = s.extract 1 k := by rw [inner, hk]
  rw [hin] at hc
  have hct := fun w => Tryd.strings_Contains_one (s.extract 1 k) 96 w
  have htl : (s.extract 1 k).size ≤ 100000 := by simp; omega
  clear h2 h3 hin hk
  rw [show decide (0 ≤ Lib.indexByte (s.extract 1 k).data.toList 96) = true from by simpa using hc] at hct
  go_enter Tryd.func14, Tryd.ntmps14
  go_wp2_with fail
  have hI0 : InvC w [] w.drew := InvC.start (Below.refl _ _) (by simp)
  have hne5 : Nonempty (Wld (InvC w [])) := ⟨⟨_, hI0⟩⟩
  refine wp_region_inv (InvC w []) (by kernel_rfl) (by kernel_rfl) hI0 ?_
  clear hI0
  repeat (go_big_quiet_step ((go_at_call 13; exact Calls.inv_same (need_yes2 _ _))))
  refine wpQuiet_nil ?_
  intro w6 hw6
  have HB6 : Hid (Below w.heap.size w w6) := by obtain ⟨i, rfl⟩ := hw6; exact i.ok.1
  clear hw6 hne5
  have hcv6 := hcv w6
  have hge := grownCap_ge w6 s.size 0 5
  generalize grownCap w6 s.size 0 5 = gc at *
  have hbs := bytesRow_bsl s w6.drew gc hge ((bytesRow s gc).size, (bytesRow s gc).size + 1)
  have hb7 : Below w6.heap.size w6 (w6.drew.alloc (.cells (bytesRow s gc) 5 ((bytesRow s gc).size, (bytesRow s gc).size + 1))) := (Below.refl _ _).drew.alloc (Nat.le_refl _) _
  have hwr := wrong_b (some ⟨w6.heap.size, 0, none⟩) gc s _ hbs (by omega)
  have HB7 := Lib.hid hb7
  generalize w6.drew.alloc (.cells (bytesRow s gc) 5 ((bytesRow s gc).size, (bytesRow s gc).size + 1)) = w7 at *
  clear hbs hb7 hcv hge
  have hwn : decide (wrongF s < 0) = true := by simpa using hw
  generalize wrongF s = wf at *
  go_wp2_with (first
                        | (go_at_call 19; with_reducible refine Calls.mono hwr ?_; rintro e w8 ⟨rfl, hb8⟩; have HB8 := Lib.hid hb8; clear hb8 hwr)
                        | (go_at_call 13; with_reducible refine Calls.mono (need_yes2 _ _) ?_; rintro e w9 ⟨rfl, hw9⟩; replace hw9 := hw9.symm; subst hw9)
                        | (go_at_call 13; with_reducible refine Calls.mono (need_no _ _) ?_; rintro e w9 ⟨rfl, hw9⟩; replace hw9 := hw9.symm; subst hw9)
                        | (go_at_call 20; with_reducible refine Calls.mono (hct _) ?_; rintro e w9 ⟨rfl, hw9⟩; replace hw9 := hw9.symm; subst hw9))
  exact ⟨rfl, rfl, (HB6.out.trans (HB7.out.mono HB6.out.size)).trans (HB8.out.mono (Nat.le_trans HB6.out.size HB7.out.size))⟩
theorem row_of_string (s : ByteArray) (w : World) (cap : Nat) (h : s.size ≤ cap) : RowB (w.alloc (.cells (bytesRow s cap) 5 ((bytesRow s cap).size, (bytesRow s cap).size + 1))) w.heap.size s.size (byteN s) := by
  have hb : (w.alloc (.cells (bytesRow s cap) 5 ((bytesRow s cap).size, (bytesRow s cap).size + 1))).heap[w.heap.size]? = some (.cells (bytesRow s cap) 5 ((bytesRow s cap).size, (bytesRow s cap).size + 1)) := heap_alloc_new w _
  have hsz : s.size ≤ (bytesRow s cap).size := by simp [bytesRow]
  intro j hj
  refine ⟨?_, ?_⟩
  · rw [cell_of hb, bytesRow_at s cap j hj]
    simp [byteN, List.getD_eq_getElem?_getD, List.getElem?_eq_getElem (show j < s.data.toList.length by simpa using hj)]
  · simp only [World.frozen?, hb, Bool.and_eq_false_iff, decide_eq_false_iff_not]
    left; omega
set_option maxHeartbeats 6400000 in
theorem text_raw_ok (s : ByteArray) (w : World) (h : 2 ≤ s.size) (hs : s.size ≤ 100000) (h2 : byteN s 0 = 96) (h3 : byteN s (s.size - 1) = 96) (hw : wrongF s < 0) (hc : Lib.indexByte (inner s).data.toList 96 < 0) :
    Calls Tryd.prog 14 #[.string s] w fun e w' => e = .returned (.string (bytesOf ((bytesL (inner s)).filter (· ≠ 13)))) ∧ Below w.heap.size w w' := by
  have hd : decide ((2 : Int) ≤ (s.size : Int)) = true := by simp; omega
  have hx0 := str_byte s 0 (by omega)
  obtain ⟨k, hk⟩ : ∃ k, s.size - 1 = k := ⟨_, rfl⟩
  have hk1 : (s.size : Int) - 1 = (k : Int) := by omega
  have hk2 : k < s.size := by omega
  have hk3 : (k : Int) < s.size := by omega
  have hk4 : 1 ≤ k := by omega
  have hk5 : (1 : Int) ≤ k := by omega
  have hk6 : (k : Int) ≤ s.size := by omega
  have hk7 : k ≤ s.size := by omega
  have hk8 : IntKind.i64.wrap (k : Int) = k := IntWalk.i64_in _ (by omega)
  have hx1 := str_byte s k hk2
  rw [hk] at h3
  rw [h3] at hx1
  have h0 : 0 < s.size := by omega
  have h0' : (0 : Int) < s.size := by omega
  have hcv := fun w => run_bytes_of_string (P := Tryd.prog) w 9 29 5 s Tryd.underlying9 Tryd.underlying29 Tryd.underlying5
  rw [h2] at hx0
  have hin : inner s = s.extract 1 k := by rw [inner, hk]
  rw [hin] at hc ⊢
  have hct := fun w => Tryd.strings_Contains_one (s.extract 1 k) 96 w
  have htl : (s.extract 1 k).size ≤ 100000 := by simp; omega
  clear h2 h3 hin hk
  rw [show decide (0 ≤ Lib.indexByte (s.extract 1 k).data.toList 96) = false from by simpa using hc] at hct
  rw [← FL_all]
  have hcv2 := fun w => run_bytes_of_string (P := Tryd.prog) w 9 29 5 (s.extract 1 k) Tryd.underlying9 Tryd.underlying29 Tryd.underlying5
  obtain ⟨t, ht⟩ : ∃ t, s.extract 1 k = t := ⟨_, rfl⟩
  simp only [ht] at hct hcv2 htl hc
  rw [ht]
  go_enter Tryd.func14, Tryd.ntmps14
  go_wp2_with fail
  have hI0 : InvC w [] w.drew := InvC.start (Below.refl _ _) (by simp)
  have hne5 : Nonempty (Wld (InvC w [])) := ⟨⟨_, hI0⟩⟩
  refine wp_region_inv (InvC w []) (by kernel_rfl) (by kernel_rfl) hI0 ?_
  clear hI0
  repeat (go_big_quiet_step ((go_at_call 13; exact Calls.inv_same (need_yes2 _ _))))
  refine wpQuiet_nil ?_
  intro w6 hw6
  have HB6 : Hid (Below w.heap.size w w6) := by obtain ⟨i, rfl⟩ := hw6; exact i.ok.1
  clear hw6 hne5
  have hcv6 := hcv w6
  have hge := grownCap_ge w6 s.size 0 5
  generalize grownCap w6 s.size 0 5 = gc at *
  have hbs := bytesRow_bsl s w6.drew gc hge ((bytesRow s gc).size, (bytesRow s gc).size + 1)
  have hb7 : Below w6.heap.size w6 (w6.drew.alloc (.cells (bytesRow s gc) 5 ((bytesRow s gc).size, (bytesRow s gc).size + 1))) := (Below.refl _ _).drew.alloc (Nat.le_refl _) _
  have hwr := wrong_b (some ⟨w6.heap.size, 0, none⟩) gc s _ hbs (by omega)
  have HB7 := Lib.hid hb7
  generalize w6.drew.alloc (.cells (bytesRow s gc) 5 ((bytesRow s gc).size, (bytesRow s gc).size + 1)) = w7 at *
  clear hbs hb7 hcv hge
  have hwn : decide (wrongF s < 0) = true := by simpa using hw
  generalize wrongF s = wf at *
  go_wp2_with (first
                        | (go_at_call 19; with_reducible refine Calls.mono hwr ?_; rintro e w8 ⟨rfl, hb8⟩; have HB8 := Lib.hid hb8; clear hb8 hwr
                           have hcv8 := hcv2 w8
                           have hge8 := grownCap_ge w8 t.size 0 5
                           generalize grownCap w8 t.size 0 5 = gd at *
                           have hrw := row_of_string t w8.drew gd hge8
                           have hb9 : Below w8.heap.size w8 (w8.drew.alloc (.cells (bytesRow t gd) 5 ((bytesRow t gd).size, (bytesRow t gd).size + 1))) := (Below.refl _ _).drew.alloc (Nat.le_refl _) _
                           have hdf := dfunc_any w8.heap.size gd t _ hrw (by simp) (by omega) hge8
                           have HB9 := Lib.hid hb9
                           generalize w8.drew.alloc (.cells (bytesRow t gd) 5 ((bytesRow t gd).size, (bytesRow t gd).size + 1)) = w9 at *
                           clear hrw hb9 hcv2 hge8)
                        | (go_at_call 13; with_reducible refine Calls.mono (need_yes2 _ _) ?_; rintro e w5 ⟨rfl, hw5⟩; replace hw5 := hw5.symm; subst hw5)
                        | (go_at_call 20; with_reducible refine Calls.mono (hct _) ?_; rintro e w5 ⟨rfl, hw5⟩; replace hw5 := hw5.symm; subst hw5)
                        | (go_at_call 21; with_reducible refine Calls.mono hdf ?_; rintro e w10 ⟨rfl, hbs10, hb10⟩; have hcv10 := conv_at hbs10 gd; rw [bytesOf_size] at hcv10; have HB10 := Lib.hid hb10; clear hb10 hbs10 hdf))
  go_ret
  have h8 : w.heap.size ≤ w8.heap.size := Nat.le_trans (Nat.le_trans HB6.out.size HB7.out.size) HB8.out.size
  exact ⟨rfl, ((((HB6.out.trans (HB7.out.mono HB6.out.size)).trans (HB8.out.mono (Nat.le_trans HB6.out.size HB7.out.size))).trans (HB9.out.mono h8))).trans (HB10.out.mono h8)⟩
end Go.Proofs.YtlddbelpbgmljaaDoor
namespace Go.Proofs.YtlddbelpbgmljaaDoor
open Go.RowKit
set_option linter.unusedSimpArgs false
set_option linter.unusedVariables false
set_option linter.unusedSectionVars false

set_option maxHeartbeats 3200000 in
theorem text_short (s : ByteArray) (w : World) (h : s.size < 2) :
    Calls Tryd.prog 14 #[.string s] w fun e w' => e = .panicked [{ v := .iface 23 (.int .i64 4), recovered := false }] ∧ Below w.heap.size w w' := by
  have hd : decide ((2 : Int) ≤ (s.size : Int)) = false := by simp; omega
  have hd2 : decide (2 ≤ s.size) = false := by simp; omega
  go_enter Tryd.func14, Tryd.ntmps14
  go_wp2_with fail
  refine wp_region_any (by kernel_rfl) ?_
  change wpAny _ _ _ _ _ _ _ (World.drew _)
  refine wpAny_take (i := 0) (v := .string s) rfl (by kernel_rfl) (by kernel_rfl) (by kernel_rfl) (fun _ _ _ h => h) (Or.inl ⟨by rfl, by intro w; go_simp⟩) ?_
  refine wpAny_take (i := 1) (v := .int .i64 s.size) rfl (by kernel_rfl) (by kernel_rfl) (by kernel_rfl) (fun _ _ _ h => h) (Or.inl ⟨by rfl, by intro w; go_simp⟩) ?_
  refine wpAny_take (i := 2) (v := .bool false) rfl (by kernel_rfl) (by kernel_rfl) (by kernel_rfl) (fun _ _ _ h => h) (Or.inl ⟨by rfl, by intro w; go_simp⟩) ?_
  refine wpAny_take (i := 3) (v := .bool false) rfl (by kernel_rfl) (by kernel_rfl) (by kernel_rfl) (fun _ _ _ h => h) (Or.inl ⟨by rfl, by intro w; go_simp⟩) ?_
  refine wpAny_take (i := 4) (v := undef) rfl (by kernel_rfl) (by kernel_rfl) (by kernel_rfl) (fun _ _ _ h => h) (Or.inr ⟨by kernel_rfl, rfl⟩) ?_
  refine wpAny_take (i := 5) (v := undef) rfl (by kernel_rfl) (by kernel_rfl) (by kernel_rfl) (fun _ _ _ h => h) (Or.inr ⟨by kernel_rfl, rfl⟩) ?_
  refine wpAny_take (i := 6) (v := undef) rfl (by kernel_rfl) (by kernel_rfl) (by kernel_rfl) (fun _ _ _ h => h) (Or.inr ⟨by kernel_rfl, rfl⟩) ?_
  refine wpAny_take (i := 7) (v := undef) rfl (by kernel_rfl) (by kernel_rfl) (by kernel_rfl) (fun _ _ _ h => h) (Or.inr ⟨by kernel_rfl, rfl⟩) ?_
  refine wpAny_take (i := 8) (v := undef) rfl (by kernel_rfl) (by kernel_rfl) (by kernel_rfl) (fun _ _ _ h => h) (Or.inr ⟨by kernel_rfl, rfl⟩) ?_
  refine wpAny_take (i := 9) (v := undef) rfl (by kernel_rfl) (by kernel_rfl) (by kernel_rfl) (fun _ _ _ h => h) (Or.inr ⟨by kernel_rfl, rfl⟩) ?_
  refine wpAny_take (i := 10) (v := undef) rfl (by kernel_rfl) (by kernel_rfl) (by kernel_rfl) (fun _ _ _ h => h) (Or.inr ⟨by kernel_rfl, rfl⟩) ?_
  refine wpAny_take (i := 11) (v := undef) rfl (by kernel_rfl) (by kernel_rfl) (by kernel_rfl) (fun _ _ _ h => h) (Or.inr ⟨by kernel_rfl, rfl⟩) ?_
  refine wpAny_take (i := 12) (v := .bool false) rfl (by kernel_rfl) (by kernel_rfl) (by kernel_rfl) (fun _ _ _ h => h) (Or.inl ⟨by rfl, by intro w; go_simp⟩) ?_
  refine wpAny_ready (rs := [13]) (by kernel_rfl) (by simp) ?_
  refine AllReady.cons rfl ?_ AllReady.nil
  intro K' hK
  rw [if_pos (by kernel_rfl)]
  go_simp
  refine Calls.mono (need_no 4 w.drew) ?_
  rintro e w2 ⟨rfl, rfl⟩
  exact ⟨rfl, rfl, (Below.refl _ _).drew⟩
end Go.Proofs.YtlddbelpbgmljaaDoor
namespace Go.Proofs.YtlddbelpbgmljaaDoor
open Go.RowKit
set_option linter.unusedSimpArgs false
set_option linter.unusedVariables false
set_option linter.unusedSectionVars false
theorem need_no3 (e : Int) (w : World) :
    Calls Tryd.prog 13 #[.bool false, .int .i64 e] w fun r w' => (r = .panicked [{ v := .iface 23 (.int .i64 e), recovered := false }] ∧ w' = w) ∨ (r = .returned (.tuple #[]) ∧ w' = w ∧ False) :=
  (need_no e w).mono fun _ _ h => .inl h
set_option maxHeartbeats 12800000 in
theorem text_ends (s : ByteArray) (w : World) (h : 2 ≤ s.size) (hs : s.size ≤ 100000) (h2 : byteN s 0 ≠ byteN s (s.size - 1)) :
    Calls Tryd.prog 14 #[.string s] w fun e w' => e = .panicked [{ v := .iface 23 (.int .i64 4), recovered := false }] ∧ Below w.heap.size w w' := by
  have hd : decide ((2 : Int) ≤ (s.size : Int)) = true := by simp; omega
  have hx0 := str_byte s 0 (by omega)
  obtain ⟨k, hk⟩ : ∃ k, s.size - 1 = k := ⟨_, rfl⟩
  have hk1 : (s.size : Int) - 1 = (k : Int) := by omega
  have hk2 : k < s.size := by omega
  have hk3 : (k : Int) < s.size := by omega
  have hk8 : IntKind.i64.wrap (k : Int) = k := IntWalk.i64_in _ (by omega)
  have hx1 := str_byte s k hk2
  rw [hk] at h2
  generalize byteN s 0 = a at *
  generalize byteN s k = b at *
  have hne : ((a : Int) == (b : Int)) = false := by simp; omega
  have hne2 : (a == b) = false := by simp; omega
  have h0 : 0 < s.size := by omega
  have h0' : (0 : Int) < s.size := by omega
  clear hk
  go_enter Tryd.func14, Tryd.ntmps14
  go_wp2_with fail
  go_region_law (go_simp; go_at_call 13; refine (need_no3 _ _).mono ?_; rintro e w2 (⟨rfl, rfl⟩ | ⟨rfl, rfl, hff⟩); exact ⟨rfl, rfl, (Below.refl _ _).drew⟩)
  all_goals (exact hff.elim)
end Go.Proofs.YtlddbelpbgmljaaDoor
namespace Go.Proofs.YtlddbelpbgmljaaDoor
open Go.RowKit
set_option linter.unusedSimpArgs false
set_option linter.unusedVariables false
set_option linter.unusedSectionVars false

/-! Layer 3: text, Text at every string. -/
theorem text_any (s : ByteArray) (w : World) (hs : s.size ≤ 65536) :
    Calls Tryd.prog 14 #[.string s] w fun e w' => PartsP (textR s) e ∧ Below w.heap.size w w' := by
  by_cases h2 : s.size < 2
  · have hR : textR s = none := by unfold textR; rw [if_pos (.inl h2)]
    rw [hR]; exact text_short s w h2
  by_cases he : byteN s 0 ≠ byteN s (s.size - 1)
  · have hR : textR s = none := by unfold textR; rw [if_pos (.inr he)]
    rw [hR]; exact text_ends s w (by omega) (by omega) he
  have he' : byteN s 0 = byteN s (s.size - 1) := by omega
  have hn1 : ¬ (s.size < 2 ∨ byteN s 0 ≠ byteN s (s.size - 1)) := by omega
  by_cases hw : 0 ≤ wrongF s
  · have hR : textR s = none := by unfold textR; rw [if_neg hn1, if_pos hw]
    rw [hR]; exact text_wrong s w (by omega) (by omega) he' hw
  by_cases h96 : byteN s 0 = 96
  · by_cases hc : 0 ≤ Lib.indexByte (inner s).data.toList 96
    · have hR : textR s = none := by unfold textR; rw [if_neg hn1, if_neg hw, if_pos h96, if_pos hc]
      rw [hR]; exact text_raw_no s w (by omega) (by omega) h96 (by omega) (by omega) hc
    · have hR : textR s = some ((bytesL (inner s)).filter (· ≠ 13)) := by unfold textR; rw [if_neg hn1, if_neg hw, if_pos h96, if_neg hc]
      rw [hR]; exact text_raw_ok s w (by omega) (by omega) h96 (by omega) (by omega) (by omega)
  by_cases h34 : byteN s 0 = 34
  · have hR : textR s = partsF ((inner s).size + 1) (inner s) [] := by unfold textR; rw [if_neg hn1, if_neg hw, if_neg h96, if_pos h34]
    rw [hR]
    refine text_quote s w (by omega) (by omega) h34 (by omega) (by omega) (fun w => ?_)
    exact parts_any (fun _ => True) every_ok (fun p w _ hp => cany_all p w hp) (inner s) w trivial (by simp only [inner, ByteArray.size_extract]; omega)
  · have hR : textR s = none := by unfold textR; rw [if_neg hn1, if_neg hw, if_neg h96, if_neg h34]
    rw [hR]; exact text_other s w (by omega) (by omega) he' (by omega) h96 h34
/-- Text, at every string. -/
theorem Text_all (s : ByteArray) (w : World) (hs2 : s.size ≤ 4611686018427387904) :
    Calls Tryd.prog 6 #[.string s] w fun e w' => e = .returned (.tuple #[.string (textV s), .int .i64 (textE s)]) ∧ Below w.heap.size w w' :=
  Text_any s w hs2 fun h w => text_any s w h
end Go.Proofs.YtlddbelpbgmljaaDoor
namespace Go.Proofs.YtlddbelpbgmljaaDoor
open Go.RowKit
set_option linter.unusedSimpArgs false
set_option linter.unusedVariables false
set_option linter.unusedSectionVars false

/-! The document's value: so many digits of a base. -/
def valF (s : ByteArray) (base : Nat) : Nat → Nat → Nat → Option Nat
  | 0, _, v => some v
  | n + 1, i, v => if digitW (byteN s i) < base then valF s base n (i + 1) (v * base + digitW (byteN s i)) else none
def refVal (s : ByteArray) (at_ n base : Nat) : Option Nat := if s.size < at_ + n then none else valF s base n at_ 0
theorem byteN_cut (s : ByteArray) (n j : Nat) (h : j < n) : byteN (s.extract 0 n) j = byteN s j := by
  simp only [byteN, Lib.extract_data, List.drop_zero, Nat.sub_zero, List.getD_eq_getElem?_getD]
  rw [List.getElem?_take, if_pos h]
theorem reck_val {t s : ByteArray} {base n a : Nat} (hb : base ≤ 16) (ht : t.size = n) (hbt : ∀ j, j < n → byteN t j = byteN s (a + j)) : ∀ (k pos f v : Nat), n - pos = k → pos ≤ n → n < f + pos → reckF t base f pos v = valF s base k (a + pos) v := by
  intro k
  induction k with
  | zero =>
    intro pos f v hk hp hf
    obtain ⟨f, rfl⟩ : ∃ g, f = g + 1 := ⟨f - 1, by omega⟩
    rw [reckF, if_neg (by rw [ht]; omega)]; rfl
  | succ k ih =>
    intro pos f v hk hp hf
    obtain ⟨f, rfl⟩ : ∃ g, f = g + 1 := ⟨f - 1, by omega⟩
    have hlt : pos < t.size := by rw [ht]; omega
    have hbp := hbt pos (by omega)
    have e2 : valF s base (k + 1) (a + pos) v = if digitW (byteN s (a + pos)) < base then valF s base k (a + pos + 1) (v * base + digitW (byteN s (a + pos))) else none := rfl
    have e1 : reckF t base (f + 1) pos v = (if digitW (Utf8.decode t pos).1 < base then reckF t base f (pos + (Utf8.decode t pos).2) (v * base + digitW (Utf8.decode t pos).1) else none) := by rw [reckF, if_pos hlt]
    rw [e1, e2]
    by_cases hc : byteN s (a + pos) < 128
    · rw [dec_ascii t pos hlt (by rw [hbp]; exact hc), hbp]
      simp only
      by_cases hd : digitW (byteN s (a + pos)) < base
      · rw [if_pos hd, if_pos hd, ih (pos + 1) f _ (by omega) (by omega) (by omega), show a + (pos + 1) = a + pos + 1 by omega]
      · rw [if_neg hd, if_neg hd]
    · have hr := dec_high t pos hlt (by rw [hbp]; omega)
      rw [digitW_high hr, digitW_high (show 128 ≤ byteN s (a + pos) by omega), if_neg (by omega), if_neg (by omega)]
/-- Digits behind a place: as the program reckons them. -/
theorem reckR_val (s : ByteArray) (a n base : Nat) (hb : base ≤ 16) (ha : a ≤ s.size) : reckR (s.extract a s.size) n base = refVal s a n base := by
  have hz : (s.extract a s.size).size = s.size - a := by simp
  unfold reckR refVal
  by_cases h : s.size < a + n
  · rw [if_pos (by rw [hz]; omega), if_pos h]
  · rw [if_neg (by rw [hz]; omega), if_neg h]
    have := reck_val (t := (s.extract a s.size).extract 0 n) (s := s) (base := base) (n := n) (a := a) hb (by simp; omega) (fun j hj => by rw [byteN_cut _ n j hj, byteN_sfx]) n 0 (n + 1) 0 (by omega) (by omega) (by omega)
    rw [this, Nat.add_zero]

def valI : Option Nat → Int
  | some v => (v : Int)
  | none => -1

end Go.Proofs.YtlddbelpbgmljaaDoor
namespace Go.Proofs.YtlddbelpbgmljaaDoor
open Go.RowKit
set_option linter.unusedSimpArgs false
set_option linter.unusedVariables false
set_option linter.unusedSectionVars false

/-! The document's part: what stands behind a backslash. -/
/-- What it gives: its bytes in a row of their own, how many bytes it took. -/
def PartW (w : World) : Option (List Nat × Nat) → Ending → World → Prop
  | some (l, k), e, w' => (∃ p cap t, e = .returned (.tuple #[.slice p l.length cap, .int .i64 (k : Int)]) ∧ t.data.toList.map UInt8.toNat = l ∧ BSl w' p t) ∧ Below w.heap.size w w'
  | none, e, w' => e = .returned (.tuple #[.slice none 0 0, .int .i64 0]) ∧ Below w.heap.size w w'
def fromT : ByteArray := ⟨#[97, 98, 102, 110, 114, 116, 118, 92, 34]⟩
theorem single_from {c : Nat} : ∀ k, k ≤ 9 → (∀ j, j < k → byteN fromT j ≠ c) → k = 9 → singleF c = none := by
  intro k _ h hk
  subst hk
  have h0 := h 0 (by omega)
  have h1 := h 1 (by omega)
  have h2 := h 2 (by omega)
  have h3 := h 3 (by omega)
  have h4 := h 4 (by omega)
  have h5 := h 5 (by omega)
  have h6 := h 6 (by omega)
  have h7 := h 7 (by omega)
  have h8 := h 8 (by omega)
  rw [show byteN fromT 0 = 97 from rfl] at h0
  rw [show byteN fromT 1 = 98 from rfl] at h1
  rw [show byteN fromT 2 = 102 from rfl] at h2
  rw [show byteN fromT 3 = 110 from rfl] at h3
  rw [show byteN fromT 4 = 114 from rfl] at h4
  rw [show byteN fromT 5 = 116 from rfl] at h5
  rw [show byteN fromT 6 = 118 from rfl] at h6
  rw [show byteN fromT 7 = 92 from rfl] at h7
  rw [show byteN fromT 8 = 34 from rfl] at h8
  unfold singleF
  rw [if_neg (by omega), if_neg (by omega), if_neg (by omega), if_neg (by omega), if_neg (by omega), if_neg (by omega), if_neg (by omega), if_neg (by omega), if_neg (by omega)]
def toT : ByteArray := ⟨#[7, 8, 12, 10, 13, 9, 11, 92, 34]⟩
theorem from_to : ∀ k, k < 9 → singleF (byteN fromT k) = some (byteN toT k) := by decide +kernel

theorem toT_row (w : World) : BSl (w.alloc (.cells #[.int .u8 7, .int .u8 8, .int .u8 12, .int .u8 10, .int .u8 13, .int .u8 9, .int .u8 11, .int .u8 92, .int .u8 34] 5)) (some ⟨w.heap.size, 0, none⟩) toT := by
  refine .inr ⟨w.heap.size, 0, rfl, ?_, by simp⟩
  intro i hi
  have hb : (w.alloc (.cells #[.int .u8 7, .int .u8 8, .int .u8 12, .int .u8 10, .int .u8 13, .int .u8 9, .int .u8 11, .int .u8 92, .int .u8 34] 5)).heap[w.heap.size]? = some (.cells #[.int .u8 7, .int .u8 8, .int .u8 12, .int .u8 10, .int .u8 13, .int .u8 9, .int .u8 11, .int .u8 92, .int .u8 34] 5) := heap_alloc_new w _
  rw [Nat.zero_add, cell_of hb]
  have h9 : i < 9 := hi
  have hc : i = 0 ∨ i = 1 ∨ i = 2 ∨ i = 3 ∨ i = 4 ∨ i = 5 ∨ i = 6 ∨ i = 7 ∨ i = 8 := by omega
  rcases hc with rfl | rfl | rfl | rfl | rfl | rfl | rfl | rfl | rfl <;> rfl

theorem all_next {fr : ByteArray} {c i : Nat} (h : ∀ j, j < i → byteN fr j ≠ c) (h2 : ¬ byteN fr i = c) : ∀ j, j < i + 1 → byteN fr j ≠ c := by
  intro j hj
  by_cases he : j = i
  · subst he; exact h2
  · exact h j (by omega)
theorem bsl_drew {w : World} {p : Option Addr} {t : ByteArray} (h : BSl w p t) : BSl w.drew p t := h

theorem toT_one : ∀ i, i < 9 → (toT.extract i (i + 1)).data.toList.map UInt8.toNat = [byteN toT i] := by decide +kernel
theorem bsl_part {w : World} {b i n : Nat} {t : ByteArray} (h : BSl w (some ⟨b, 0, none⟩) t) (hi : i + n ≤ t.size) : BSl w.drew (some ⟨b, i, none⟩) (t.extract i (i + n)) := by
  by_cases hn : n = 0
  · left; simp; omega
  rcases h with h0 | ⟨b', o, he, hb, hlt⟩
  · omega
  · cases he
    refine .inr ⟨b, i, rfl, ?_, hlt⟩
    intro j hj
    have hj2 : j < n := by simp at hj; omega
    have := hb (i + j) (by omega)
    rw [Nat.zero_add] at this
    have hbb : byteN (t.extract i (i + n)) j = byteN t (i + j) := by
      simp only [byteN, Lib.extract_data, List.getD_eq_getElem?_getD]
      rw [List.getElem?_take, if_pos (by omega), List.getElem?_drop]
    rw [hbb]; exact this

end Go.Proofs.YtlddbelpbgmljaaDoor
namespace Go.Proofs.YtlddbelpbgmljaaDoor
open Go.RowKit
set_option linter.unusedSimpArgs false
set_option linter.unusedVariables false
set_option linter.unusedSectionVars false

/-! The document's part, where no sign of the table stands (MADE BY wip/gen_refpart.py). -/
theorem valF_lt (s : ByteArray) (base : Nat) : ∀ n i v j x, v < base ^ j → valF s base n i v = some x → x < base ^ (j + n)
  | 0, i, v, j, x, h, he => by cases he; exact h
  | n + 1, i, v, j, x, h, he => by
    have e2 : valF s base (n + 1) i v = if digitW (byteN s i) < base then valF s base n (i + 1) (v * base + digitW (byteN s i)) else none := rfl
    rw [e2] at he
    by_cases hd : digitW (byteN s i) < base
    · rw [if_pos hd] at he
      have := valF_lt s base n (i + 1) _ (j + 1) x (step_lt h hd) he
      rw [show j + (n + 1) = j + 1 + n by omega]; exact this
    · rw [if_neg hd] at he; cases he
theorem refVal_lt {s : ByteArray} {a n base x : Nat} (h : refVal s a n base = some x) : x < base ^ n := by
  unfold refVal at h
  split at h
  · cases h
  · have := valF_lt s base n a 0 0 x (by simp) h
    rwa [Nat.zero_add] at this
def bRow (c : Nat) : ByteArray := ⟨#[c.toUInt8]⟩
theorem bRow_list {c : Nat} (h : c < 256) : (bRow c).data.toList.map UInt8.toNat = [c] := by
  simp [bRow]; omega
theorem bRow_bsl {c : Nat} (h : c < 256) (w : World) : BSl (w.alloc (.cells #[.int .u8 (c : Int)] 5)) (some ⟨w.heap.size, 0, none⟩) (bRow c) := by
  refine .inr ⟨w.heap.size, 0, rfl, ?_, by simp⟩
  intro i hi
  have h1 : i < 1 := hi
  obtain rfl : i = 0 := by omega
  have hb : (w.alloc (.cells #[.int .u8 (c : Int)] 5)).heap[w.heap.size]? = some (.cells #[.int .u8 (c : Int)] 5) := heap_alloc_new w _
  rw [Nat.zero_add, cell_of hb]
  have : byteN (bRow c) 0 = c := by
    have : byteN (bRow c) 0 = c % 256 := by simp [byteN, bRow]
    omega
  rw [this]; rfl

end Go.Proofs.YtlddbelpbgmljaaDoor
namespace Go.Proofs.YtlddbelpbgmljaaDoor
open Go.RowKit
set_option linter.unusedSimpArgs false
set_option linter.unusedVariables false
set_option linter.unusedSectionVars false

/-! The document's part, at every place. -/
def sgnN (s : ByteArray) (a n : Nat) : Option (List Nat × Nat) := match refVal s (a + 1) n 16 with
  | none => none
  | some v => if v < 55296 ∨ (57343 < v ∧ v ≤ 1114111) then some (runeN v, n + 1) else none
def partN (s : ByteArray) (a : Nat) : Option (List Nat × Nat) :=
  if s.size ≤ a then none
  else match singleF (byteN s a) with
    | some v => some ([v], 1)
    | none =>
      if byteN s a = 120 then (match refVal s (a + 1) 2 16 with | none => none | some v => some ([v], 3))
      else if byteN s a = 117 then sgnN s a 4
      else if byteN s a = 85 then sgnN s a 8
      else (match refVal s a 3 8 with | none => none | some v => if v < 256 then some ([v], 3) else none)
theorem tail_tail (s : ByteArray) (a k : Nat) : (s.extract a s.size).extract k (s.size - a) = s.extract (a + k) s.size := by
  apply ByteArray.ext
  apply Array.toList_inj.mp
  simp only [Lib.extract_data]
  rw [List.drop_take, List.take_take, List.drop_drop]
  congr 1
  omega
/-- It is the program's behind, told by places. -/
theorem behind_part (s : ByteArray) (a : Nat) (ha : a ≤ s.size) : behindR (s.extract a s.size) = (partN s a).map (fun p => (p.1, s.extract (a + p.2) s.size)) := by
  have hz : (s.extract a s.size).size = s.size - a := by simp
  unfold behindR partN
  rw [hz]
  by_cases h0 : s.size ≤ a
  · rw [if_pos h0, if_pos (by omega)]; rfl
  rw [if_neg h0, if_neg (by omega)]
  have hb0 : byteN (s.extract a s.size) 0 = byteN s a := by rw [byteN_sfx, Nat.add_zero]
  rw [hb0]
  have he1 : (s.extract a s.size).extract 1 (s.size - a) = s.extract (a + 1) s.size := tail_tail s a 1
  cases hv : singleF (byteN s a) with
  | some v => simp only [Option.map]; rw [he1]
  | none =>
    simp only
    rw [he1]
    have hx : ∀ k, (s.extract (a + 1) s.size).extract k (s.size - a - 1) = s.extract (a + (k + 1)) s.size := by
      intro k
      have := tail_tail s (a + 1) k
      rw [show s.size - (a + 1) = s.size - a - 1 by omega] at this
      rw [this, show a + 1 + k = a + (k + 1) by omega]
    by_cases h1 : byteN s a = 120
    · rw [if_pos h1, if_pos h1, hx]
      unfold byteR
      rw [reckR_val s (a + 1) 2 16 (by omega) (by omega)]
      cases hR : refVal s (a + 1) 2 16 with
      | none => rfl
      | some v =>
        have := refVal_lt hR
        simp only
        rw [if_pos (by omega)]; rfl
    rw [if_neg h1, if_neg h1]
    have hsg : ∀ n, (signR (s.extract (a + 1) s.size) n).map (fun l => (l, (s.extract (a + 1) s.size).extract n (s.size - a - 1))) = (sgnN s a n).map (fun p => (p.1, s.extract (a + p.2) s.size)) := by
      intro n
      unfold signR sgnN
      rw [reckR_val s (a + 1) n 16 (by omega) (by omega), hx]
      cases hR : refVal s (a + 1) n 16 with
      | none => rfl
      | some v =>
        simp only
        by_cases hb : v < 55296 ∨ (57343 < v ∧ v ≤ 1114111)
        · rw [if_pos hb, if_pos ⟨by omega, by simp [Lib.validRune]; omega⟩]; rfl
        · rw [if_neg hb, if_neg (by simp [Lib.validRune]; omega)]; rfl
    by_cases h2 : byteN s a = 117
    · rw [if_pos h2, if_pos h2]; exact hsg 4
    rw [if_neg h2, if_neg h2]
    by_cases h3 : byteN s a = 85
    · rw [if_pos h3, if_pos h3]; exact hsg 8
    rw [if_neg h3, if_neg h3]
    unfold byteR
    rw [reckR_val s a 3 8 (by omega) (by omega), tail_tail]
    cases hR : refVal s a 3 8 with
    | none => rfl
    | some v =>
      simp only
      by_cases hb : v < 256
      · rw [if_pos hb, if_pos (by omega)]; rfl
      · rw [if_neg hb, if_neg (by omega)]; rfl
end Go.Proofs.YtlddbelpbgmljaaDoor
namespace Go.Proofs.YtlddbelpbgmljaaDoor
open Go.RowKit
set_option linter.unusedSimpArgs false
set_option linter.unusedVariables false
set_option linter.unusedSectionVars false

/-! Quoted text, byte by byte: it is what parts means (pure). -/
theorem ba_ext {a b : ByteArray} (h : a.data.toList = b.data.toList) : a = b := ByteArray.ext (Array.toList_inj.mp h)
@[irreducible] def tl (t : ByteArray) (i : Nat) : ByteArray := t.extract i t.size
theorem tl_def (t : ByteArray) (i : Nat) : tl t i = t.extract i t.size := by unfold tl; rfl
theorem tl_list (t : ByteArray) (i : Nat) : (tl t i).data.toList = t.data.toList.drop i := by
  unfold tl
  rw [Lib.extract_data]
  apply List.take_of_length_le
  simp
theorem tl_size (t : ByteArray) (i : Nat) : (tl t i).size = t.size - i := by simp [tl]
theorem tl_cons (t : ByteArray) (i : Nat) (h : i < t.size) : ∃ b : UInt8, b.toNat = byteN t i ∧ (tl t i).data.toList = b :: (tl t (i + 1)).data.toList := by
  have hk : i < t.data.toList.length := by simpa using h
  refine ⟨t.data.toList[i], ?_, ?_⟩
  · simp [byteN, List.getD_eq_getElem?_getD, List.getElem?_eq_getElem hk]
  · rw [tl_list, tl_list]; exact List.drop_eq_getElem_cons hk
theorem plain_list (p : ByteArray) : plainB p = p.data.toList.any isB := by
  rw [plainB_has]; unfold hasB; rw [List.drop_zero]
theorem isB_eq {b : UInt8} {c : Nat} (h : b.toNat = c) : isB b = decide (c = 34 ∨ c = 10) := by
  subst h
  unfold isB
  rw [Bool.eq_iff_iff]
  simp only [Bool.or_eq_true, beq_iff_eq, decide_eq_true_eq, ← UInt8.toNat_inj]
  rfl
theorem pre_list (p : ByteArray) (k : Nat) : (p.extract 0 k).data.toList = p.data.toList.take k := by
  rw [Lib.extract_data, List.drop_zero, Nat.sub_zero]
theorem suf_list (p : ByteArray) (k : Nat) : (p.extract k p.size).data.toList = p.data.toList.drop k := by rw [← tl_def]; exact tl_list p k
theorem cut_step (t : ByteArray) (i : Nat) (h : i < t.size) (hc : byteN t i ≠ 92) :
    (cutR (tl t i)).2 = (cutR (tl t (i + 1))).2 ∧ bytesL (cutR (tl t i)).1 = byteN t i :: bytesL (cutR (tl t (i + 1))).1 ∧
    plainB (cutR (tl t i)).1 = (decide (byteN t i = 34 ∨ byteN t i = 10) || plainB (cutR (tl t (i + 1))).1) := by
  obtain ⟨b, hb, hl⟩ := tl_cons t i h
  have hb92 : (b == 92) = false := by
    rw [beq_eq_false_iff_ne]
    intro e; subst e
    exact hc hb.symm
  have hix : Lib.indexByte (tl t i).data.toList 92 = if Lib.indexByte (tl t (i + 1)).data.toList 92 == -1 then -1 else Lib.indexByte (tl t (i + 1)).data.toList 92 + 1 := by
    rw [hl, Lib.indexByte, hb92]; rfl
  have hge := Lib.indexByte_ge (tl t (i + 1)).data.toList 92
  by_cases h1 : Lib.indexByte (tl t (i + 1)).data.toList 92 = -1
  · have h2 : Lib.indexByte (tl t i).data.toList 92 = -1 := by rw [hix, h1]; rfl
    unfold cutR
    rw [if_pos h1, if_pos h2]
    refine ⟨rfl, ?_, ?_⟩
    · simp only [bytesL]; rw [hl, List.map_cons, hb]
    · simp only [plain_list]; rw [hl, List.any_cons, isB_eq hb]
  · obtain ⟨k, hk⟩ : ∃ k : Nat, Lib.indexByte (tl t (i + 1)).data.toList 92 = k := ⟨(Lib.indexByte (tl t (i + 1)).data.toList 92).toNat, by omega⟩
    have hkk : ((k : Int) == -1) = false := by rw [beq_eq_false_iff_ne]; omega
    have h2 : Lib.indexByte (tl t i).data.toList 92 = ((k + 1 : Nat) : Int) := by rw [hix, hk, hkk]; simp
    unfold cutR
    rw [if_neg h1, if_neg (by rw [h2]; omega), h2, hk]
    simp only [Int.toNat_natCast]
    refine ⟨?_, ?_, ?_⟩
    · congr 1
      apply ba_ext
      rw [suf_list (tl t i) (k + 1 + 1), suf_list (tl t (i + 1)) (k + 1), hl, List.drop_succ_cons]
    · simp only [bytesL, pre_list]; rw [hl, List.take_succ_cons, List.map_cons, hb]
    · simp only [plain_list, pre_list]; rw [hl, List.take_succ_cons, List.any_cons, isB_eq hb]
theorem cut_here (t : ByteArray) (i : Nat) (h : i < t.size) (hc : byteN t i = 92) :
    bytesL (cutR (tl t i)).1 = [] ∧ plainB (cutR (tl t i)).1 = false ∧ (cutR (tl t i)).2.1 = tl t (i + 1) ∧ (cutR (tl t i)).2.2 = true := by
  obtain ⟨b, hb, hl⟩ := tl_cons t i h
  have hb92 : (b == 92) = true := by
    rw [beq_iff_eq, ← UInt8.toNat_inj, hb, hc]; rfl
  have hix : Lib.indexByte (tl t i).data.toList 92 = 0 := by rw [hl, Lib.indexByte, hb92]; rfl
  unfold cutR
  rw [if_neg (by rw [hix]; omega), hix]
  have h0 : ((tl t i).extract 0 (Int.toNat 0)).data.toList = [] := by rw [pre_list]; rfl
  refine ⟨?_, ?_, ?_, rfl⟩
  · simp only [bytesL]; rw [h0]; rfl
  · simp only [plain_list]; rw [h0]; rfl
  · apply ba_ext
    simp only [Int.toNat_zero, Nat.zero_add]
    rw [suf_list (tl t i) 1, hl, List.drop_succ_cons, List.drop_zero]
theorem cut_end (t : ByteArray) (i : Nat) (h : t.size ≤ i) : bytesL (cutR (tl t i)).1 = [] ∧ plainB (cutR (tl t i)).1 = false ∧ (cutR (tl t i)).2.2 = false := by
  have hl : (tl t i).data.toList = [] := by
    rw [tl_list]; apply List.drop_eq_nil_of_le; simpa using h
  have hix : Lib.indexByte (tl t i).data.toList 92 = -1 := by rw [hl]; rfl
  unfold cutR
  rw [if_pos hix]
  refine ⟨?_, ?_, rfl⟩
  · simp only [bytesL]; rw [hl]; rfl
  · simp only [plain_list]; rw [hl]; rfl

/-- What stands between a text's quotes, as the document takes it. -/
def docF (q : Nat) (t : ByteArray) : Nat → Nat → List Nat → Option (List Nat)
  | 0, _, _ => none
  | f + 1, i, out =>
    if t.size ≤ i then some out
    else if byteN t i = q ∨ (q = 34 ∧ byteN t i = 10) then none
    else if q = 96 ∧ byteN t i = 13 then docF q t f (i + 1) out
    else if q = 34 ∧ byteN t i = 92 then (match partN t (i + 1) with | none => none | some (l, k) => docF q t f (i + 1 + k) (out ++ l))
    else docF q t f (i + 1) (out ++ [byteN t i])
theorem partN_le {t : ByteArray} {a k : Nat} {l : List Nat} (ha : a ≤ t.size) (h : partN t a = some (l, k)) : a + k ≤ t.size ∧ 1 ≤ k := by
  have hv : ∀ {b n base v : Nat}, refVal t b n base = some v → b + n ≤ t.size := by
    intro b n base v hv
    unfold refVal at hv
    split at hv
    · cases hv
    · omega
  unfold partN sgnN at h
  split at h
  · cases h
  split at h
  · cases h; omega
  split at h
  · split at h
    · cases h
    · rename_i hr; cases h; have := hv hr; omega
  split at h
  · split at h
    · cases h
    · rename_i hr; have := hv hr; split at h <;> cases h; omega
  split at h
  · split at h
    · cases h
    · rename_i hr; have := hv hr; split at h <;> cases h; omega
  split at h
  · cases h
  · rename_i hr; have := hv hr; split at h <;> cases h; omega
theorem doc_parts (t : ByteArray) : ∀ (n i g f : Nat) (out : List Nat), t.size - i = n → i ≤ t.size → n < g → n < f → docF 34 t g i out = partsF f (tl t i) out := by
  intro n
  induction n using Nat.strongRecOn with
  | ind n ih =>
    intro i g f out hn hi hg hf
    obtain ⟨g, rfl⟩ : ∃ x, g = x + 1 := ⟨g - 1, by omega⟩
    obtain ⟨f, rfl⟩ : ∃ x, f = x + 1 := ⟨f - 1, by omega⟩
    rw [docF]
    by_cases h0 : t.size ≤ i
    · obtain ⟨c1, c2, c3⟩ := cut_end t i h0
      rw [if_pos h0, partsF, c1, c2, c3]; simp
    rw [if_neg h0]
    have hlt : i < t.size := by omega
    by_cases h92 : byteN t i = 92
    · obtain ⟨c1, c2, c3, c4⟩ := cut_here t i hlt h92
      rw [if_neg (by omega), if_neg (by omega), if_pos ⟨rfl, h92⟩, partsF, c1, c2, c3, c4]
      have hbp := behind_part t (i + 1) (by omega)
      rw [← tl_def] at hbp
      rw [hbp]
      cases hp : partN t (i + 1) with
      | none => simp
      | some p =>
        obtain ⟨l, k⟩ := p
        obtain ⟨k1, k2⟩ := partN_le (by omega) hp
        have := ih (t.size - (i + 1 + k)) (by omega) (i + 1 + k) g f (out ++ l) rfl (by omega) (by omega) (by omega)
        simp only [Option.map, Bool.false_eq_true, if_false, if_true, List.append_nil]
        rw [← tl_def]
        exact this
    · obtain ⟨c1, c2, c3⟩ := cut_step t i hlt h92
      by_cases hq : byteN t i = 34 ∨ byteN t i = 10
      · rw [if_pos (by omega), partsF, c3, decide_eq_true hq]; simp
      · rw [if_neg (by omega), if_neg (by omega), if_neg (by omega), ih (t.size - (i + 1)) (by omega) (i + 1) g (f + 1) (out ++ [byteN t i]) rfl (by omega) (by omega) (by omega)]
        rw [partsF, partsF, c1, c2, c3, decide_eq_false hq, Bool.false_or]
        simp only [List.append_assoc, List.cons_append, List.nil_append]
theorem doc_raw (t : ByteArray) : ∀ (n i g : Nat) (out : List Nat), t.size - i = n → i ≤ t.size → n < g →
    docF 96 t g i out = if 0 ≤ Lib.indexByte (tl t i).data.toList 96 then none else some (out ++ (bytesL (tl t i)).filter (· ≠ 13)) := by
  intro n
  induction n with
  | zero =>
    intro i g out hn hi hg
    obtain ⟨g, rfl⟩ : ∃ x, g = x + 1 := ⟨g - 1, by omega⟩
    have hl : (tl t i).data.toList = [] := by
      rw [tl_list]; apply List.drop_eq_nil_of_le; simp; omega
    rw [docF, if_pos (show t.size ≤ i by omega)]
    simp only [bytesL]
    rw [hl]
    simp [Lib.indexByte]
  | succ n ih =>
    intro i g out hn hi hg
    obtain ⟨g, rfl⟩ : ∃ x, g = x + 1 := ⟨g - 1, by omega⟩
    obtain ⟨b, hb, hl⟩ := tl_cons t i (by omega)
    have hge := Lib.indexByte_ge (tl t (i + 1)).data.toList 96
    rw [docF, if_neg (show ¬ t.size ≤ i by omega)]
    by_cases h96 : byteN t i = 96
    · have hbb : (b == 96) = true := by rw [beq_iff_eq, ← UInt8.toNat_inj, hb, h96]; rfl
      have hix : Lib.indexByte (tl t i).data.toList 96 = 0 := by rw [hl, Lib.indexByte, hbb]; rfl
      rw [if_pos (.inl h96), hix]; rfl
    · have hbb : (b == 96) = false := by
        rw [beq_eq_false_iff_ne]
        intro e; subst e
        exact h96 hb.symm
      have hix : Lib.indexByte (tl t i).data.toList 96 = if Lib.indexByte (tl t (i + 1)).data.toList 96 == -1 then -1 else Lib.indexByte (tl t (i + 1)).data.toList 96 + 1 := by
        rw [hl, Lib.indexByte, hbb]; rfl
      have hiff : (0 ≤ Lib.indexByte (tl t i).data.toList 96) ↔ (0 ≤ Lib.indexByte (tl t (i + 1)).data.toList 96) := by
        rw [hix]
        by_cases h : Lib.indexByte (tl t (i + 1)).data.toList 96 = -1
        · rw [h]; decide
        · rw [if_neg (by simpa using h)]; omega
      have hbl : bytesL (tl t i) = byteN t i :: bytesL (tl t (i + 1)) := by simp only [bytesL]; rw [hl, List.map_cons, hb]
      rw [if_neg (show ¬ (byteN t i = 96 ∨ (96 = 34 ∧ byteN t i = 10)) by omega)]
      simp only [hiff, hbl]
      by_cases h13 : byteN t i = 13
      · rw [if_pos ⟨trivial, h13⟩, ih (i + 1) g out (by omega) (by omega) (by omega), List.filter_cons_of_neg (by simp [h13])]
      · rw [if_neg (by omega), if_neg (by omega), ih (i + 1) g (out ++ [byteN t i]) (by omega) (by omega) (by omega), List.filter_cons_of_pos (by simp [h13])]
        simp
end Go.Proofs.YtlddbelpbgmljaaDoor
namespace Go.Proofs.YtlddbelpbgmljaaDoor
open Go.RowKit
set_option linter.unusedSimpArgs false
set_option linter.unusedVariables false
set_option linter.unusedSectionVars false

/-! LitTokens, LitBack: what means a number or a text is a token of its own (pure). -/
theorem digitW_lt {r : Nat} (h : digitW r < 16) : (48 ≤ r ∧ r ≤ 57) ∨ (97 ≤ r ∧ r ≤ 102) ∨ (65 ≤ r ∧ r ≤ 70) := by
  unfold digitW at h
  repeat' split at h
  all_goals omega
theorem valF_digits (s : ByteArray) (base : Nat) (hb : base ≤ 16) : ∀ (n i v x : Nat), valF s base n i v = some x → ∀ j, j < n → digitW (byteN s (i + j)) < base
  | 0, i, v, x, _, j, hj => by omega
  | n + 1, i, v, x, h, j, hj => by
    rw [valF] at h
    split at h
    · rename_i hd
      cases j with
      | zero => rw [Nat.add_zero]; exact hd
      | succ j =>
        have := valF_digits s base hb n (i + 1) _ x h j (by omega)
        rwa [show i + 1 + j = i + (j + 1) by omega] at this
    · cases h
theorem refVal_digits {s : ByteArray} {a n base x : Nat} (hb : base ≤ 16) (h : refVal s a n base = some x) : ∀ j, j < n → digitW (byteN s (a + j)) < base := by
  unfold refVal at h
  split at h
  · cases h
  · exact valF_digits s base hb n a 0 x h
theorem single_10 : singleF 10 = none := rfl
theorem partN_bytes {t : ByteArray} {a k : Nat} {l : List Nat} (h : partN t a = some (l, k)) : byteN t a ≠ 10 ∧ ∀ j, 1 ≤ j → j < k → digitW (byteN t (a + j)) < 16 := by
  have hx : ∀ {n base x : Nat}, base ≤ 16 → refVal t (a + 1) n base = some x → ∀ j, 1 ≤ j → j < n + 1 → digitW (byteN t (a + j)) < 16 := by
    intro n base x hb hr j h1 h2
    have := refVal_digits hb hr (j - 1) (by omega)
    rw [show a + 1 + (j - 1) = a + j by omega] at this
    omega
  unfold partN at h
  split at h
  · cases h
  split at h
  · rename_i v hv
    cases h
    exact ⟨fun e => (by rw [e, single_10] at hv; cases hv), fun j h1 h2 => by omega⟩
  split at h
  · rename_i h120
    split at h
    · cases h
    · rename_i hr; cases h; exact ⟨by omega, hx (by omega) hr⟩
  split at h
  · rename_i h117
    unfold sgnN at h
    split at h
    · cases h
    · rename_i hr
      split at h
      · cases h; exact ⟨by omega, hx (by omega) hr⟩
      · cases h
  split at h
  · rename_i h85
    unfold sgnN at h
    split at h
    · cases h
    · rename_i hr
      split at h
      · cases h; exact ⟨by omega, hx (by omega) hr⟩
      · cases h
  split at h
  · cases h
  · rename_i hr
    split at h
    · cases h
      have hd := refVal_digits (by omega) hr
      refine ⟨fun e => ?_, fun j h1 h2 => ?_⟩
      · have := hd 0 (by omega)
        rw [Nat.add_zero, e] at this
        exact absurd this (by decide)
      · have := hd j h2
        omega
    · cases h
/-- Figures do not end what stands between quotes. -/
theorem rq_digits (s : ByteArray) (k : Nat) : ∀ m, (∀ j, j < m → k + j < s.size ∧ digitW (byteN s (k + j)) < 16) → RQ s 34 k = RQ s 34 (k + m)
  | 0, _ => rfl
  | m + 1, h => by
    rw [rq_digits s k m (fun j hj => h j (by omega))]
    obtain ⟨h1, h2⟩ := h m (by omega)
    have := digitW_lt h2
    rw [rq_step s 34 (k + m), if_pos h1, if_neg (by omega), if_neg (by omega), if_neg (by omega), Nat.add_assoc]
theorem inner_size (s : ByteArray) : (inner s).size = s.size - 1 - 1 := by simp [inner]
theorem inner_byte (s : ByteArray) (i : Nat) (h : i < (inner s).size) : byteN (inner s) i = byteN s (i + 1) := by
  rw [inner_size] at h
  unfold inner
  rw [byteN_ext s 1 (s.size - 1) i (by omega) (by omega), Nat.add_comm]
theorem doc_rq (s : ByteArray) (h2 : 2 ≤ s.size) (hl : byteN s (s.size - 1) = 34) : ∀ (n i g : Nat) (out x : List Nat), (inner s).size - i = n → i ≤ (inner s).size → docF 34 (inner s) g i out = some x → RQ s 34 (i + 1) = s.size := by
  have hz := inner_size s
  intro n
  induction n using Nat.strongRecOn with
  | ind n ih =>
    intro i g out x hn hi hd
    cases g with
    | zero => cases hd
    | succ g =>
      rw [docF] at hd
      by_cases h0 : (inner s).size ≤ i
      · have hk : i + 1 = s.size - 1 := by omega
        rw [rq_step, if_pos (by omega), hk, if_neg (by omega), if_pos hl]
        omega
      rw [if_neg h0] at hd
      have hb := inner_byte s i (by omega)
      split at hd
      · cases hd
      rename_i hno
      rw [if_neg (by omega)] at hd
      split at hd
      · rename_i h92
        have hb92 : byteN s (i + 1) = 92 := by omega
        split at hd
        · cases hd
        · rename_i l k hp
          obtain ⟨k1, k2⟩ := partN_le (by omega) hp
          obtain ⟨p1, p2⟩ := partN_bytes hp
          have hb2 := inner_byte s (i + 1) (by omega)
          have hne : byteN s (i + 1 + 1) ≠ 10 := by omega
          have hI := ih ((inner s).size - (i + 1 + k)) (by omega) (i + 1 + k) g _ x rfl (by omega) hd
          rw [rq_step, if_pos (by omega), if_neg (by omega), if_neg (by omega), if_pos ⟨rfl, hb92⟩, if_neg (by omega)]
          rw [show i + 1 + 2 = i + 3 by omega, rq_digits s (i + 3) (k - 1), show i + 3 + (k - 1) = i + 1 + k + 1 by omega]
          · exact hI
          · intro j hj
            have := p2 (j + 1) (by omega) (by omega)
            rw [inner_byte s _ (by omega)] at this
            rw [show i + 1 + (j + 1) + 1 = i + 3 + j by omega] at this
            exact ⟨by omega, this⟩
      · rename_i hn92
        have hI := ih ((inner s).size - (i + 1)) (by omega) (i + 1) g _ x rfl (by omega) hd
        rw [rq_step, if_pos (by omega), if_neg (by omega), if_neg (by omega), if_neg (by omega)]
        exact hI
theorem raw_rq (s : ByteArray) (h2 : 2 ≤ s.size) (hl : byteN s (s.size - 1) = 96) (hn : ∀ j, j < (inner s).size → byteN (inner s) j ≠ 96) : ∀ (n i : Nat), (inner s).size - i = n → i ≤ (inner s).size → RQ s 96 (i + 1) = s.size := by
  have hz := inner_size s
  intro n
  induction n with
  | zero =>
    intro i h1 h3
    have hk : i + 1 = s.size - 1 := by omega
    rw [rq_step, if_pos (by omega), hk, if_neg (by omega), if_pos hl]
    omega
  | succ n ih =>
    intro i h1 h3
    have hb := hn i (by omega)
    rw [inner_byte s i (by omega)] at hb
    rw [rq_step, if_pos (by omega), if_neg (by omega), if_neg (by omega), if_neg (by omega)]
    exact ih (i + 1) (by omega) (by omega)
theorem no_tick {t : ByteArray} (h : ¬ 0 ≤ Lib.indexByte t.data.toList 96) : ∀ j, j < t.size → byteN t j ≠ 96 := by
  have hge := Lib.indexByte_ge t.data.toList 96
  have hn := Lib.indexByte_none (show Lib.indexByte t.data.toList 96 = -1 by omega)
  intro j hj e
  have hk : j < t.data.toList.length := by simpa using hj
  apply hn j
  rw [List.getElem?_eq_getElem hk]
  unfold byteN at e
  rw [List.getD_eq_getElem?_getD, List.getElem?_eq_getElem hk, Option.getD_some] at e
  congr 1
  rw [← UInt8.toNat_inj, e]
  rfl
theorem tl_0 (t : ByteArray) : tl t 0 = t := by
  apply ba_ext
  rw [tl_list, List.drop_zero]
theorem ext_all (s : ByteArray) : s.extract 0 s.size = s := by
  apply ba_ext
  rw [pre_list]
  exact List.take_of_length_le (by simp)
theorem text_rq {s : ByteArray} {l : List Nat} (h : textR s = some l) : 2 ≤ s.size ∧ ¬ 0 ≤ wrongF s ∧ (byteN s 0 = 34 ∨ byteN s 0 = 96) ∧ RQ s (byteN s 0) 1 = s.size := by
  unfold textR at h
  split at h
  · cases h
  rename_i h1
  split at h
  · cases h
  rename_i hw
  split at h
  · rename_i h96
    split at h
    · cases h
    · rename_i hi
      exact ⟨by omega, hw, .inr h96, by rw [h96]; exact raw_rq s (by omega) (by omega) (no_tick hi) _ 0 rfl (Nat.zero_le _)⟩
  · split at h
    · rename_i h34
      have hd := doc_parts (inner s) (inner s).size 0 ((inner s).size + 1) ((inner s).size + 1) [] (by omega) (by omega) (by omega) (by omega)
      rw [tl_0, h] at hd
      exact ⟨by omega, hw, .inl h34, by rw [h34]; exact doc_rq s (by omega) (by omega) _ 0 _ [] l rfl (Nat.zero_le _) hd⟩
    · cases h
theorem note_0 {s : ByteArray} {a : Nat} (h : byteN s a ≠ 47) : refNoteF s a = 0 := by
  unfold refNoteF
  rw [if_neg h]
  split <;> rfl
/-- What means a text is one token. -/
theorem scan_text {s : ByteArray} {l : List Nat} (hs : s.size ≤ 65536) (h : textR s = some l) : scanF s = .ok ([⟨5, s, 0⟩, ⟨6, nlB, s.size⟩], []) := by
  obtain ⟨h2, hw, hq, hR⟩ := text_rq h
  have hRQ : refQuotedF s (byteN s 0) (s.size + 1) (0 + 1) = s.size := hR
  obtain ⟨m, hm⟩ : ∃ m, s.size = m + 1 := ⟨s.size - 1, by omega⟩
  rw [← ref_scan]
  unfold refScanF
  rw [if_neg (by omega), if_neg (by rw [← wrongF_eq]; exact hw), refF, if_pos (by omega)]
  have hl : (letterN (byteN s 0) || figureN (byteN s 0)) = false := by rcases hq with e | e <;> rw [e] <;> rfl
  have hst : refStepF s [] [] 0 = some ([⟨5, s, 0⟩], [], s.size) := by
    unfold refStepF
    rw [if_neg (by omega), if_neg (by omega), if_neg (by omega), note_0 (by omega), if_neg (by omega), hl, if_neg (by decide), if_pos hq, hRQ, if_neg (by omega), Int.toNat_natCast, ext_all]
    rfl
  rw [hst]
  simp only [Nat.zero_add]
  rw [hm, refF, ← hm, if_neg (by omega)]
  rfl

/-! A number. -/
theorem wrong_ascii (s : ByteArray) (h : ∀ i, i < s.size → 0 < byteN s i ∧ byteN s i < 128) : wrongF s = -1 := by
  rw [wrongF_eq]
  suffices H : ∀ f i, i ≤ s.size → wrongR s f i = -1 from H _ 0 (Nat.zero_le _)
  intro f
  induction f with
  | zero => intro i _; rfl
  | succ f ih =>
    intro i hi
    by_cases hlt : i < s.size
    · have hb := h i hlt
      have hv := signV_dec s i hlt
      have hn := signN_dec s i hlt
      rw [dec_ascii s i hlt hb.2] at hv hn
      simp at hv hn
      rw [wrongR, if_pos hlt, hv, ← hn, if_neg (by omega)]
      exact ih _ (by omega)
    · rw [wrongR, if_neg hlt]
def alnum (n : Nat) : Prop := n = 95 ∨ (48 ≤ n ∧ n ≤ 57) ∨ (97 ≤ n ∧ n ≤ 122) ∨ (65 ≤ n ∧ n ≤ 90)
theorem digF_bytes (t : ByteArray) (b : Nat) (hb : b ≤ 16) : ∀ (f pos last : Nat) (l r : List Nat), digF t b f pos last l = some r → pos ≤ t.size → (∀ i, pos ≤ i → i < t.size → alnum (byteN t i)) ∧ (last = 0 → pos < t.size ∧ (digitW (byteN t pos) < b ∨ byteN t pos = 95))
  | 0, _, _, _, _, h, _ => by simp [digF] at h
  | f + 1, pos, last, l, r, h, hp => by
    unfold digF at h
    split at h
    · rename_i hlt
      have hw := dec_width t pos hlt
      split at h
      · rename_i h95
        have hd := dec_byte t pos hlt
        have hb0 : byteN t pos = 95 ∧ (Utf8.decode t pos).2 = 1 := by rcases hd with ⟨a, c, _⟩ | ⟨a, _⟩ <;> omega
        split at h
        · cases h
        · rw [hb0.2] at h
          have ih := digF_bytes t b hb f (pos + 1) _ _ _ h (by omega)
          refine ⟨fun i h1 h2 => ?_, fun _ => ⟨hlt, .inr hb0.1⟩⟩
          by_cases he : i = pos
          · rw [he, hb0.1]; exact .inl rfl
          · exact ih.1 i (by omega) h2
      · split at h
        · rename_i hdg
          have hr := digitW_lt (show digitW (Utf8.decode t pos).1 < 16 by omega)
          have hd := dec_byte t pos hlt
          have hb0 : byteN t pos = (Utf8.decode t pos).1 ∧ (Utf8.decode t pos).2 = 1 := by rcases hd with ⟨a, c, _⟩ | ⟨a, _⟩ <;> omega
          rw [hb0.2] at h
          have ih := digF_bytes t b hb f (pos + 1) _ _ _ h (by omega)
          refine ⟨fun i h1 h2 => ?_, fun _ => ⟨hlt, .inl (by rw [hb0.1]; exact hdg)⟩⟩
          by_cases he : i = pos
          · rw [he, hb0.1]; unfold alnum; omega
          · exact ih.1 i (by omega) h2
        · cases h
    · split at h
      · cases h
      · rename_i hnl hl
        exact ⟨fun i h1 h2 => by omega, fun h0 => absurd h0 (by omega)⟩
theorem num_bytes {s r : ByteArray} (h : numR s = some r) : 0 < s.size ∧ (48 ≤ byteN s 0 ∧ byteN s 0 ≤ 57) ∧ ∀ i, i < s.size → alnum (byteN s i) := by
  unfold numR at h
  split at h
  · cases h
  rename_i b n hsp
  have hin : ∀ {x : List Nat}, digF (s.extract n s.size) b ((s.extract n s.size).size + 1) 0 0 [] = some x → b ≤ 16 → 0 < s.size - n ∧ (∀ i, n ≤ i → i < s.size → alnum (byteN s i)) ∧ (digitW (byteN s n) < b ∨ byteN s n = 95) := by
    intro x hx hb
    obtain ⟨h1, h2⟩ := digF_bytes _ b hb _ _ _ _ _ hx (Nat.zero_le _)
    obtain ⟨h3, h4⟩ := h2 rfl
    have hz : (s.extract n s.size).size = s.size - n := by simp
    rw [hz] at h1 h3
    rw [byteN_tail, Nat.add_zero] at h4
    refine ⟨h3, fun i a c => ?_, h4⟩
    have := h1 (i - n) (Nat.zero_le _) (by omega)
    rwa [byteN_tail, show n + (i - n) = i by omega] at this
  cases hx : digF (s.extract n s.size) b ((s.extract n s.size).size + 1) 0 0 [] with
  | none => rw [hx] at h; cases h
  | some x =>
  have hin := hin hx
  have two : ∀ c : UInt8, pre s ⟨#[48, c]⟩ = true → alnum c.toNat → b ≤ 16 → n = 2 → 0 < s.size ∧ (48 ≤ byteN s 0 ∧ byteN s 0 ≤ 57) ∧ ∀ i, i < s.size → alnum (byteN s i) := by
    intro c hp hc hb hn
    subst hn
    have he := ext_all s
    have hp2 := pre2 s 0 48 c
    rw [he, hp] at hp2
    symm at hp2
    simp only [Bool.and_eq_true, decide_eq_true_eq, Nat.zero_add] at hp2
    obtain ⟨g1, g2, g3⟩ := hp2
    obtain ⟨i1, i2, i3⟩ := hin hb
    have g2' : byteN s 0 = 48 := g2
    refine ⟨by omega, by omega, fun i hi => ?_⟩
    by_cases e0 : i = 0
    · rw [e0, g2']; unfold alnum; omega
    by_cases e1 : i = 1
    · rw [e1, g3]; exact hc
    · exact i2 i (by omega) hi
  unfold splitF at hsp
  split at hsp
  · rename_i hp; cases hsp; exact two 120 hp (by unfold alnum; decide) (by omega) rfl
  split at hsp
  · rename_i hp; cases hsp; exact two 88 hp (by unfold alnum; decide) (by omega) rfl
  split at hsp
  · rename_i hp; cases hsp; exact two 98 hp (by unfold alnum; decide) (by omega) rfl
  split at hsp
  · rename_i hp; cases hsp; exact two 66 hp (by unfold alnum; decide) (by omega) rfl
  split at hsp
  · rename_i hp; cases hsp; exact two 111 hp (by unfold alnum; decide) (by omega) rfl
  split at hsp
  · rename_i hp; cases hsp; exact two 79 hp (by unfold alnum; decide) (by omega) rfl
  split at hsp
  · rename_i hp
    cases hsp
    obtain ⟨i1, i2, i3⟩ := hin (by omega)
    simp only [Bool.and_eq_true] at hp
    have hp1 := hp.1
    rw [pre_one] at hp1
    simp only [decide_eq_true_eq] at hp1
    have g2' : byteN s 0 = 48 := hp1.2
    refine ⟨by omega, by omega, fun i hi => ?_⟩
    by_cases e0 : i = 0
    · rw [e0, g2']; unfold alnum; omega
    · exact i2 i (by omega) hi
  split at hsp
  · cases hsp
  · rename_i hp
    cases hsp
    obtain ⟨i1, i2, i3⟩ := hin (by omega)
    rw [pre_one] at hp
    simp only [decide_eq_true_eq] at hp
    have g2' : ¬ (1 ≤ s.size ∧ byteN s 0 = 95) := hp
    refine ⟨by omega, ?_, fun i hi => i2 i (by omega) hi⟩
    rcases i3 with i3 | i3
    · have := digitW_lt (show digitW (byteN s 0) < 16 by omega)
      unfold digitW at i3
      repeat' split at i3
      all_goals omega
    · omega
theorem alnum_in {n : Nat} (h : alnum n) : (letterN n || figureN n) = true := by
  unfold alnum at h
  unfold letterN figureN
  simp only [Bool.or_eq_true, Bool.and_eq_true, decide_eq_true_eq, beq_iff_eq]
  omega
theorem wordEnd_all (s : ByteArray) (h : ∀ i, i < s.size → alnum (byteN s i)) : ∀ f k, s.size < f + k → k ≤ s.size → wordEnd s f k = s.size
  | 0, k, h1, h2 => by omega
  | f + 1, k, h1, h2 => by
    rw [wordEnd]
    by_cases hlt : k < s.size
    · rw [if_pos hlt, if_pos (alnum_in (h k hlt))]
      exact wordEnd_all s h f (k + 1) (by omega) (by omega)
    · rw [if_neg hlt]; omega
/-- What means a number is one token. -/
theorem scan_num {s r : ByteArray} (hs : s.size ≤ 65536) (h : numR s = some r) : scanF s = .ok ([⟨4, s, 0⟩, ⟨6, nlB, s.size⟩], []) := by
  obtain ⟨h0, hf, ha⟩ := num_bytes h
  have hw : wrongF s = -1 := wrong_ascii s fun i hi => by have := ha i hi; unfold alnum at this; omega
  obtain ⟨m, hm⟩ : ∃ m, s.size = m + 1 := ⟨s.size - 1, by omega⟩
  rw [← ref_scan]
  unfold refScanF
  rw [if_neg (by omega), if_neg (by rw [← wrongF_eq, hw]; decide), refF, if_pos (by omega)]
  have hl : letterN (byteN s 0) = false := by
    rw [← Bool.not_eq_true]; unfold letterN; simp only [Bool.or_eq_true, Bool.and_eq_true, decide_eq_true_eq, beq_iff_eq]; omega
  have hg : (letterN (byteN s 0) || figureN (byteN s 0)) = true := alnum_in (ha 0 h0)
  have hst : refStepF s [] [] 0 = some ([⟨4, s, 0⟩], [], s.size) := by
    unfold refStepF
    rw [if_neg (by omega), if_neg (by omega), if_neg (by omega), note_0 (by omega), if_neg (by omega), if_pos hg, wordEnd_all s ha _ _ (by omega) (by omega), ext_all, hl]
    rfl
  rw [hst]
  simp only [Nat.zero_add]
  rw [hm, refF, ← hm, if_neg (by omega)]
  rfl
theorem num_no_text {s r : ByteArray} (h : numR s = some r) : textR s = none := by
  obtain ⟨h0, hf, _⟩ := num_bytes h
  cases ht : textR s with
  | none => rfl
  | some l => have := (text_rq ht).2.2.1; omega
end Go.Proofs.YtlddbelpbgmljaaDoor
namespace Go.Proofs.YtlddbelpbgmljaaDoor
open Go.RowKit
set_option linter.unusedSimpArgs false
set_option linter.unusedVariables false
set_option linter.unusedSectionVars false

/-! LitBack: what is written plainly means what it was (pure). -/
def quoteAll (cs : List UInt8) : List Nat := cs.flatMap fun c => quoteB c.toNat
theorem quoteAll_cons (c : UInt8) (cs : List UInt8) : quoteAll (c :: cs) = quoteB c.toNat ++ quoteAll cs := rfl
theorem hexd_digit {n : Nat} (h : n < 16) : digitW (hexd n) = n := by
  unfold hexd digitW
  split
  · rw [if_pos (by omega)]; omega
  · rw [if_neg (by omega), if_pos (by omega)]; omega
theorem single_120 : singleF 120 = none := rfl
theorem doc_quote (t : ByteArray) : ∀ (cs : List UInt8) (i g : Nat) (out : List Nat), t.size = i + (quoteAll cs).length → (∀ j, j < (quoteAll cs).length → byteN t (i + j) = (quoteAll cs).getD j 0) → cs.length < g →
    docF 34 t g i out = some (out ++ cs.map UInt8.toNat)
  | [], i, g, out, hz, _, hg => by
    obtain ⟨g, rfl⟩ : ∃ x, g = x + 1 := ⟨g - 1, by simp at hg; omega⟩
    rw [docF, if_pos (by simp [quoteAll] at hz; omega)]
    simp
  | c :: cs, i, g, out, hz, hb, hg => by
    obtain ⟨g, rfl⟩ : ∃ x, g = x + 1 := ⟨g - 1, by simp at hg; omega⟩
    have hc : c.toNat < 256 := c.toNat_lt
    rw [quoteAll_cons] at hz hb
    rw [List.length_append] at hz hb
    have hg' : cs.length < g := by simp at hg; omega
    have hrest : ∀ m, (quoteB c.toNat).length = m → t.size = i + m + (quoteAll cs).length ∧ ∀ j, j < (quoteAll cs).length → byteN t (i + m + j) = (quoteAll cs).getD j 0 := by
      intro m hm
      refine ⟨by omega, fun j hj => ?_⟩
      have := hb (m + j) (by omega)
      rw [← Nat.add_assoc] at this
      rw [this, List.getD_eq_getElem?_getD, List.getD_eq_getElem?_getD, List.getElem?_append_right (by omega), hm, Nat.add_sub_cancel_left]
    have hfirst : ∀ j, j < (quoteB c.toNat).length → byteN t (i + j) = (quoteB c.toNat).getD j 0 := by
      intro j hj
      rw [hb j (by omega), List.getD_eq_getElem?_getD, List.getD_eq_getElem?_getD, List.getElem?_append_left hj]
    have fin : ∀ m, (quoteB c.toNat).length = m → docF 34 t g (i + m) (out ++ [c.toNat]) = some (out ++ (c :: cs).map UInt8.toNat) := by
      intro m hm
      obtain ⟨r1, r2⟩ := hrest m hm
      rw [doc_quote t cs (i + m) g _ r1 r2 hg']
      simp
    have esc : ∀ d v, quoteB c.toNat = [92, d] → singleF d = some v → v = c.toNat → docF 34 t (g + 1) i out = some (out ++ (c :: cs).map UInt8.toNat) := by
      intro d v hq hs hv
      have hm : (quoteB c.toNat).length = 2 := by rw [hq]; rfl
      have b0 := hfirst 0 (by omega)
      have b1 := hfirst 1 (by omega)
      rw [hq] at b0 b1
      simp only [Nat.add_zero, List.getD_cons_zero, List.getD_cons_succ] at b0 b1
      have hp : partN t (i + 1) = some ([v], 1) := by
        unfold partN
        rw [if_neg (by omega), b1, hs]
      rw [docF, if_neg (by omega), if_neg (by omega), if_neg (by omega), if_pos ⟨rfl, b0⟩, hp]
      simp only
      rw [hv]
      exact fin 2 hm
    by_cases c1 : c.toNat = 34 ∨ c.toNat = 92
    · have hq : quoteB c.toNat = [92, c.toNat] := by unfold quoteB; rw [if_pos c1]
      exact esc _ c.toNat hq (by rcases c1 with e | e <;> rw [e] <;> rfl) rfl
    by_cases c2 : c.toNat = 10
    · have hq : quoteB c.toNat = [92, 110] := by rw [c2]; rfl
      exact esc 110 10 hq rfl (by omega)
    by_cases c3 : c.toNat = 9
    · have hq : quoteB c.toNat = [92, 116] := by rw [c3]; rfl
      exact esc 116 9 hq rfl (by omega)
    by_cases c4 : 32 ≤ c.toNat ∧ c.toNat ≤ 126
    · have hq : quoteB c.toNat = [c.toNat] := by unfold quoteB; rw [if_neg c1, if_neg c2, if_neg c3, if_pos c4]
      have hm : (quoteB c.toNat).length = 1 := by rw [hq]; rfl
      have b0 := hfirst 0 (by omega)
      rw [hq] at b0
      simp only [Nat.add_zero, List.getD_cons_zero] at b0
      rw [docF, if_neg (by omega), if_neg (by omega), if_neg (by omega), if_neg (by omega), b0]
      exact fin 1 hm
    · have hq : quoteB c.toNat = [92, 120, hexd (c.toNat / 16), hexd (c.toNat % 16)] := by unfold quoteB; rw [if_neg c1, if_neg c2, if_neg c3, if_neg c4]
      have hm : (quoteB c.toNat).length = 4 := by rw [hq]; rfl
      have b0 := hfirst 0 (by omega)
      have b1 := hfirst 1 (by omega)
      have b2 := hfirst 2 (by omega)
      have b3 := hfirst 3 (by omega)
      rw [hq] at b0 b1 b2 b3
      simp only [Nat.add_zero, List.getD_cons_zero, List.getD_cons_succ] at b0 b1 b2 b3
      have d2 := hexd_digit (show c.toNat / 16 < 16 by omega)
      have d3 := hexd_digit (show c.toNat % 16 < 16 by omega)
      have hv : refVal t (i + 1 + 1) 2 16 = some c.toNat := by
        unfold refVal
        rw [if_neg (by omega), valF, valF, valF, show i + 1 + 1 = i + 2 by omega, show i + 2 + 1 = i + 3 by omega, b2, b3, d2, d3, if_pos (by omega), if_pos (by omega)]
        congr 1
        omega
      have hp : partN t (i + 1) = some ([c.toNat], 3) := by
        unfold partN
        rw [if_neg (by omega), b1, single_120]
        simp only
        rw [if_pos trivial, hv]
      rw [docF, if_neg (by omega), if_neg (by omega), if_neg (by omega), if_pos ⟨rfl, b0⟩, hp]
      simp only
      exact fin 4 hm
theorem quoteB_ascii (c : Nat) (h : c < 256) : ∀ x ∈ quoteB c, 0 < x ∧ x < 128 := by
  intro x hx
  unfold quoteB hexd at hx
  repeat' split at hx
  all_goals (simp only [List.mem_cons, List.not_mem_nil, or_false] at hx; omega)
theorem quoteL_all (s : ByteArray) : quoteL s s.size ++ [34] = 34 :: (quoteAll s.data.toList ++ [34]) := by
  have h : s.data.toList.take s.size = s.data.toList := List.take_of_length_le (by simp)
  unfold quoteL quoteAll
  rw [h, List.cons_append]
theorem quoteL_ascii (s : ByteArray) : ∀ x ∈ quoteL s s.size ++ [34], 0 < x ∧ x < 128 := by
  intro x hx
  rw [quoteL_all] at hx
  simp only [List.mem_cons, List.mem_append, List.not_mem_nil, or_false] at hx
  rcases hx with rfl | hx | rfl
  · omega
  · unfold quoteAll at hx
    obtain ⟨c, _, hc⟩ := List.mem_flatMap.1 hx
    exact quoteB_ascii _ c.toNat_lt x hc
  · omega
theorem bytesOf_N (l : List Nat) (hl : ∀ x ∈ l, x < 256) (i : Nat) (hi : i < l.length) : byteN (bytesOf l) i = l.getD i 0 := by
  have hg : l[i]? = some l[i] := List.getElem?_eq_getElem _
  have hm : l[i] < 256 := hl _ (List.getElem_mem _)
  simp only [byteN, bytesOf, List.getD_eq_getElem?_getD, List.getElem?_map, hg, Option.map_some, Option.getD_some, UInt8.toNat_ofNat']
  omega
theorem quoteF_byte (s : ByteArray) (i : Nat) (h : i < (quoteF s).size) : byteN (quoteF s) i = (34 :: (quoteAll s.data.toList ++ [34])).getD i 0 := by
  have hz : (quoteF s).size = (quoteL s s.size ++ [34]).length := bytesOf_size _
  unfold quoteF
  rw [bytesOf_N _ (fun x hx => by have := quoteL_ascii s x hx; omega) i (by omega), quoteL_all]
theorem quoteF_size (s : ByteArray) : (quoteF s).size = (quoteAll s.data.toList).length + 2 := by
  unfold quoteF
  rw [bytesOf_size, quoteL_all]
  simp
theorem quoteB_pos (c : Nat) : 1 ≤ (quoteB c).length := by
  unfold quoteB
  repeat' split
  all_goals simp
theorem quoteAll_len : ∀ cs : List UInt8, cs.length ≤ (quoteAll cs).length
  | [] => Nat.le_refl _
  | c :: cs => by
    have := quoteAll_len cs
    have := quoteB_pos c.toNat
    rw [quoteAll_cons, List.length_append, List.length_cons]
    omega
/-- A text written plainly means it. -/
theorem quote_back (s : ByteArray) : textR (quoteF s) = some (bytesL s) := by
  have hz := quoteF_size s
  have hL := quoteAll_len s.data.toList
  have h0 : byteN (quoteF s) 0 = 34 := by rw [quoteF_byte s 0 (by omega)]; rfl
  have h1 : byteN (quoteF s) ((quoteF s).size - 1) = 34 := by
    rw [quoteF_byte s _ (by omega), hz, show (quoteAll s.data.toList).length + 2 - 1 = (quoteAll s.data.toList).length + 1 by omega, List.getD_cons_succ, List.getD_eq_getElem?_getD, List.getElem?_append_right (Nat.le_refl _), Nat.sub_self]
    rfl
  have hw : wrongF (quoteF s) = -1 := wrong_ascii _ fun i hi => by
    rw [quoteF_byte s i hi, ← quoteL_all]
    rw [hz] at hi
    have hl : i < (quoteL s s.size ++ [34]).length := by rw [quoteL_all]; simp; omega
    rw [List.getD_eq_getElem?_getD, List.getElem?_eq_getElem hl, Option.getD_some]
    exact quoteL_ascii s _ (List.getElem_mem _)
  have hiz := inner_size (quoteF s)
  have hd := doc_quote (inner (quoteF s)) s.data.toList 0 ((inner (quoteF s)).size + 1) [] (by omega) (fun j hj => by
    rw [Nat.zero_add, inner_byte _ j (by omega), quoteF_byte s _ (by omega), List.getD_cons_succ, List.getD_eq_getElem?_getD, List.getElem?_append_left hj, List.getD_eq_getElem?_getD]) (by omega)
  rw [doc_parts (inner (quoteF s)) (inner (quoteF s)).size 0 ((inner (quoteF s)).size + 1) ((inner (quoteF s)).size + 1) [] (by omega) (by omega) (by omega) (by omega), tl_0] at hd
  unfold textR
  rw [if_neg (by omega), if_neg (by omega), if_neg (by omega), if_pos h0, hd]
  rfl
theorem bytesOf_bytesL (s : ByteArray) : bytesOf (bytesL s) = s := by
  apply ByteArray.ext
  apply Array.toList_inj.1
  simp only [bytesOf, bytesL, List.map_map]
  rw [show (UInt8.ofNat ∘ UInt8.toNat) = id from funext fun x => by simp, List.map_id]
theorem quote_scan (s : ByteArray) (h : s.size ≤ 10000) : scanF (quoteF s) = .ok ([⟨5, quoteF s, 0⟩, ⟨6, nlB, (quoteF s).size⟩], []) :=
  scan_text (by have := quoteF_len s; omega) (quote_back s)
/-- A plain number means itself. -/
theorem plain_self {d : ByteArray} (h : plainF d = true) : d.size ≤ 200 ∧ numR d = some d := by
  unfold plainF at h
  split at h
  · cases h
  rename_i hc
  have hall : ∀ i, i < d.size → 48 ≤ byteN d i ∧ byteN d i ≤ 57 := by
    have H : ∀ f i, d.size < f + i → i ≤ d.size → plainG d f i = true → ∀ j, i ≤ j → j < d.size → 48 ≤ byteN d j ∧ byteN d j ≤ 57 := by
      intro f
      induction f with
      | zero => intro i a b; omega
      | succ f ih =>
        intro i a b hp j h1 h2
        rw [plainG, if_pos (by omega)] at hp
        split at hp
        · rename_i hd
          have hb := dec_byte d i (by omega)
          have hb0 : byteN d i = (Utf8.decode d i).1 ∧ (Utf8.decode d i).2 = 1 := by rcases hb with ⟨a, c, _⟩ | ⟨a, _⟩ <;> omega
          rw [hb0.2] at hp
          by_cases he : j = i
          · rw [he, hb0.1]; exact hd
          · exact ih (i + 1) (by omega) (by omega) hp j (by omega) h2
        · cases hp
    exact fun i hi => H _ 0 (by omega) (Nat.zero_le _) h i (Nat.zero_le _) hi
  refine ⟨by omega, ?_⟩
  by_cases h48 : byteN d 0 = 48
  · have hl : d.toList = [48] := Classical.byContradiction fun hne => hc (.inr (.inr ⟨h48, hne⟩))
    have : d = ⟨#[48]⟩ := by
      apply ByteArray.ext
      apply Array.toList_inj.1
      rw [Lib.toList_data] at hl
      rw [hl]
    subst this
    decide +kernel
  · exact plain_num (by omega) hall h48
end Go.Proofs.YtlddbelpbgmljaaDoor
namespace Go.Proofs.YtlddbelpbgmljaaDoor
open Go.RowKit
set_option linter.unusedSimpArgs false
set_option linter.unusedVariables false
set_option linter.unusedSectionVars false

/-! LitTokens. -/
/-- Scan, where there is one token, and the semicolon that is put in behind it. -/
theorem scan_two {p : Option Addr} {cap : Nat} {s : ByteArray} {k : Int} {n : Nat} (w : World) (hb : BSl w p s) (hE : Env w) (h2 : 2 ≤ w.heap.size) (hs : s.size ≤ 4611686018427387904) (h : scanF s = .ok ([⟨k, s, 0⟩, ⟨6, nlB, n⟩], [])) :
    Calls Tryd.prog 7 #[.slice p s.size cap] w fun e w' => ∃ g c, e = .returned (.tuple #[.slice (some ⟨g, 0, none⟩) 2 c, .int .i64 0, .int .i64 0]) ∧ Below w.heap.size w w' ∧ w'.cell? ⟨g, 0, none⟩ = some (.int .i64 k) ∧ w'.cell? ⟨g, 1, none⟩ = some (.string s) := by
  have hc := Scan_any p cap s w hb hE h2 hs
  rw [h] at hc
  refine hc.mono ?_
  rintro e w' ⟨vt, rfl, hb, ho⟩
  rcases ho.2 with ⟨_, h0⟩ | ⟨g, c, cur, rfl, _⟩
  · exact absurd h0 (by simp)
  · have hcell : ∀ j v, (flat [(⟨k, s, 0⟩ : Tok), ⟨6, nlB, n⟩])[j]? = some v → w'.cell? ⟨g, j, none⟩ = some v := by
      intro j v hj
      have := ho.cells (g := g) rfl _ _ hj
      have e : (⟨g, 0, none⟩ : Addr).add j = ⟨g, j, none⟩ := by unfold Addr.add; split <;> simp_all
      rwa [e] at this
    exact ⟨g, c, rfl, hb, hcell 0 _ rfl, hcell 1 _ rfl⟩
/-- Scan, whatever it tells. -/
theorem scan_some {p : Option Addr} {cap : Nat} {s : ByteArray} (w : World) (hb : BSl w p s) (hE : Env w) (h2 : 2 ≤ w.heap.size) (hs : s.size ≤ 4611686018427387904) :
    Calls Tryd.prog 7 #[.slice p s.size cap] w fun e w' => ∃ (a : Option Addr) (n c : Nat) (x y : Int), e = .returned (.tuple #[.slice a n c, .int .i64 x, .int .i64 y]) ∧ Below w.heap.size w w' := by
  refine (Scan_any p cap s w hb hE h2 hs).mono ?_
  intro e w' h
  cases hR : scanF s with
  | error r =>
    obtain ⟨a, n⟩ := r
    rw [hR] at h
    exact ⟨none, 0, 0, a, n, h.1, h.2⟩
  | ok r =>
    obtain ⟨tk, nt⟩ := r
    rw [hR] at h
    obtain ⟨vt, h1, h3, h4⟩ := h
    obtain ⟨a, c, rfl⟩ := own_slice h4
    exact ⟨a, _, c, 0, 0, h1, h3⟩

set_option maxRecDepth 100000 in
set_option maxHeartbeats 6400000 in
theorem tokens_walk (s : ByteArray) (w : World) (hE : Env w) (h2 : 2 ≤ w.heap.size) (hs0 : s.size ≤ 9223372036854775807) :
    Calls Tryd.prog 4 #[.string s] w fun e w' => e = .returned (.bool true) ∧ Below w.heap.size w w' := by
  by_cases hl : 300 < s.size
  · have hd : decide (300 < (s.size : Int)) = true := by simp; omega
    go_enter Tryd.func4, Tryd.ntmps4
    go_wp2_with fail
    go_ret
    exact ⟨rfl, Below.refl _ _⟩
  have hd : decide (300 < (s.size : Int)) = false := by simp; omega
  have hN := fun w => Number_any s w (by omega)
  have hT := fun w => Text_all s w (by omega)
  have hcv := fun w => run_bytes_of_string (P := Tryd.prog) w 9 29 5 s Tryd.underlying9 Tryd.underlying29 Tryd.underlying5
  have HE := Lib.hid hE
  by_cases cN : numE s = 0
  · have hnum : ∃ r, numR s = some r := by
      unfold numE at cN
      split at cN
      · exact absurd cN (by decide)
      · cases hr : numR s with
        | none => rw [hr] at cN; exact absurd cN (by decide)
        | some r => exact ⟨r, rfl⟩
    obtain ⟨r, hr⟩ := hnum
    have hsc := scan_num (by omega) hr
    have hTE : textE s = 4 := by unfold textE; rw [if_neg (by omega), num_no_text hr]
    rw [hTE] at hT
    rw [cN] at hN
    generalize numV s = nv at hN
    generalize textV s = tv at hT
    have h2s := fun (p : Option Addr) (cap : Nat) (w1 : World) (hb1 : Below w.heap.size w w1) (hb : BSl w1 p s) => scan_two (p := p) (cap := cap) w1 hb (hE.below hb1 h2) (by have := hb1.size; omega) (by omega) hsc
    clear hsc hr hTE cN hE
    go_enter Tryd.func4, Tryd.ntmps4
    go_wp2_with (first
      | (go_at_call 9; with_reducible refine Calls.mono (hN _) ?_; rintro e w3 ⟨rfl, hb3⟩; have HB3 := Lib.hid hb3; clear hb3)
      | (go_at_call 6; with_reducible refine Calls.mono (hT _) ?_; rintro e w4 ⟨rfl, hb4⟩; have HB4 : Hid (Below w.heap.size w w4) := Lib.hid (HB3.out.trans (hb4.mono HB3.out.size)); clear hb4))
    have hge := grownCap_ge w4 s.size 0 5
    generalize grownCap w4 s.size 0 5 = gc at *
    have hbs := (bytesRow_bsl s w4 gc hge ((bytesRow s gc).size, (bytesRow s gc).size + 1)).below (Below.refl _ _).drew
    have hb7 : Below w4.heap.size w4 (w4.alloc (.cells (bytesRow s gc) 5 ((bytesRow s gc).size, (bytesRow s gc).size + 1))).drew := ((Below.refl _ _).alloc (Nat.le_refl _) _).drew
    have HB7 : Hid (Below w.heap.size w (w4.alloc (.cells (bytesRow s gc) 5 ((bytesRow s gc).size, (bytesRow s gc).size + 1))).drew) := Lib.hid (HB4.out.trans (hb7.mono HB4.out.size))
    generalize (w4.alloc (.cells (bytesRow s gc) 5 ((bytesRow s gc).size, (bytesRow s gc).size + 1))).drew = w7 at *
    clear hge hb7
    go_at_call 7
    with_reducible refine Calls.mono (h2s _ _ _ HB7.out hbs) ?_
    rintro e w8 ⟨g, c, rfl, hb8, hc0, hc1⟩
    have HB8 : Hid (Below w.heap.size w w8) := Lib.hid (HB7.out.trans (hb8.mono HB7.out.size))
    clear hb8 hbs h2s hN hT hcv
    go_wp2_with (go_at_call 10; with_reducible refine Calls.mono (awake_any _) ?_; rintro e w9 ⟨rfl, hb9⟩; have HB9 : Hid (Below w.heap.size w w9) := Lib.hid (HB8.out.trans (hb9.mono HB8.out.size)); clear hb9)
    go_ret
    exact ⟨rfl, HB9.out⟩
  have hNE : (numE s == 0) = false := by simpa using cN
  have hNE' : ¬ numE s = 0 := cN
  by_cases cT : textE s = 0
  · have htx : ∃ l, textR s = some l := by
      unfold textE at cT
      split at cT
      · exact absurd cT (by decide)
      · cases hr : textR s with
        | none => rw [hr] at cT; exact absurd cT (by decide)
        | some r => exact ⟨r, rfl⟩
    obtain ⟨l, hr⟩ := htx
    have hsc := scan_text (by omega) hr
    rw [cT] at hT
    generalize numE s = ne at *
    generalize numV s = nv at hN
    generalize textV s = tv at hT
    have h2s := fun (p : Option Addr) (cap : Nat) (w1 : World) (hb1 : Below w.heap.size w w1) (hb : BSl w1 p s) => scan_two (p := p) (cap := cap) w1 hb (hE.below hb1 h2) (by have := hb1.size; omega) (by omega) hsc
    clear hsc hr cT cN hE
    go_enter Tryd.func4, Tryd.ntmps4
    go_wp2_with (first
      | (go_at_call 9; with_reducible refine Calls.mono (hN _) ?_; rintro e w3 ⟨rfl, hb3⟩; have HB3 := Lib.hid hb3; clear hb3)
      | (go_at_call 6; with_reducible refine Calls.mono (hT _) ?_; rintro e w4 ⟨rfl, hb4⟩; have HB4 : Hid (Below w.heap.size w w4) := Lib.hid (HB3.out.trans (hb4.mono HB3.out.size)); clear hb4))
    have hge := grownCap_ge w4 s.size 0 5
    generalize grownCap w4 s.size 0 5 = gc at *
    have hbs := (bytesRow_bsl s w4 gc hge ((bytesRow s gc).size, (bytesRow s gc).size + 1)).below (Below.refl _ _).drew
    have hb7 : Below w4.heap.size w4 (w4.alloc (.cells (bytesRow s gc) 5 ((bytesRow s gc).size, (bytesRow s gc).size + 1))).drew := ((Below.refl _ _).alloc (Nat.le_refl _) _).drew
    have HB7 : Hid (Below w.heap.size w (w4.alloc (.cells (bytesRow s gc) 5 ((bytesRow s gc).size, (bytesRow s gc).size + 1))).drew) := Lib.hid (HB4.out.trans (hb7.mono HB4.out.size))
    generalize (w4.alloc (.cells (bytesRow s gc) 5 ((bytesRow s gc).size, (bytesRow s gc).size + 1))).drew = w7 at *
    clear hge hb7
    go_at_call 7
    with_reducible refine Calls.mono (h2s _ _ _ HB7.out hbs) ?_
    rintro e w8 ⟨g, c, rfl, hb8, hc0, hc1⟩
    have HB8 : Hid (Below w.heap.size w w8) := Lib.hid (HB7.out.trans (hb8.mono HB7.out.size))
    clear hb8 hbs h2s hN hT hcv
    go_wp2_with (go_at_call 10; with_reducible refine Calls.mono (awake_any _) ?_; rintro e w9 ⟨rfl, hb9⟩; have HB9 : Hid (Below w.heap.size w w9) := Lib.hid (HB8.out.trans (hb9.mono HB8.out.size)); clear hb9)
    go_ret
    exact ⟨rfl, HB9.out⟩
  · have hTE : (textE s != 0) = true := by simpa using cT
    generalize numE s = ne at *
    generalize numV s = nv at hN
    generalize textE s = te at *
    generalize textV s = tv at hT
    have h2s := fun (p : Option Addr) (cap : Nat) (w1 : World) (hb1 : Below w.heap.size w w1) (hb : BSl w1 p s) => scan_some (p := p) (cap := cap) w1 hb (hE.below hb1 h2) (by have := hb1.size; omega) (by omega)
    clear cT cN hE
    go_enter Tryd.func4, Tryd.ntmps4
    go_wp2_with (first
      | (go_at_call 9; with_reducible refine Calls.mono (hN _) ?_; rintro e w3 ⟨rfl, hb3⟩; have HB3 := Lib.hid hb3; clear hb3)
      | (go_at_call 6; with_reducible refine Calls.mono (hT _) ?_; rintro e w4 ⟨rfl, hb4⟩; have HB4 : Hid (Below w.heap.size w w4) := Lib.hid (HB3.out.trans (hb4.mono HB3.out.size)); clear hb4))
    have hge := grownCap_ge w4 s.size 0 5
    generalize grownCap w4 s.size 0 5 = gc at *
    have hbs := (bytesRow_bsl s w4 gc hge ((bytesRow s gc).size, (bytesRow s gc).size + 1)).below (Below.refl _ _).drew
    have hb7 : Below w4.heap.size w4 (w4.alloc (.cells (bytesRow s gc) 5 ((bytesRow s gc).size, (bytesRow s gc).size + 1))).drew := ((Below.refl _ _).alloc (Nat.le_refl _) _).drew
    have HB7 : Hid (Below w.heap.size w (w4.alloc (.cells (bytesRow s gc) 5 ((bytesRow s gc).size, (bytesRow s gc).size + 1))).drew) := Lib.hid (HB4.out.trans (hb7.mono HB4.out.size))
    generalize (w4.alloc (.cells (bytesRow s gc) 5 ((bytesRow s gc).size, (bytesRow s gc).size + 1))).drew = w7 at *
    clear hge hb7
    go_at_call 7
    with_reducible refine Calls.mono (h2s _ _ _ HB7.out hbs) ?_
    rintro e w8 ⟨a8, n8, c8, x8, y8, rfl, hb8⟩
    have HB8 : Hid (Below w.heap.size w w8) := Lib.hid (HB7.out.trans (hb8.mono HB7.out.size))
    clear hb8 hbs h2s hN hT hcv
    go_wp2_with (go_at_call 10; with_reducible refine Calls.mono (awake_any _) ?_; rintro e w9 ⟨rfl, hb9⟩; have HB9 : Hid (Below w.heap.size w w9) := Lib.hid (HB8.out.trans (hb9.mono HB8.out.size)); clear hb9)
    go_ret
    exact ⟨rfl, HB9.out⟩
end Go.Proofs.YtlddbelpbgmljaaDoor
namespace Go.Proofs.YtlddbelpbgmljaaDoor
open Go.RowKit
set_option linter.unusedSimpArgs false
set_option linter.unusedVariables false
set_option linter.unusedSectionVars false

/-! LitBack. -/
set_option maxRecDepth 100000 in
set_option maxHeartbeats 6400000 in
theorem back_walk (s d : ByteArray) (w : World) (hE : Env w) (h2 : 2 ≤ w.heap.size) (hs0 : s.size ≤ 9223372036854775807) (hd0 : d.size ≤ 9223372036854775807) :
    Calls Tryd.prog 3 #[.string s, .string d] w fun e w' => e = .returned (.bool true) ∧ Below w.heap.size w w' := by
  by_cases hl : 500 < s.size
  · have hd : decide (500 < (s.size : Int)) = true := by simp; omega
    go_enter Tryd.func3, Tryd.ntmps3
    go_wp2_with fail
    go_ret
    exact ⟨rfl, Below.refl _ _⟩
  have hd1 : decide (500 < (s.size : Int)) = false := by simp; omega
  by_cases hl2 : 300 < d.size
  · have hd : decide (300 < (d.size : Int)) = true := by simp; omega
    go_enter Tryd.func3, Tryd.ntmps3
    go_wp2_with fail
    go_ret
    exact ⟨rfl, Below.refl _ _⟩
  have hd2 : decide (300 < (d.size : Int)) = false := by simp; omega
  have hq := fun w => quote_any s w (by omega)
  have hsc := quote_scan s (by omega)
  have hqz := quoteF_len s
  have hT := fun w => Text_all (quoteF s) w (by omega)
  have hTV : textV (quoteF s) = s := by unfold textV; rw [if_neg (by omega), quote_back s]; exact bytesOf_bytesL s
  have hTE : textE (quoteF s) = 0 := by unfold textE; rw [if_neg (by omega), quote_back s]
  rw [hTV, hTE] at hT
  generalize quoteF s = q at *
  have hP := fun w => plain_any d w (by omega)
  have hN : plainF d = true → ∀ w, Calls Tryd.prog 9 #[.string d] w fun e w' => e = .returned (.tuple #[.string d, .int .i64 0]) ∧ Below w.heap.size w w' := by
    intro hp w
    obtain ⟨h200, hnum⟩ := plain_self hp
    have hn := Number_any d w (by omega)
    rw [show numV d = d from by rw [numV, if_neg (by omega), hnum]; rfl, show numE d = 0 from by rw [numE, if_neg (by omega), hnum]; rfl] at hn
    exact hn
  have hcv := fun w => run_bytes_of_string (P := Tryd.prog) w 9 29 5 q Tryd.underlying9 Tryd.underlying29 Tryd.underlying5
  have h2s := fun (p : Option Addr) (cap : Nat) (w1 : World) (hb1 : Below w.heap.size w w1) (hb : BSl w1 p q) => scan_two (p := p) (cap := cap) w1 hb (hE.below hb1 h2) (by have := hb1.size; omega) (by omega) hsc
  have hss : (s.toList == s.toList) = true := by simp
  have hqq : (q.toList == q.toList) = true := by simp
  have hdd : (d.toList == d.toList) = true := by simp
  clear hsc hTV hTE hE
  go_enter Tryd.func3, Tryd.ntmps3
  go_wp2_with (first
    | (go_at_call 5; with_reducible refine Calls.mono (hq _) ?_; rintro e w3 ⟨rfl, hb3⟩; have HB3 := Lib.hid hb3; clear hb3)
    | (go_at_call 6; with_reducible refine Calls.mono (hT _) ?_; rintro e w4 ⟨rfl, hb4⟩; have HB4 : Hid (Below w.heap.size w w4) := Lib.hid (HB3.out.trans (hb4.mono HB3.out.size)); clear hb4))
  have hge := grownCap_ge w4 q.size 0 5
  generalize grownCap w4 q.size 0 5 = gc at *
  have hbs := (bytesRow_bsl q w4 gc hge ((bytesRow q gc).size, (bytesRow q gc).size + 1)).below (Below.refl _ _).drew
  have hb7 : Below w4.heap.size w4 (w4.alloc (.cells (bytesRow q gc) 5 ((bytesRow q gc).size, (bytesRow q gc).size + 1))).drew := ((Below.refl _ _).alloc (Nat.le_refl _) _).drew
  have HB7 : Hid (Below w.heap.size w (w4.alloc (.cells (bytesRow q gc) 5 ((bytesRow q gc).size, (bytesRow q gc).size + 1))).drew) := Lib.hid (HB4.out.trans (hb7.mono HB4.out.size))
  generalize (w4.alloc (.cells (bytesRow q gc) 5 ((bytesRow q gc).size, (bytesRow q gc).size + 1))).drew = w7 at *
  clear hge hb7
  go_at_call 7
  with_reducible refine Calls.mono (h2s _ _ _ HB7.out hbs) ?_
  rintro e w8 ⟨g, c, rfl, hb8, hc0, hc1⟩
  have HB8 : Hid (Below w.heap.size w w8) := Lib.hid (HB7.out.trans (hb8.mono HB7.out.size))
  clear hb8 hbs h2s hT hcv hq
  cases hpl : plainF d with
  | true =>
    have hN' := hN hpl
    rw [hpl] at hP
    clear hN
    go_wp2_with (first
      | (go_at_call 8; with_reducible refine Calls.mono (hP _) ?_; rintro e w9 ⟨rfl, hb9⟩; have HB9 : Hid (Below w.heap.size w w9) := Lib.hid (HB8.out.trans (hb9.mono HB8.out.size)); clear hb9)
      | (go_at_call 9; with_reducible refine Calls.mono (hN' _) ?_; rintro e w10 ⟨rfl, hb10⟩; have HB10 : Hid (Below w.heap.size w w10) := Lib.hid (HB9.out.trans (hb10.mono HB9.out.size)); clear hb10)
      | (go_at_call 10; with_reducible refine Calls.mono (awake_any _) ?_; rintro e w11 ⟨rfl, hb11⟩; have HB11 : Hid (Below w.heap.size w w11) := Lib.hid (HB10.out.trans (hb11.mono HB10.out.size)); clear hb11))
    go_ret
    exact ⟨rfl, HB11.out⟩
  | false =>
    rw [hpl] at hP
    clear hN
    go_wp2_with (first
      | (go_at_call 8; with_reducible refine Calls.mono (hP _) ?_; rintro e w9 ⟨rfl, hb9⟩; have HB9 : Hid (Below w.heap.size w w9) := Lib.hid (HB8.out.trans (hb9.mono HB8.out.size)); clear hb9)
      | (go_at_call 10; with_reducible refine Calls.mono (awake_any _) ?_; rintro e w11 ⟨rfl, hb11⟩; have HB11 : Hid (Below w.heap.size w w11) := Lib.hid (HB9.out.trans (hb11.mono HB9.out.size)); clear hb11))
    go_ret
    exact ⟨rfl, HB11.out⟩
end Go.Proofs.YtlddbelpbgmljaaDoor
