import Derived.Test.YtppnjliamfnlkaaLtO
import Derived.Scope
import Derived.Test.YtppnjliamfnlkaaReg
namespace Go.Proofs.Ytppnjliamfnlkaa
open Go.RowKit
set_option linter.unusedSimpArgs false
set_option linter.unusedVariables false
set_option linter.unusedSectionVars false

/-! strings.ContainsAny of a quote and a line's end, at every string. -/
theorem ib2_all : ∀ r : Fin 128, Lib.indexByte [34, 10] ((r.val : Int).toNat.toUInt8) = (if r.val = 34 then 0 else if r.val = 10 then 1 else -1) := by decide +kernel
theorem irune_low (r : Nat) (h : r < 128) (w : World) :
    Calls Try.prog 60 #[.string ⟨#[34, 10]⟩, .int .i32 r] w fun e w' => e = .returned (.int .i64 (if r = 34 then 0 else if r = 10 then 1 else -1)) ∧ w' = w := by
  have := Try.strings_IndexRune_ascii ⟨#[34, 10]⟩ (r : Int) w (by omega) (by omega)
  have h2 : Lib.indexByte [34, 10] ((r : Int).toNat.toUInt8) = (if r = 34 then 0 else if r = 10 then 1 else -1) := ib2_all ⟨r, h⟩
  rw [show (⟨#[34, 10]⟩ : ByteArray).data.toList = [34, 10] from rfl, h2] at this
  exact this
set_option maxRecDepth 100000 in
set_option maxHeartbeats 6400000 in
theorem irune_bad (w : World) :
    Calls Try.prog 60 #[.string ⟨#[34, 10]⟩, .int .i32 65533] w fun e w' => e = .returned (.int .i64 (-1)) ∧ Below w.heap.size w w' := by
  have hd0 : Utf8.decode ⟨#[34, 10]⟩ 0 = (34, 1) := by decide +kernel
  have hd1 : Utf8.decode ⟨#[34, 10]⟩ 1 = (10, 1) := by decide +kernel
  have hz : (⟨#[34, 10]⟩ : ByteArray).size = 2 := rfl
  obtain ⟨q, hq⟩ : ∃ q : ByteArray, q = ⟨#[34, 10]⟩ := ⟨_, rfl⟩
  rw [← hq] at hd0 hd1 hz ⊢
  clear hq
  go_enter Try.func60, Try.ntmps60
  go_wp2_with fail
  go_loopw [5] (fun _ wr => ∃ pos : Nat, pos ≤ 2 ∧ Below w.heap.size w wr ∧ wr.heap[w.heap.size]? = some (.stringIter q pos)) (fun _ wr => 2 - wr.iterPos w.heap.size)
  case atStart => exact ⟨0, by omega, (Below.refl _ _).alloc (Nat.le_refl _) _, iter_at rfl _ _⟩
  case round =>
    obtain ⟨pos, hp, hb, hi⟩ := hrel
    have HB := Lib.hid hb
    have HI := Lib.hid hi
    clear hb
    by_cases hlt : pos < q.size
    · have hn := Lib.run_next_any_at (P := Try.prog) wr w.heap.size q pos 0 hi hlt
      have hdd : Utf8.decode q pos = (34, 1) ∨ Utf8.decode q pos = (10, 1) := by
        have : pos = 0 ∨ pos = 1 := by omega
        rcases this with rfl | rfl
        · exact .inl hd0
        · exact .inr hd1
      have hw2 : pos + (Utf8.decode q pos).2 = pos + 1 := by rcases hdd with h | h <;> rw [h]
      generalize hw1 : wr.iterAt w.heap.size q (pos + (Utf8.decode q pos).2) = w1 at hn
      have HB1 : Hid (Below w.heap.size w w1) := by rw [← hw1]; exact Lib.below_iterAt HB.out (Nat.le_refl _) _ _
      have HI1 : Hid (w1.heap[w.heap.size]? = some (.stringIter q (pos + 1))) := by rw [← hw1, hw2]; exact Lib.iterAt_heap _ _ _ _ _ hi
      clear hw1 hi hw2 hd0 hd1
      rcases hdd with h | h
      all_goals
        rw [h] at hn
        clear h
        go_wp2_with fail
        go_roundw
        case rel => exact ⟨pos + 1, by omega, HB1.out, HI1.out⟩
        case measure => rw [iterPos_of HI.out, iterPos_of HI1.out]; omega
    · have hn := Lib.run_next_end_at (P := Try.prog) wr w.heap.size q pos 0 hi hlt
      clear hi
      go_wp2_with fail
      go_ret
      exact ⟨rfl, HB.out⟩
theorem enc_facts (r : Nat) (h : 128 ≤ r) : 2 ≤ (Utf8.encode (r : Int)).size ∧ (Utf8.encode (r : Int)).size ≤ 4 ∧ 128 ≤ byteN (Utf8.encode (r : Int)) ((Utf8.encode (r : Int)).size - 1) := by
  have hc : 128 ≤ (if Utf8.valid (r : Int) then (r : Int).toNat else Utf8.runeError) := by
    split
    · simpa using h
    · decide
  have hc2 : (if Utf8.valid (r : Int) then (r : Int).toNat else Utf8.runeError) ≤ 1114111 := by
    split
    · rename_i hv
      simp only [Utf8.valid, Bool.and_eq_true, Bool.or_eq_true, decide_eq_true_eq] at hv
      omega
    · decide
  unfold Utf8.encode
  simp only
  generalize (if Utf8.valid (r : Int) then (r : Int).toNat else Utf8.runeError) = c at *
  rw [if_neg (by omega)]
  have hb : ∀ n, n < 64 → 128 ≤ (UInt8.ofNat (128 + n)).toNat := by
    intro n hn
    rw [UInt8.toNat_ofNat']
    omega
  split
  · refine ⟨by show 2 ≤ 2; omega, by show 2 ≤ 4; omega, ?_⟩
    exact hb _ (by omega)
  · split
    · refine ⟨by show 2 ≤ 3; omega, by show 3 ≤ 4; omega, ?_⟩
      exact hb _ (by omega)
    · refine ⟨by show 2 ≤ 4; omega, by show 4 ≤ 4; omega, ?_⟩
      exact hb _ (by omega)

set_option maxRecDepth 100000 in
set_option maxHeartbeats 12800000 in
theorem irune_high (r : Nat) (h : 128 ≤ r) (h2 : r ≤ 1114111) (h3 : r < 55296 ∨ 57343 < r) (hb : r ≠ 65533) (w : World) :
    Calls Try.prog 60 #[.string ⟨#[34, 10]⟩, .int .i32 r] w fun e w' => e = .returned (.int .i64 (-1)) ∧ Below w.heap.size w w' := by
  have hvr := fun w => Try.utf8_ValidRune (r : Int) w
  rw [show Lib.validRune (r : Int) = true from by unfold Lib.validRune; simp; omega] at hvr
  have hk1 : decide ((r : Int) < 128) = false := by simp; omega
  have hk2 : ((r : Int) == 65533) = false := by simp; omega
  obtain ⟨s1, s2, s3⟩ := enc_facts r h
  obtain ⟨e, he⟩ : ∃ e, Utf8.encode (r : Int) = e := ⟨_, rfl⟩
  rw [he] at s1 s2 s3
  obtain ⟨m, hm⟩ : ∃ m, e.size - 1 = m := ⟨_, rfl⟩
  have hmI : (e.size : Int) - 1 = (m : Int) := by omega
  rw [hm] at s3
  have hml : m < e.size := by omega
  have hmlI : (m : Int) < e.size := by omega
  have hx := str_byte e m hml
  have hz : (⟨#[34, 10]⟩ : ByteArray).size = 2 := rfl
  have hq1 : ∀ h' : 1 < (⟨#[34, 10]⟩ : ByteArray).size, ((⟨#[34, 10]⟩ : ByteArray)[1]'h').toNat = 10 := fun _ => rfl
  have hie : ∀ c : UInt8, Lib.indexByte ByteArray.empty.data.toList c = -1 := fun c => rfl
  have hix := fun (x : Int) w => Try.strings_IndexByte ByteArray.empty x w
  simp only [hie] at hix
  obtain ⟨q, hq⟩ : ∃ q : ByteArray, q = ⟨#[34, 10]⟩ := ⟨_, rfl⟩
  rw [← hq] at hz hq1 ⊢
  clear hq hie
  generalize byteN e m = x at *
  have hxn : ((10 : Int) != (x : Int)) = true := by simp; omega
  have hxn2 : ((10 : Int) == (x : Int)) = false := by simp; omega
  go_enter Try.func60, Try.ntmps60
  go_wp2_with (go_at_call 65; with_reducible refine Calls.mono (hvr _) ?_; rintro e w3 ⟨rfl, hw3⟩; replace hw3 := hw3.symm; subst hw3)
  refine wp_scope_straight ?_
  go_wp2_with fail
  go_loopw [9] (fun iv wr => iv = .int .i64 m ∧ wr = w) (fun _ _ => 0)
  case atStart => exact ⟨rfl, rfl⟩
  case round =>
    obtain ⟨rfl, rfl⟩ := hrel
    by_cases h1 : m = 1
    · subst h1
      have hd1 : q[1].toNat = 10 := hq1 (by omega)
      rw [show (((1 : Nat) : Int)) = 1 from rfl]
      go_wp2_with fail
      refine wp_scope_straight ?_
      go_wp2_with fail
      have hI0 : InvC wr [] wr.drew := InvC.start (Below.refl _ _) (by simp)
      have hne5 : Nonempty (Wld (InvC wr [])) := ⟨⟨_, hI0⟩⟩
      refine wp_region_inv (InvC wr []) (by kernel_rfl) (by kernel_rfl) hI0 ?_
      clear hI0
      repeat (go_big_quiet_step (fail))
      refine wpQuiet_nil ?_
      intro w6 hw6
      have HB6 : Hid (Below wr.heap.size wr w6) := by obtain ⟨i, rfl⟩ := hw6; exact Lib.hid i.ok.1
      clear hw6 hne5
      go_wp2_with fail
      have hI1 : InvC w6 [] w6.drew := InvC.start (Below.refl _ _) (by simp)
      have hne6 : Nonempty (Wld (InvC w6 [])) := ⟨⟨_, hI1⟩⟩
      refine wp_region_inv (InvC w6 []) (by kernel_rfl) (by kernel_rfl) hI1 ?_
      clear hI1
      repeat (go_big_quiet_step ((go_at_call 69; with_reducible exact Calls.inv_same (hix _ _))))
      refine wpQuiet_nil ?_
      intro w7 hw7
      have HB7 : Hid (Below w6.heap.size w6 w7) := by obtain ⟨i, rfl⟩ := hw7; exact Lib.hid i.ok.1
      clear hw7 hne6
      go_wp2_with fail
      simp only [Exit.noGoto, Exit.inBlock]
      show bodyPost Try.prog Try.f60 (fun e w' => e = .returned (.int .i64 (-1)) ∧ Below wr.heap.size wr w') Exit.ret _ _
      go_ret
      exact ⟨rfl, HB6.out.trans (HB7.out.mono HB6.out.size)⟩
    · have hm2 : 2 ≤ m := by omega
      have hmd : decide ((m : Int) < 2) = false := by simp; omega
      clear hx hxn hxn2 hq1 hix hvr hk1 hk2 s1 s2 s3 hml hmlI hmI hm he
      go_wp2_with fail
      (try simp only [Exit.noGoto, Exit.inBlock])
      go_ret
      exact ⟨rfl, Below.refl _ _⟩
end Go.Proofs.Ytppnjliamfnlkaa
