import Derived.Test.YtppnjliamfnlkaaLtQ
namespace Go.Proofs.Ytppnjliamfnlkaa
open Go.RowKit
set_option linter.unusedSimpArgs false
set_option linter.unusedVariables false
set_option linter.unusedSectionVars false

/-! LitQuotes. -/
theorem quote_data (s : ByteArray) : (quoteF s).data.toList = (34 :: (s.data.toList.flatMap fun c => (quoteB c.toNat).map UInt8.ofNat)) ++ [34] := by
  have h : s.data.toList.take s.size = s.data.toList := List.take_of_length_le (by simp)
  simp only [quoteF, bytesOf, quoteL, h, List.map_append, List.map_cons, List.map_nil, List.map_flatMap]
  rfl
theorem quote_size (s : ByteArray) : 2 ≤ (quoteF s).size := by
  have := congrArg List.length (quote_data s)
  simp only [List.length_append, List.length_cons, List.length_nil, Array.length_toList, ByteArray.size_data] at this
  omega
theorem quote_join (a b : ByteArray) : quoteF (a ++ b) = (quoteF a).extract 0 ((quoteF a).size - 1) ++ (quoteF b).extract 1 (quoteF b).size := by
  apply ByteArray.ext
  apply Array.ext'
  have ea := quote_data a
  have eb := quote_data b
  have na := congrArg List.length ea
  have nb := congrArg List.length eb
  simp only [List.length_append, List.length_cons, List.length_nil, Array.length_toList, ByteArray.size_data] at na nb
  rw [quote_data, ByteArray.data_append, Array.toList_append, ByteArray.data_append, Array.toList_append, Lib.extract_data, Lib.extract_data, ea, eb, List.flatMap_append]
  generalize (a.data.toList.flatMap fun c => (quoteB c.toNat).map UInt8.ofNat) = A at *
  generalize (b.data.toList.flatMap fun c => (quoteB c.toNat).map UInt8.ofNat) = B at *
  rw [na, nb, List.drop_zero, List.cons_append, List.cons_append, List.cons_append, List.drop_one, List.tail_cons]
  rw [show A.length + 1 + (0 + 1) - 1 - 0 = A.length + 1 by omega, show B.length + 1 + (0 + 1) - 1 = B.length + 1 by omega, List.take_succ_cons, List.take_left, List.take_of_length_le (by simp)]
  simp
theorem quoteF_len (s : ByteArray) : (quoteF s).size ≤ 4 * s.size + 2 := by
  have := quoteL_len s s.size
  rw [quoteF, bytesOf_size, List.length_append]
  simp; omega

set_option maxHeartbeats 3200000 in
theorem quotes_walk (a b : ByteArray) (w : World) (ha : a.size ≤ 9223372036854775807) (hb : b.size ≤ 9223372036854775807) :
    Calls Try.prog 5 #[.string a, .string b] w fun e w' => e = .returned (.bool true) ∧ Below w.heap.size w w' := by
  by_cases h1 : 300 < a.size
  · have hd : decide (300 < (a.size : Int)) = true := by simp; omega
    go_enter Try.func5, Try.ntmps5
    go_wp2_with fail
    go_ret
    exact ⟨rfl, Below.refl _ _⟩
  have hd1 : decide (300 < (a.size : Int)) = false := by simp; omega
  by_cases h2 : 300 < b.size
  · have hd : decide (300 < (b.size : Int)) = true := by simp; omega
    go_enter Try.func5, Try.ntmps5
    go_wp2_with fail
    go_ret
    exact ⟨rfl, Below.refl _ _⟩
  have hd2 : decide (300 < (b.size : Int)) = false := by simp; omega
  have qa := fun w => quote_any a w (by omega)
  have qb := fun w => quote_any b w (by omega)
  have qc := fun w => quote_any (a ++ b) w (by rw [ByteArray.size_append]; omega)
  have sa := quote_size a
  have sb := quote_size b
  have la := quoteF_len a
  have lb := quoteF_len b
  rw [quote_join] at qc
  generalize quoteF a = x at *
  generalize quoteF b = y at *
  go_enter Try.func5, Try.ntmps5
  go_wp2_with (first
    | (go_at_call 15; with_reducible refine Calls.mono (qc _) ?_; rintro e w4 ⟨rfl, hb4⟩; have HB4 := Lib.hid hb4; clear hb4)
    | (go_at_call 15; with_reducible refine Calls.mono (qa _) ?_; rintro e w2 ⟨rfl, hb2⟩; have HB2 := Lib.hid hb2; clear hb2)
    | (go_at_call 15; with_reducible refine Calls.mono (qb _) ?_; rintro e w3 ⟨rfl, hb3⟩; have HB3 := Lib.hid hb3; clear hb3))
  obtain ⟨k, hk⟩ : ∃ k, x.size - 1 = k := ⟨_, rfl⟩
  have hk1 : (x.size : Int) - 1 = (k : Int) := by omega
  have hk2 : k ≤ x.size := by omega
  have hk3 : (k : Int) ≤ x.size := by omega
  have hk4 : IntKind.i64.wrap (k : Int) = k := IntWalk.i64_in _ (by omega)
  have hx2 : decide ((2 : Int) ≤ (x.size : Int)) = true := by simp; omega
  have hy2 : decide ((2 : Int) ≤ (y.size : Int)) = true := by simp; omega
  have hy3 : 1 ≤ y.size := by omega
  have hy4 : (1 : Int) ≤ y.size := by omega
  rw [hk]
  have hxx : ((x.extract 0 k ++ y.extract 1 y.size).toList == (x.extract 0 k ++ y.extract 1 y.size).toList) = true := by simp
  clear hk qa qb qc
  have hI0 : InvC w4 [] w4.drew := InvC.start (Below.refl _ _) (by simp)
  have hne5 : Nonempty (Wld (InvC w4 [])) := ⟨⟨_, hI0⟩⟩
  refine wp_region_inv (InvC w4 []) (by kernel_rfl) (by kernel_rfl) hI0 ?_
  clear hI0
  repeat (go_big_quiet_step ((go_at_call 12; exact Calls.inv (awake_any _))))
  refine wpQuiet_nil ?_
  intro w6 hw6
  have HB6 : Hid (Below w4.heap.size w4 w6) := by obtain ⟨i, rfl⟩ := hw6; exact Lib.hid i.ok.1
  clear hw6 hne5
  go_wp2_with fail
  go_ret
  exact ⟨rfl, ((HB2.out.trans (HB3.out.mono HB2.out.size)).trans (HB4.out.mono (Nat.le_trans HB2.out.size HB3.out.size))).trans (HB6.out.mono (Nat.le_trans (Nat.le_trans HB2.out.size HB3.out.size) HB4.out.size))⟩
end Go.Proofs.Ytppnjliamfnlkaa
