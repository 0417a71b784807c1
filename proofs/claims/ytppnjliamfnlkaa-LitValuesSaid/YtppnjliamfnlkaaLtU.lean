import Derived.Test.YtppnjliamfnlkaaLtT
import Derived.Test.YtppnjliamfnlkaaLtQ
namespace Go.Proofs.Ytppnjliamfnlkaa
open Go.RowKit
set_option linter.unusedSimpArgs false
set_option linter.unusedVariables false
set_option linter.unusedSectionVars false

/-! LitValues. -/
theorem digF_len {t : ByteArray} {b : Nat} : ∀ (f pos last : Nat) (l r : List Nat), digF t b f pos last l = some r → r.length ≤ l.length + 3 * f
  | 0, _, _, _, _, h => by simp [digF] at h
  | f + 1, pos, last, l, r, h => by
    unfold digF at h
    repeat' split at h
    · simp at h
    · have := digF_len f _ _ _ _ h; omega
    · have h1 := digF_len f _ _ _ _ h
      have h2 := timesF_len b l (digitW (Utf8.decode t pos).1)
      omega
    · simp at h
    · simp at h
    · simp only [Option.some.injEq] at h; subst h; omega
theorem numV_len (s : ByteArray) : (numV s).size ≤ 1000 := by
  unfold numV
  split
  · show 0 ≤ 1000; omega
  · rename_i hs
    cases hr : numR s with
    | none => show 0 ≤ 1000; omega
    | some r =>
      simp only [Option.getD_some]
      unfold numR at hr
      split at hr
      · simp at hr
      · rename_i b n hsp
        simp only [Option.map_eq_some_iff] at hr
        obtain ⟨l, hl, rfl⟩ := hr
        have := digF_len _ _ _ _ _ hl
        simp only [ByteArray.size_extract, List.length_nil] at this
        by_cases h0 : l = []
        · subst h0; show 1 ≤ 1000; omega
        · rw [decF_size l h0]; omega
theorem numV_bad {s : ByteArray} (h : numE s ≠ 0) : numV s = ⟨#[]⟩ := by
  unfold numE at h
  unfold numV
  split
  · rfl
  · rename_i hs
    rw [if_neg hs] at h
    split at h
    · rename_i hn; rw [hn]; rfl
    · exact absurd rfl h

set_option maxHeartbeats 6400000 in
theorem values_walk (s : ByteArray) (w : World) (hs : s.size ≤ 9223372036854775807) :
    Calls Try.prog 6 #[.string s] w fun e w' => e = .returned (.bool true) ∧ Below w.heap.size w w' := by
  by_cases h1 : 199 < s.size
  · have hd : decide (199 < (s.size : Int)) = true := by simp; omega
    go_enter Try.func6, Try.ntmps6
    go_wp2_with fail
    go_ret
    exact ⟨rfl, Below.refl _ _⟩
  have hd1 : decide (199 < (s.size : Int)) = false := by simp; omega
  have hN := fun w => Number_any s w (by omega)
  by_cases he : numE s = 0
  · have hpl := numV_plain he
    have hvl := numV_len s
    have hN2 := fun w => Number_any (nought s) w (by unfold nought; simp only [ByteArray.size_append, ByteArray.size_extract]; show _ + 1 + _ ≤ _; omega)
    have hnt := fun a b c => nought_all (s := s) a (by omega) b c he
    have hP := fun w => plain_any (numV s) w (by omega)
    rw [he] at hN
    generalize numV s = v at *
    have hvv : (v.toList == v.toList) = true := by simp
    have HNT := Lib.hid hnt
    have HN2 := Lib.hid hN2
    clear hnt hN2 he
    have tail : ∀ (pv : Bool), plainF v = pv → (pv = true ∨ 200 < v.size) → Calls Try.prog 6 #[.string s] w fun e w' => e = .returned (.bool true) ∧ Below w.heap.size w w' := by
      intro pv hpv hor
      rw [hpv] at hP
      clear hpl hpv
      have hlv : pv = false → decide ((v.size : Int) ≤ 200) = false := by
        intro h; subst h; simp at hor; simp; omega
      by_cases h2 : 2 < s.size
      · have hx0 := str_byte s 0 (by omega)
        have hx1 := str_byte s 1 (by omega)
        have hl2 : (2 : Int) < s.size := by omega
        have hl0 : (0 : Int) < s.size := by omega
        have hl1 : (1 : Int) < s.size := by omega
        have hln : 2 ≤ s.size := by omega
        have hln2 : (2 : Int) ≤ s.size := by omega
        have HT : Hid (byteN s 0 = 48 → (byteN s 1 = 120 ∨ byteN s 1 = 98 ∨ byteN s 1 = 111) → numE (nought s) = 0 ∧ numV (nought s) = v) := Lib.hid (fun a b => HNT.out h2 a b)
        generalize byteN s 0 = c0 at *
        generalize byteN s 1 = c1 at *
        by_cases k0 : c0 = 48
        · subst k0
          by_cases m0 : c1 = 120
          · subst m0
            have hM := HN2.out
            obtain ⟨t1, t2⟩ := HT.out rfl (by decide)
            rw [t1, t2] at hM
            unfold nought at hM
            clear t1 t2
            cases pv with
            | true =>
              clear hlv hor
              go_enter Try.func6, Try.ntmps6
              go_wp2_with (first
                        | (go_at_call 8; with_reducible refine Calls.mono (hN _) ?_; rintro e w2 ⟨rfl, hb2⟩; have HB2 := Lib.hid hb2; clear hb2)
                        | (go_at_call 10; with_reducible refine Calls.mono (hP _) ?_; rintro e w3 ⟨rfl, hb3⟩; have HB3 := Lib.hid hb3; clear hb3))
              have hI0 : InvC w3 [] w3.drew := InvC.start (Below.refl _ _) (by simp)
              have hne5 : Nonempty (Wld (InvC w3 [])) := ⟨⟨_, hI0⟩⟩
              refine wp_region_inv (InvC w3 []) (by kernel_rfl) (by kernel_rfl) hI0 ?_
              clear hI0
              repeat (go_big_quiet_step ((go_at_call 8; exact Calls.inv (hM _))))
              refine wpQuiet_nil ?_
              intro w6 hw6
              have HB6 : Hid (Below w3.heap.size w3 w6) := by obtain ⟨i, rfl⟩ := hw6; exact Lib.hid i.ok.1
              clear hw6 hne5 hM
              go_wp2_with (first
                        | (go_at_call 12; with_reducible refine Calls.mono (awake_any _) ?_; rintro e w4 ⟨rfl, hb4⟩; have HB4 := Lib.hid hb4; clear hb4))
              go_ret
              exact ⟨rfl, ((HB2.out.trans (HB3.out.mono HB2.out.size)).trans (HB6.out.mono (Nat.le_trans HB2.out.size HB3.out.size))).trans (HB4.out.mono (Nat.le_trans (Nat.le_trans HB2.out.size HB3.out.size) HB6.out.size))⟩
            | false =>
              have hlv2 := hlv rfl
              clear hlv hor
              go_enter Try.func6, Try.ntmps6
              go_wp2_with (first
                        | (go_at_call 8; with_reducible refine Calls.mono (hN _) ?_; rintro e w2 ⟨rfl, hb2⟩; have HB2 := Lib.hid hb2; clear hb2)
                        | (go_at_call 10; with_reducible refine Calls.mono (hP _) ?_; rintro e w3 ⟨rfl, hb3⟩; have HB3 := Lib.hid hb3; clear hb3))
              have hI0 : InvC w3 [] w3.drew := InvC.start (Below.refl _ _) (by simp)
              have hne5 : Nonempty (Wld (InvC w3 [])) := ⟨⟨_, hI0⟩⟩
              refine wp_region_inv (InvC w3 []) (by kernel_rfl) (by kernel_rfl) hI0 ?_
              clear hI0
              repeat (go_big_quiet_step ((go_at_call 8; exact Calls.inv (hM _))))
              refine wpQuiet_nil ?_
              intro w6 hw6
              have HB6 : Hid (Below w3.heap.size w3 w6) := by obtain ⟨i, rfl⟩ := hw6; exact Lib.hid i.ok.1
              clear hw6 hne5 hM
              go_wp2_with (first
                        | (go_at_call 12; with_reducible refine Calls.mono (awake_any _) ?_; rintro e w4 ⟨rfl, hb4⟩; have HB4 := Lib.hid hb4; clear hb4))
              go_ret
              exact ⟨rfl, ((HB2.out.trans (HB3.out.mono HB2.out.size)).trans (HB6.out.mono (Nat.le_trans HB2.out.size HB3.out.size))).trans (HB4.out.mono (Nat.le_trans (Nat.le_trans HB2.out.size HB3.out.size) HB6.out.size))⟩
          have n0 : ((c1 : Int) == 120) = false := by simp; omega
          by_cases m1 : c1 = 98
          · subst m1
            have hM := HN2.out
            obtain ⟨t1, t2⟩ := HT.out rfl (by decide)
            rw [t1, t2] at hM
            unfold nought at hM
            clear t1 t2
            cases pv with
            | true =>
              clear hlv hor
              go_enter Try.func6, Try.ntmps6
              go_wp2_with (first
                        | (go_at_call 8; with_reducible refine Calls.mono (hN _) ?_; rintro e w2 ⟨rfl, hb2⟩; have HB2 := Lib.hid hb2; clear hb2)
                        | (go_at_call 10; with_reducible refine Calls.mono (hP _) ?_; rintro e w3 ⟨rfl, hb3⟩; have HB3 := Lib.hid hb3; clear hb3))
              have hI0 : InvC w3 [] w3.drew := InvC.start (Below.refl _ _) (by simp)
              have hne5 : Nonempty (Wld (InvC w3 [])) := ⟨⟨_, hI0⟩⟩
              refine wp_region_inv (InvC w3 []) (by kernel_rfl) (by kernel_rfl) hI0 ?_
              clear hI0
              repeat (go_big_quiet_step ((go_at_call 8; exact Calls.inv (hM _))))
              refine wpQuiet_nil ?_
              intro w6 hw6
              have HB6 : Hid (Below w3.heap.size w3 w6) := by obtain ⟨i, rfl⟩ := hw6; exact Lib.hid i.ok.1
              clear hw6 hne5 hM
              go_wp2_with (first
                        | (go_at_call 12; with_reducible refine Calls.mono (awake_any _) ?_; rintro e w4 ⟨rfl, hb4⟩; have HB4 := Lib.hid hb4; clear hb4))
              go_ret
              exact ⟨rfl, ((HB2.out.trans (HB3.out.mono HB2.out.size)).trans (HB6.out.mono (Nat.le_trans HB2.out.size HB3.out.size))).trans (HB4.out.mono (Nat.le_trans (Nat.le_trans HB2.out.size HB3.out.size) HB6.out.size))⟩
            | false =>
              have hlv2 := hlv rfl
              clear hlv hor
              go_enter Try.func6, Try.ntmps6
              go_wp2_with (first
                        | (go_at_call 8; with_reducible refine Calls.mono (hN _) ?_; rintro e w2 ⟨rfl, hb2⟩; have HB2 := Lib.hid hb2; clear hb2)
                        | (go_at_call 10; with_reducible refine Calls.mono (hP _) ?_; rintro e w3 ⟨rfl, hb3⟩; have HB3 := Lib.hid hb3; clear hb3))
              have hI0 : InvC w3 [] w3.drew := InvC.start (Below.refl _ _) (by simp)
              have hne5 : Nonempty (Wld (InvC w3 [])) := ⟨⟨_, hI0⟩⟩
              refine wp_region_inv (InvC w3 []) (by kernel_rfl) (by kernel_rfl) hI0 ?_
              clear hI0
              repeat (go_big_quiet_step ((go_at_call 8; exact Calls.inv (hM _))))
              refine wpQuiet_nil ?_
              intro w6 hw6
              have HB6 : Hid (Below w3.heap.size w3 w6) := by obtain ⟨i, rfl⟩ := hw6; exact Lib.hid i.ok.1
              clear hw6 hne5 hM
              go_wp2_with (first
                        | (go_at_call 12; with_reducible refine Calls.mono (awake_any _) ?_; rintro e w4 ⟨rfl, hb4⟩; have HB4 := Lib.hid hb4; clear hb4))
              go_ret
              exact ⟨rfl, ((HB2.out.trans (HB3.out.mono HB2.out.size)).trans (HB6.out.mono (Nat.le_trans HB2.out.size HB3.out.size))).trans (HB4.out.mono (Nat.le_trans (Nat.le_trans HB2.out.size HB3.out.size) HB6.out.size))⟩
          have n1 : ((c1 : Int) == 98) = false := by simp; omega
          by_cases m2 : c1 = 111
          · subst m2
            have hM := HN2.out
            obtain ⟨t1, t2⟩ := HT.out rfl (by decide)
            rw [t1, t2] at hM
            unfold nought at hM
            clear t1 t2
            cases pv with
            | true =>
              clear hlv hor
              go_enter Try.func6, Try.ntmps6
              go_wp2_with (first
                        | (go_at_call 8; with_reducible refine Calls.mono (hN _) ?_; rintro e w2 ⟨rfl, hb2⟩; have HB2 := Lib.hid hb2; clear hb2)
                        | (go_at_call 10; with_reducible refine Calls.mono (hP _) ?_; rintro e w3 ⟨rfl, hb3⟩; have HB3 := Lib.hid hb3; clear hb3))
              have hI0 : InvC w3 [] w3.drew := InvC.start (Below.refl _ _) (by simp)
              have hne5 : Nonempty (Wld (InvC w3 [])) := ⟨⟨_, hI0⟩⟩
              refine wp_region_inv (InvC w3 []) (by kernel_rfl) (by kernel_rfl) hI0 ?_
              clear hI0
              repeat (go_big_quiet_step ((go_at_call 8; exact Calls.inv (hM _))))
              refine wpQuiet_nil ?_
              intro w6 hw6
              have HB6 : Hid (Below w3.heap.size w3 w6) := by obtain ⟨i, rfl⟩ := hw6; exact Lib.hid i.ok.1
              clear hw6 hne5 hM
              go_wp2_with (first
                        | (go_at_call 12; with_reducible refine Calls.mono (awake_any _) ?_; rintro e w4 ⟨rfl, hb4⟩; have HB4 := Lib.hid hb4; clear hb4))
              go_ret
              exact ⟨rfl, ((HB2.out.trans (HB3.out.mono HB2.out.size)).trans (HB6.out.mono (Nat.le_trans HB2.out.size HB3.out.size))).trans (HB4.out.mono (Nat.le_trans (Nat.le_trans HB2.out.size HB3.out.size) HB6.out.size))⟩
            | false =>
              have hlv2 := hlv rfl
              clear hlv hor
              go_enter Try.func6, Try.ntmps6
              go_wp2_with (first
                        | (go_at_call 8; with_reducible refine Calls.mono (hN _) ?_; rintro e w2 ⟨rfl, hb2⟩; have HB2 := Lib.hid hb2; clear hb2)
                        | (go_at_call 10; with_reducible refine Calls.mono (hP _) ?_; rintro e w3 ⟨rfl, hb3⟩; have HB3 := Lib.hid hb3; clear hb3))
              have hI0 : InvC w3 [] w3.drew := InvC.start (Below.refl _ _) (by simp)
              have hne5 : Nonempty (Wld (InvC w3 [])) := ⟨⟨_, hI0⟩⟩
              refine wp_region_inv (InvC w3 []) (by kernel_rfl) (by kernel_rfl) hI0 ?_
              clear hI0
              repeat (go_big_quiet_step ((go_at_call 8; exact Calls.inv (hM _))))
              refine wpQuiet_nil ?_
              intro w6 hw6
              have HB6 : Hid (Below w3.heap.size w3 w6) := by obtain ⟨i, rfl⟩ := hw6; exact Lib.hid i.ok.1
              clear hw6 hne5 hM
              go_wp2_with (first
                        | (go_at_call 12; with_reducible refine Calls.mono (awake_any _) ?_; rintro e w4 ⟨rfl, hb4⟩; have HB4 := Lib.hid hb4; clear hb4))
              go_ret
              exact ⟨rfl, ((HB2.out.trans (HB3.out.mono HB2.out.size)).trans (HB6.out.mono (Nat.le_trans HB2.out.size HB3.out.size))).trans (HB4.out.mono (Nat.le_trans (Nat.le_trans HB2.out.size HB3.out.size) HB6.out.size))⟩
          have n2 : ((c1 : Int) == 111) = false := by simp; omega
          · cases pv with
            | true =>
              clear hlv hor
              go_enter Try.func6, Try.ntmps6
              go_wp2_with (first
                        | (go_at_call 8; with_reducible refine Calls.mono (hN _) ?_; rintro e w2 ⟨rfl, hb2⟩; have HB2 := Lib.hid hb2; clear hb2)
                        | (go_at_call 10; with_reducible refine Calls.mono (hP _) ?_; rintro e w3 ⟨rfl, hb3⟩; have HB3 := Lib.hid hb3; clear hb3)
                        | (go_at_call 12; with_reducible refine Calls.mono (awake_any _) ?_; rintro e w4 ⟨rfl, hb4⟩; have HB4 := Lib.hid hb4; clear hb4))
              go_ret
              exact ⟨rfl, (HB2.out.trans (HB3.out.mono HB2.out.size)).trans (HB4.out.mono (Nat.le_trans HB2.out.size HB3.out.size))⟩
            | false =>
              have hlv2 := hlv rfl
              clear hlv hor
              go_enter Try.func6, Try.ntmps6
              go_wp2_with (first
                        | (go_at_call 8; with_reducible refine Calls.mono (hN _) ?_; rintro e w2 ⟨rfl, hb2⟩; have HB2 := Lib.hid hb2; clear hb2)
                        | (go_at_call 10; with_reducible refine Calls.mono (hP _) ?_; rintro e w3 ⟨rfl, hb3⟩; have HB3 := Lib.hid hb3; clear hb3)
                        | (go_at_call 12; with_reducible refine Calls.mono (awake_any _) ?_; rintro e w4 ⟨rfl, hb4⟩; have HB4 := Lib.hid hb4; clear hb4))
              go_ret
              exact ⟨rfl, (HB2.out.trans (HB3.out.mono HB2.out.size)).trans (HB4.out.mono (Nat.le_trans HB2.out.size HB3.out.size))⟩
        · have n : ((c0 : Int) == 48) = false := by simp; omega
          cases pv with
          | true =>
            clear hlv hor
            go_enter Try.func6, Try.ntmps6
            go_wp2_with (first
                        | (go_at_call 8; with_reducible refine Calls.mono (hN _) ?_; rintro e w2 ⟨rfl, hb2⟩; have HB2 := Lib.hid hb2; clear hb2)
                        | (go_at_call 10; with_reducible refine Calls.mono (hP _) ?_; rintro e w3 ⟨rfl, hb3⟩; have HB3 := Lib.hid hb3; clear hb3)
                        | (go_at_call 12; with_reducible refine Calls.mono (awake_any _) ?_; rintro e w4 ⟨rfl, hb4⟩; have HB4 := Lib.hid hb4; clear hb4))
            go_ret
            exact ⟨rfl, (HB2.out.trans (HB3.out.mono HB2.out.size)).trans (HB4.out.mono (Nat.le_trans HB2.out.size HB3.out.size))⟩
          | false =>
            have hlv2 := hlv rfl
            clear hlv hor
            go_enter Try.func6, Try.ntmps6
            go_wp2_with (first
                        | (go_at_call 8; with_reducible refine Calls.mono (hN _) ?_; rintro e w2 ⟨rfl, hb2⟩; have HB2 := Lib.hid hb2; clear hb2)
                        | (go_at_call 10; with_reducible refine Calls.mono (hP _) ?_; rintro e w3 ⟨rfl, hb3⟩; have HB3 := Lib.hid hb3; clear hb3)
                        | (go_at_call 12; with_reducible refine Calls.mono (awake_any _) ?_; rintro e w4 ⟨rfl, hb4⟩; have HB4 := Lib.hid hb4; clear hb4))
            go_ret
            exact ⟨rfl, (HB2.out.trans (HB3.out.mono HB2.out.size)).trans (HB4.out.mono (Nat.le_trans HB2.out.size HB3.out.size))⟩
      · have hd2 : decide ((2 : Int) < (s.size : Int)) = false := by simp; omega
        cases pv with
        | true =>
          clear hlv hor
          go_enter Try.func6, Try.ntmps6
          go_wp2_with (first
                        | (go_at_call 8; with_reducible refine Calls.mono (hN _) ?_; rintro e w2 ⟨rfl, hb2⟩; have HB2 := Lib.hid hb2; clear hb2)
                        | (go_at_call 10; with_reducible refine Calls.mono (hP _) ?_; rintro e w3 ⟨rfl, hb3⟩; have HB3 := Lib.hid hb3; clear hb3)
                        | (go_at_call 12; with_reducible refine Calls.mono (awake_any _) ?_; rintro e w4 ⟨rfl, hb4⟩; have HB4 := Lib.hid hb4; clear hb4))
          go_ret
          exact ⟨rfl, (HB2.out.trans (HB3.out.mono HB2.out.size)).trans (HB4.out.mono (Nat.le_trans HB2.out.size HB3.out.size))⟩
        | false =>
          have hlv2 := hlv rfl
          clear hlv hor
          go_enter Try.func6, Try.ntmps6
          go_wp2_with (first
                        | (go_at_call 8; with_reducible refine Calls.mono (hN _) ?_; rintro e w2 ⟨rfl, hb2⟩; have HB2 := Lib.hid hb2; clear hb2)
                        | (go_at_call 10; with_reducible refine Calls.mono (hP _) ?_; rintro e w3 ⟨rfl, hb3⟩; have HB3 := Lib.hid hb3; clear hb3)
                        | (go_at_call 12; with_reducible refine Calls.mono (awake_any _) ?_; rintro e w4 ⟨rfl, hb4⟩; have HB4 := Lib.hid hb4; clear hb4))
          go_ret
          exact ⟨rfl, (HB2.out.trans (HB3.out.mono HB2.out.size)).trans (HB4.out.mono (Nat.le_trans HB2.out.size HB3.out.size))⟩
    rcases hpl with h | h
    · exact tail true h (.inl rfl)
    · exact tail (plainF v) rfl (.inr h)
  · have hv := numV_bad he
    rw [hv] at hN
    have hne : (numE s != 0) = true := by simpa using he
    have hne2 : (numE s == 0) = false := by simpa using he
    generalize numE s = x at *
    clear hv
    go_enter Try.func6, Try.ntmps6
    go_wp2_with (first
                        | (go_at_call 8; with_reducible refine Calls.mono (hN _) ?_; rintro e w2 ⟨rfl, hb2⟩; have HB2 := Lib.hid hb2; clear hb2)
                        | (go_at_call 12; with_reducible refine Calls.mono (awake_any _) ?_; rintro e w4 ⟨rfl, hb4⟩; have HB4 := Lib.hid hb4; clear hb4))
    go_ret
    exact ⟨rfl, HB2.out.trans (HB4.out.mono HB2.out.size)⟩
end Go.Proofs.Ytppnjliamfnlkaa
