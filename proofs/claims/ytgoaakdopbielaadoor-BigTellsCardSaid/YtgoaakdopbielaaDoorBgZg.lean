import Derived.Test.YtgoaakdopbielaaDoorBgZf
import Derived.Test.YtgoaakdopbielaaDoorReg
import Derived.Deep.QuietTactic
import Derived.BigQuiet
namespace Go.Proofs.YtgoaakdopbielaaDoor
open Go.RowKit Go.Shelf
set_option linter.unusedSimpArgs false
set_option linter.unusedVariables false
set_option linter.unusedSectionVars false

/-! Layer 9: the law of rests. -/
theorem amount_neg (s t : ByteArray) (w : World) (h0 : 0 < s.size) (h45 : byteN s 0 = 45) (ht : s.extract 1 s.size = t) : Calls Tryd.prog 25 #[.string s] w fun e w' => e = .returned (.string t) ∧ w' = w := by
  have hb0 := str_byte s 0 h0
  rw [h45] at hb0
  have hl : ¬ s.toList = [] := by
    intro h
    rw [Lib.toList_data] at h
    have h4 : s.data.toList.length = s.size := by simp
    rw [h] at h4
    simp at h4
    omega
  have hm : s.toList.isEmpty = false := by cases hh : s.toList with | nil => exact absurd hh hl | cons _ _ => rfl
  have i0 : (0 : Int) < (s.size : Int) := by omega
  have i1 : (1 : Int) ≤ (s.size : Int) := by omega
  clear h45
  go_enter Tryd.func25, Tryd.ntmps25
  go_wp2_with fail
  go_ret
  exact ⟨by first | rfl | (rw [ht]; rfl) | (simp [ht]), rfl⟩
theorem amount_pos (s : ByteArray) (w : World) (h0 : 0 < s.size) (h45 : byteN s 0 ≠ 45) : Calls Tryd.prog 25 #[.string s] w fun e w' => e = .returned (.string s) ∧ w' = w := by
  have hb0 := str_byte s 0 h0
  have hl : ¬ s.toList = [] := by
    intro h
    rw [Lib.toList_data] at h
    have h4 : s.data.toList.length = s.size := by simp
    rw [h] at h4
    simp at h4
    omega
  have hm : s.toList.isEmpty = false := by cases hh : s.toList with | nil => exact absurd hh hl | cons _ _ => rfl
  have i0 : (0 : Int) < (s.size : Int) := by omega
  generalize byteN s 0 = c at *
  have e1 : ¬ (c : Int) = 45 := by omega
  have e2 : ((c : Int) == 45) = false := by rw [beq_eq_false_iff_ne]; exact e1
  go_enter Tryd.func25, Tryd.ntmps25
  go_wp2_with fail
  go_ret
  exact ⟨by first | rfl | simp, rfl⟩
theorem nB_first (z : Int) : 0 < (nB z).size ∧ (z < 0 → byteN (nB z) 0 = 45 ∧ (nB z).extract 1 (nB z).size = nB (z.natAbs : Nat)) ∧ (0 ≤ z → byteN (nB z) 0 ≠ 45 ∧ nB z = nB (z.natAbs : Nat)) := by
  have hsz : (nB z).size = (Lib.itoa z).length := by simp [nB, ByteArray.size]
  have habs : Lib.itoa ((z.natAbs : Nat) : Int) = Lib.decDigits z.natAbs := by
    rcases itoa_cases ((z.natAbs : Nat) : Int) with ⟨h, _⟩ | ⟨_, h⟩
    · omega
    · rw [h]; rfl
  have hne := dec_ne z.natAbs
  rcases itoa_cases z with ⟨h1, h2⟩ | ⟨h1, h2⟩
  · refine ⟨by rw [hsz, h2]; simp, fun _ => ⟨?_, ?_⟩, fun h => by omega⟩
    · unfold byteN; rw [nB_list, h2]; rfl
    · apply ByteArray.ext
      apply Array.toList_inj.1
      rw [nB_list, habs, hsz, h2]
      simp [nB, h2, ByteArray.extract, ByteArray.copySlice]
  · refine ⟨by rw [hsz, h2]; exact List.length_pos_iff.mpr hne, fun h => by omega, fun _ => ⟨?_, ?_⟩⟩
    · have hp := plainD_head (dec_plain z.natAbs)
      unfold byteN
      rw [nB_list, h2]
      cases hd : Lib.decDigits z.natAbs with
      | nil => exact absurd hd hne
      | cons x r =>
        rw [hd] at hp
        intro hh
        apply hp
        rw [List.head?_cons, Option.some.injEq]
        exact UInt8.toNat_inj.mp hh
    · unfold nB; rw [habs, h2]
theorem amount_nB (z : Int) (w : World) : Calls Tryd.prog 25 #[.string (nB z)] w fun e w' => e = .returned (.string (nB (z.natAbs : Nat))) ∧ w' = w := by
  obtain ⟨h0, h1, h2⟩ := nB_first z
  by_cases hz : z < 0
  · exact amount_neg _ _ w h0 (h1 hz).1 (h1 hz).2
  · obtain ⟨a, b⟩ := h2 (by omega)
    have := amount_pos _ w h0 a
    rw [← b]; exact this
theorem rest_cases (a b : ByteArray) (z : Int) (hz : z = Int.tmod (zL a.data.toList) (zL b.data.toList)) :
    (recS0 a.data.toList b.data.toList z = ⟨#[]⟩ ∧ (recE0 a.data.toList b.data.toList z = 1)) ∨
    ∃ x y : Int, x.natAbs < LIM ∧ y.natAbs < LIM ∧ y ≠ 0 ∧ a = nB x ∧ b = nB y ∧ recS0 a.data.toList b.data.toList z = nB (Int.tmod x y) ∧ recE0 a.data.toList b.data.toList z = 0 := by
  unfold recS0 recE0
  by_cases h0 : b.data.toList = [48]
  · left; rw [if_pos h0, if_pos h0]; exact ⟨rfl, rfl⟩
  rw [if_neg h0, if_neg h0]
  unfold recS recE
  cases hr : (rightB a.data.toList && rightB b.data.toList) with
  | false => left; rw [if_neg (by decide), if_neg (by decide)]; exact ⟨rfl, rfl⟩
  | true =>
    right
    rw [Bool.and_eq_true] at hr
    obtain ⟨x, hx, rfl⟩ := nB_of hr.1
    obtain ⟨y, hy, rfl⟩ := nB_of hr.2
    have hy0 : y ≠ 0 := fun h => h0 ((nB_zero_iff y).mpr h)
    rw [(nB_right hx).2, (nB_right hy).2] at hz
    have hl : z.natAbs < LIM := by
      rw [hz, Int.natAbs_tmod]
      exact Nat.lt_of_le_of_lt (Nat.mod_le _ _) hx
    rw [if_pos rfl, if_pos rfl, if_neg (by omega), if_neg (by omega), hz]
    exact ⟨x, y, hx, hy, hy0, rfl, rfl, rfl, rfl⟩
set_option maxHeartbeats 3200000 in
theorem rests_v (a b : ByteArray) (w : World) (hE : EnvB w) : Calls Tryd.prog 10 #[.string a, .string b] w fun e w' => e = .returned (.bool true) ∧ Below w.heap.size w w' := by
  have hr := fun w hE => Rest_v a b w hE
  have hA := fun w hE => awake_v w hE
  have HB := Lib.hid (Below.refl w.heap.size w)
  rcases rest_cases a b _ rfl with ⟨h1, h2⟩ | ⟨x, y, hx, hy, hy0, rfl, rfl, h1, h2⟩
  · rw [h1, h2] at hr
    have HR := Lib.hid hr
    have HA := Lib.hid hA
    have HE := Lib.hid hE
    clear hr hA hE h1 h2
    go_enter Tryd.func10, Tryd.ntmps10
    go_wp2_with (first
      | (go_at_call 15; with_reducible refine Calls.mono (HR.out _ (HE.out.below HB.out)) ?_; rintro e w1 ⟨rfl, hb⟩; replace HB := Lib.hid (HB.out.trans (hb.mono HB.out.size)); clear hb)
      | (go_at_call 17; with_reducible refine Calls.mono (HA.out _ (HE.out.below HB.out)) ?_; rintro e w8 ⟨rfl, hb⟩; replace HB := Lib.hid (HB.out.trans (hb.mono HB.out.size)); clear hb))
    go_ret
    exact ⟨by first | rfl | simp, HB.out⟩
  · rw [h1, h2] at hr
    clear h1 h2
    have hlt : ((Int.tmod x y).natAbs : Int) < (y.natAbs : Int) := by
      rw [Int.natAbs_tmod]
      have := Nat.mod_lt x.natAbs (show 0 < y.natAbs by omega)
      omega
    have hsgn : Int.tmod x y < 0 → x < 0 := fun h => by
      by_cases hh : 0 ≤ x
      · have := Int.tmod_nonneg y hh; omega
      · omega
    have hsgn2 : 0 < Int.tmod x y → 0 ≤ x := fun h => by
      by_cases hh : 0 ≤ x
      · exact hh
      · have h1 : Int.tmod x y = - Int.tmod (-x) y := by rw [Int.neg_tmod]; omega
        have := Int.tmod_nonneg y (show 0 ≤ -x by omega); omega
    have hml : (Int.tmod x y).natAbs < LIM := by
      rw [Int.natAbs_tmod]; exact Nat.lt_of_le_of_lt (Nat.mod_le _ _) hx
    generalize Int.tmod x y = m at *
    have hc := fun w => cmp_nn (m.natAbs : Nat) (y.natAbs : Nat) w (by simpa using hml) (by simpa using hy)
    rw [show Lib.compareInt (m.natAbs : Nat) (y.natAbs : Nat) = -1 by unfold Lib.compareInt; rw [if_pos hlt]] at hc
    have ha1 := fun w => amount_nB m w
    have ha2 := fun w => amount_nB y w
    obtain ⟨sm, fm1, fm2⟩ := nB_first m
    obtain ⟨sx, fx1, fx2⟩ := nB_first x
    have b0 := str_byte (nB m) 0 sm
    have b1 := str_byte (nB x) 0 sx
    have hw : (((nB m).toList == [48]) = true) ∨ (((nB m).toList == [48]) = false ∧ byteN (nB m) 0 = 45 ∧ byteN (nB x) 0 = 45) ∨ (((nB m).toList == [48]) = false ∧ byteN (nB m) 0 ≠ 45 ∧ byteN (nB x) 0 ≠ 45) := by
      rw [ByteArray.toList_eq]
      rcases Int.lt_trichotomy m 0 with h | h | h
      · refine .inr (.inl ⟨?_, (fm1 h).1, (fx1 (hsgn h)).1⟩)
        rw [beq_eq_false_iff_ne]; intro hh; have := (nB_zero_iff m).mp hh; omega
      · left; rw [(nB_zero_iff m).mpr h]; rfl
      · refine .inr (.inr ⟨?_, (fm2 (by omega)).1, (fx2 (hsgn2 h)).1⟩)
        rw [beq_eq_false_iff_ne]; intro hh; have := (nB_zero_iff m).mp hh; omega
    clear fm1 fm2 fx1 fx2 hlt hsgn hsgn2 hml hx hy hy0
    generalize nB ((m.natAbs : Nat) : Int) = MM at *
    generalize nB ((y.natAbs : Nat) : Int) = YY at *
    generalize nB m = M at *
    generalize nB x = X at *
    generalize nB y = Y at *
    have HR := Lib.hid hr
    have HA := Lib.hid hA
    have HE := Lib.hid hE
    have HC := Lib.hid hc
    have H1 := Lib.hid ha1
    have H2 := Lib.hid ha2
    have i0 : (0 : Int) < (M.size : Int) := by omega
    have i1 : (0 : Int) < (X.size : Int) := by omega
    clear hr hA hE hc ha1 ha2
    rcases hw with h1 | ⟨h1, c1, c2⟩ | ⟨h1, c1, c2⟩
    · clear b0 b1
      go_enter Tryd.func10, Tryd.ntmps10
      go_wp2_with (first
        | (go_at_call 15; with_reducible refine Calls.mono (HR.out _ (HE.out.below HB.out)) ?_; rintro e w1 ⟨rfl, hb⟩; replace HB := Lib.hid (HB.out.trans (hb.mono HB.out.size)); clear hb)
        | (go_at_call 25; with_reducible refine Calls.mono (H1.out _) ?_; rintro e w2 ⟨rfl, hw2⟩; replace hw2 := hw2.symm; subst hw2; clear H1)
        | (go_at_call 25; with_reducible refine Calls.mono (H2.out _) ?_; rintro e w3 ⟨rfl, hw3⟩; replace hw3 := hw3.symm; subst hw3; clear H2))
      have HAW := Lib.hid (fun i : Wld (InvC w []) => HA.out i.w (HE.out.below i.ok.1))
      have hI0 : InvC w [] (World.drew _) := InvC.start HB.out (by simp)
      have hne5 : Nonempty (Wld (InvC w [])) := ⟨⟨_, hI0⟩⟩
      refine wp_region_inv (InvC w []) (by kernel_rfl) (by kernel_rfl) hI0 ?_
      clear hI0
      repeat (go_big_quiet_step ((first
        | (go_at_call 23; exact Calls.inv (HC.out _))
        | (go_at_call 17; exact Calls.inv (HAW.out _)))))
      refine wpQuiet_nil ?_
      intro w6 hw6
      obtain ⟨i6, rfl⟩ := hw6
      have HB8 := Lib.hid i6.ok.1
      go_wp2_with fail
      go_ret
      exact ⟨by first | rfl | simp, HB8.out⟩
    · rw [c1] at b0
      rw [c2] at b1
      clear c1 c2
      go_enter Tryd.func10, Tryd.ntmps10
      go_wp2_with (first
        | (go_at_call 15; with_reducible refine Calls.mono (HR.out _ (HE.out.below HB.out)) ?_; rintro e w1 ⟨rfl, hb⟩; replace HB := Lib.hid (HB.out.trans (hb.mono HB.out.size)); clear hb)
        | (go_at_call 25; with_reducible refine Calls.mono (H1.out _) ?_; rintro e w2 ⟨rfl, hw2⟩; replace hw2 := hw2.symm; subst hw2; clear H1)
        | (go_at_call 25; with_reducible refine Calls.mono (H2.out _) ?_; rintro e w3 ⟨rfl, hw3⟩; replace hw3 := hw3.symm; subst hw3; clear H2))
      have HAW := Lib.hid (fun i : Wld (InvC w []) => HA.out i.w (HE.out.below i.ok.1))
      have hI0 : InvC w [] (World.drew _) := InvC.start HB.out (by simp)
      have hne5 : Nonempty (Wld (InvC w [])) := ⟨⟨_, hI0⟩⟩
      refine wp_region_inv (InvC w []) (by kernel_rfl) (by kernel_rfl) hI0 ?_
      clear hI0
      repeat (go_big_quiet_step ((first
        | (go_at_call 23; exact Calls.inv (HC.out _))
        | (go_at_call 17; exact Calls.inv (HAW.out _)))))
      refine wpQuiet_nil ?_
      intro w6 hw6
      obtain ⟨i6, rfl⟩ := hw6
      have HB8 := Lib.hid i6.ok.1
      go_wp2_with fail
      go_ret
      exact ⟨by first | rfl | simp, HB8.out⟩
    · generalize byteN M 0 = c at *
      generalize byteN X 0 = d at *
      have e1 : ¬ (c : Int) = 45 := by omega
      have e2 : ((c : Int) == 45) = false := by rw [beq_eq_false_iff_ne]; exact e1
      have e3 : ¬ (d : Int) = 45 := by omega
      have e4 : ((d : Int) == 45) = false := by rw [beq_eq_false_iff_ne]; exact e3
      go_enter Tryd.func10, Tryd.ntmps10
      go_wp2_with (first
        | (go_at_call 15; with_reducible refine Calls.mono (HR.out _ (HE.out.below HB.out)) ?_; rintro e w1 ⟨rfl, hb⟩; replace HB := Lib.hid (HB.out.trans (hb.mono HB.out.size)); clear hb)
        | (go_at_call 25; with_reducible refine Calls.mono (H1.out _) ?_; rintro e w2 ⟨rfl, hw2⟩; replace hw2 := hw2.symm; subst hw2; clear H1)
        | (go_at_call 25; with_reducible refine Calls.mono (H2.out _) ?_; rintro e w3 ⟨rfl, hw3⟩; replace hw3 := hw3.symm; subst hw3; clear H2))
      have HAW := Lib.hid (fun i : Wld (InvC w []) => HA.out i.w (HE.out.below i.ok.1))
      have hI0 : InvC w [] (World.drew _) := InvC.start HB.out (by simp)
      have hne5 : Nonempty (Wld (InvC w [])) := ⟨⟨_, hI0⟩⟩
      refine wp_region_inv (InvC w []) (by kernel_rfl) (by kernel_rfl) hI0 ?_
      clear hI0
      repeat (go_big_quiet_step ((first
        | (go_at_call 23; exact Calls.inv (HC.out _))
        | (go_at_call 17; exact Calls.inv (HAW.out _)))))
      refine wpQuiet_nil ?_
      intro w6 hw6
      obtain ⟨i6, rfl⟩ := hw6
      have HB8 := Lib.hid i6.ok.1
      go_wp2_with fail
      go_ret
      exact ⟨by first | rfl | simp, HB8.out⟩
end Go.Proofs.YtgoaakdopbielaaDoor
