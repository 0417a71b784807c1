import Derived.Test.YtgoaakdopbielaaDoorBgI
namespace Go.Proofs.YtgoaakdopbielaaDoor
open Go.RowKit
set_option linter.unusedSimpArgs false
set_option linter.unusedVariables false
set_option linter.unusedSectionVars false

/-! Layer 9: which of two rows is greater; products of rows. -/
theorem cmp_int (x y : Int) (w : World) : Calls Tryd.prog 64 #[.int .i64 x, .int .i64 y] w fun e w' => e = .returned (.int .i64 (Lib.compareInt x y)) ∧ w' = w := Tryd.cmp_Compare_int x y w
theorem cmp_step (x y u v : Int) (hx : okP x) (hy : okP y) : Lib.compareInt (x + BB * u) (y + BB * v) = if Lib.compareInt u v = 0 then Lib.compareInt x y else Lib.compareInt u v := by
  unfold okP at hx hy
  have hB : BB = 1000000000 := rfl
  rw [hB] at hx hy ⊢
  unfold Lib.compareInt
  repeat' split
  all_goals omega
theorem drop_val (a : List Int) (n : Nat) (h : n < a.length) : valI (a.drop n) = a[n] + BB * valI (a.drop (n + 1)) := by
  rw [List.drop_eq_getElem_cons h]; rfl
theorem cmp_len {a b : List Int} (ha : canon a) (hb : canon b) (h : a.length ≠ b.length) : Lib.compareInt (a.length : Int) (b.length : Int) = Lib.compareInt (valI a) (valI b) ∧ Lib.compareInt (a.length : Int) (b.length : Int) ≠ 0 := by
  unfold Lib.compareInt
  rcases Nat.lt_or_gt_of_ne h with h1 | h1
  · have := canon_len ha hb h1
    rw [if_pos (by omega), if_pos (by omega)]
    exact ⟨rfl, by decide⟩
  · have := canon_len hb ha h1
    rw [if_neg (by omega), if_pos (by omega), if_neg (by omega), if_pos (by omega)]
    exact ⟨rfl, by decide⟩
set_option maxRecDepth 100000 in
set_option maxHeartbeats 3200000 in
theorem compare_v (va vb : Value) (a b : List Int) (w : World) (hA : RowA w va a) (hB : RowA w vb b) (ha : canon a) (hb : canon b) (hla : a.length ≤ 100000) (hlb : b.length ≤ 100000) :
    Calls Tryd.prog 49 #[va, vb] w fun e w' => e = .returned (.int .i64 (Lib.compareInt (valI a) (valI b))) ∧ Below w.heap.size w w' := by
  obtain ⟨p, o, capA, L, rfl, hL, hLw, hLl, _⟩ := hA
  obtain ⟨q, r, capB, M, rfl, hM, hMw, hMl, _⟩ := hB
  have HCA := Lib.hid (fun (W : World) (hW : Below w.heap.size w W) i x hx => (hL.below hW).cellD (o + i) x (win_cells hLw i x hx))
  have HCB := Lib.hid (fun (W : World) (hW : Below w.heap.size w W) i x hx => (hM.below hW).cellD (r + i) x (win_cells hMw i x hx))
  clear hL hLw hLl hM hMw hMl
  by_cases hne : a.length = b.length
  · obtain ⟨n, hn⟩ : ∃ n, a.length = n := ⟨_, rfl⟩
    have hbn : b.length = n := by omega
    have HA : Hid (∀ i x, a[i]? = some x → okP x) := Lib.hid (fun i x hx => ha.1 x (List.mem_of_getElem? hx))
    have HB : Hid (∀ i x, b[i]? = some x → okP x) := Lib.hid (fun i x hx => hb.1 x (List.mem_of_getElem? hx))
    have h0 : Lib.compareInt (n : Int) (n : Int) = 0 := by unfold Lib.compareInt; simp
    have HI : Hid (∀ j x y, j + 1 ≤ n → a[n - (j + 1)]? = some x → b[n - (j + 1)]? = some y → Lib.compareInt (valI (a.drop (n - (j + 1)))) (valI (b.drop (n - (j + 1)))) = if Lib.compareInt (valI (a.drop (n - j))) (valI (b.drop (n - j))) = 0 then Lib.compareInt x y else Lib.compareInt (valI (a.drop (n - j))) (valI (b.drop (n - j)))) := Lib.hid (fun j x y hj hx hy => by
      have h1 := drop_val a (n - (j + 1)) (by omega)
      have h2 := drop_val b (n - (j + 1)) (by omega)
      rw [show n - (j + 1) + 1 = n - j by omega] at h1 h2
      rw [h1, h2]
      rw [List.getElem?_eq_getElem (by omega)] at hx hy
      rw [Option.some.inj hx, Option.some.inj hy]
      exact cmp_step x y _ _ (HA.out (n - (j + 1)) x (by rw [List.getElem?_eq_getElem (by omega)]; exact hx)) (HB.out (n - (j + 1)) y (by rw [List.getElem?_eq_getElem (by omega)]; exact hy)))
    have H0 : Hid (0 = Lib.compareInt (valI (a.drop (n - 0))) (valI (b.drop (n - 0)))) := Lib.hid (by rw [Nat.sub_zero, List.drop_eq_nil_of_le (by omega), List.drop_eq_nil_of_le (by omega)]; rfl)
    have HE : Hid (∀ j, j = n → Lib.compareInt (valI (a.drop (n - j))) (valI (b.drop (n - j))) = Lib.compareInt (valI a) (valI b)) := Lib.hid (fun j hj => by rw [hj, Nat.sub_self, List.drop_zero, List.drop_zero])
    have HGA : Hid (∀ j, j + 1 ≤ n → ∃ x, a[n - (j + 1)]? = some x) := Lib.hid (fun j hj => ⟨_, List.getElem?_eq_getElem (by omega)⟩)
    have HGB : Hid (∀ j, j + 1 ≤ n → ∃ x, b[n - (j + 1)]? = some x) := Lib.hid (fun j hj => ⟨_, List.getElem?_eq_getElem (by omega)⟩)
    have hnl : n ≤ 100000 := by omega
    rw [hn, hbn]
    generalize Lib.compareInt (valI a) (valI b) = X at *
    clear ha hb hla hlb hne hn hbn HA HB
    have hc0 := fun w => cmp_int (n : Int) (n : Int) w
    rw [h0] at hc0
    go_enter Tryd.func49, Tryd.ntmps49
    go_wp2_with (go_at_call 64; with_reducible refine Calls.mono (hc0 _) ?_; rintro e w1 ⟨rfl, hw1⟩; replace hw1 := hw1.symm; subst hw1)
    go_loopw [5, 14] (fun ov iv wr => ∃ (j : Nat), ov = .int .i64 (Lib.compareInt (valI (a.drop (n - j))) (valI (b.drop (n - j)))) ∧ iv = .int .i64 j ∧ j ≤ n ∧ Below w.heap.size w wr) (fun _ iv _ => n - (intOf iv).toNat)
    case atStart => exact ⟨0, by rw [← H0.out], rfl, by omega, Below.refl _ _⟩
    case round =>
      obtain ⟨j, rfl, rfl, hj, hbr⟩ := hrel
      have HBR := Lib.hid hbr
      clear hbr
      by_cases hlt : j < n
      · have hlti : (j : Int) < (n : Int) := by omega
        obtain ⟨x, hx⟩ := HGA.out j (by omega)
        obtain ⟨y, hy⟩ := HGB.out j (by omega)
        have HS := Lib.hid (HI.out j x y (by omega) hx hy)
        obtain ⟨k, hk⟩ : ∃ k, n - (j + 1) = k := ⟨_, rfl⟩
        rw [hk] at hx hy HS
        have hcx := HCA.out wr.drew HBR.out.drew k x hx
        have hcy := HCB.out wr.drew HBR.out.drew k y hy
        have hcx1 := HCA.out wr HBR.out k x hx
        have hcy1 := HCB.out wr HBR.out k y hy
        obtain ⟨c, hc⟩ : ∃ c, Lib.compareInt (valI (a.drop (n - j))) (valI (b.drop (n - j))) = c := ⟨_, rfl⟩
        rw [hc] at HS ⊢
        have hki : (n : Int) - 1 - (j : Int) = (k : Int) := by omega
        have q1 : IntKind.i64.wrap ((n : Int) - 1) = (n : Int) - 1 := IntWalk.i64_in _ (by omega)
        have q2 : IntKind.i64.wrap (k : Int) = (k : Int) := IntWalk.i64_in _ (by omega)
        have hkn : k < n := by omega
        have hkni : (k : Int) < (n : Int) := by omega
        have HK := Lib.hid hk
        clear hk hx hy hc
        by_cases hc0 : c = 0
        · subst hc0
          have HS2 : Hid (Lib.compareInt x y = Lib.compareInt (valI (a.drop k)) (valI (b.drop k))) := Lib.hid (by rw [HS.out, if_pos rfl])
          have hcc := fun w => cmp_int x y w
          rw [HS2.out] at hcc
          go_wp2_with fail
          go_region_law (go_simp; go_at_call 64; refine Calls.mono (hcc _) ?_; rintro e w2 ⟨rfl, hw2⟩; replace hw2 := hw2.symm; subst hw2)
          all_goals
            go_wp2_with fail
            refine ⟨⟨j + 1, by rw [HK.out], by go_num, by omega, HBR.out.drew⟩, ?_⟩
            first | (simp [intOf]; done) | (simp [intOf]; omega)
        · have HS2 : Hid (Lib.compareInt (valI (a.drop k)) (valI (b.drop k)) = c) := Lib.hid (by rw [HS.out, if_neg hc0])
          have e1 : (c == 0) = false := by rw [beq_eq_false_iff_ne]; exact hc0
          have e2 : decide (c = 0) = false := decide_eq_false hc0
          go_wp2_with fail
          go_roundw
          case rel => exact ⟨j + 1, by rw [HK.out, HS2.out], by go_num, by omega, HBR.out⟩
          case measure => first | (simp [intOf]; done) | (simp [intOf]; omega)
      · have HE2 := Lib.hid (HE.out j (by omega))
        have hlti : ¬ (j : Int) < (n : Int) := by omega
        have hld : decide ((j : Int) < (n : Int)) = false := decide_eq_false hlti
        generalize Lib.compareInt (valI (a.drop (n - j))) (valI (b.drop (n - j))) = c at *
        go_wp2_with fail
        go_ret
        exact ⟨by rw [← HE2.out]; rfl, HBR.out⟩
  · obtain ⟨h1, h2⟩ := cmp_len ha hb hne
    have hc0 := fun w => cmp_int (a.length : Int) (b.length : Int) w
    rw [h1] at hc0 h2
    obtain ⟨n, hn⟩ : ∃ n, a.length = n := ⟨_, rfl⟩
    obtain ⟨m, hm⟩ : ∃ m, b.length = m := ⟨_, rfl⟩
    rw [hn] at hc0 hla ⊢
    rw [hm] at hc0 hlb ⊢
    generalize Lib.compareInt (valI a) (valI b) = c at *
    clear h1 hn hm ha hb hne
    have e1 : (c == 0) = false := by rw [beq_eq_false_iff_ne]; exact h2
    have e2 : decide (c = 0) = false := decide_eq_false h2
    go_enter Tryd.func49, Tryd.ntmps49
    go_wp2_with (go_at_call 64; with_reducible refine Calls.mono (hc0 _) ?_; rintro e w1 ⟨rfl, hw1⟩; replace hw1 := hw1.symm; subst hw1)
    go_loopw [5, 14] (fun ov iv wr => ∃ (j : Nat), ov = .int .i64 c ∧ iv = .int .i64 j ∧ j ≤ n ∧ wr = w) (fun _ iv _ => n - (intOf iv).toNat)
    case atStart => exact ⟨0, rfl, rfl, by omega, rfl⟩
    case round =>
      obtain ⟨j, rfl, rfl, hj, rfl⟩ := hrel
      by_cases hlt : j < n
      · have hlti : (j : Int) < (n : Int) := by omega
        go_wp2_with fail
        go_roundw
        case rel => exact ⟨j + 1, by first | rfl | trivial, by go_num, by omega, by first | rfl | trivial⟩
        case measure => first | (simp [intOf]; done) | (simp [intOf]; omega)
      · have hlti : ¬ (j : Int) < (n : Int) := by omega
        have hld : decide ((j : Int) < (n : Int)) = false := decide_eq_false hlti
        go_wp2_with fail
        go_ret
        exact ⟨rfl, Below.refl _ _⟩
end Go.Proofs.YtgoaakdopbielaaDoor
