import Derived.Test.YtgoaakdopbielaaDoorBgF
namespace Go.Proofs.YtgoaakdopbielaaDoor
open Go.RowKit
set_option linter.unusedSimpArgs false
set_option linter.unusedVariables false
set_option linter.unusedSectionVars false

set_option maxRecDepth 100000 in
set_option maxHeartbeats 3200000 in
theorem take_v (p o k capA q r m capB : Nat) (f : Int) (L M : List Int) (w : World) (hL : Blk w p L) (hM : Blk w q M) (hpq : p ≠ q) (hoL : o + (k + 1) ≤ L.length) (hrM : r + m ≤ M.length) (hmk : m ≤ k)
    (hA : okI (winL L o (k + 1))) (hB : okR (winL M r m)) (hf : 0 ≤ f ∧ f ≤ 2 * BB) (hk : k ≤ 1000000) (htop : ∀ x, L[o + k]? = some x → -4000000000000000000 ≤ x ∧ x ≤ 4000000000000000000) :
    Calls Tryd.prog 73 #[.slice (some ⟨p, o, none⟩) (k + 1) capA, .slice (some ⟨q, r, none⟩) m capB, .int .i64 f] w fun e w' => e = .returned (.tuple #[]) ∧ Blk w' p (putL L o (takL 0 (winL L o (k + 1)) (winL M r m) f)) ∧ Keeps (fun b => b = p) w w' := by
  obtain ⟨A, hAe⟩ : ∃ A, winL L o (k + 1) = A := ⟨_, rfl⟩
  obtain ⟨Bq, hBe⟩ : ∃ Bq, winL M r m = Bq := ⟨_, rfl⟩
  have hAl : A.length = k + 1 := by rw [← hAe]; exact win_len L o (k + 1) hoL
  have hBl : Bq.length = m := by rw [← hBe]; exact win_len M r m hrM
  have hput : putL L o A = L := by rw [← hAe]; exact put_win L o (k + 1) hoL
  rw [hAe] at hA ⊢
  rw [hBe] at hB ⊢
  have HA0 := Lib.hid (show takL 0 A Bq f = [] ++ takL 0 (A.drop 0) (Bq.drop 0) f by simp)
  have HAok : Hid (∀ i x, i < k → A[i]? = some x → okP x) := Lib.hid (fun i x hi hx => by
    unfold okI at hA
    have h1 : A.dropLast[i]? = some x := by rw [List.dropLast_eq_take, List.getElem?_take_of_lt (by omega)]; exact hx
    exact hA x (List.mem_of_getElem? h1))
  have HBok : Hid (∀ i x, Bq[i]? = some x → okP x) := Lib.hid (fun i x hx => hB x (List.mem_of_getElem? hx))
  have HTop : Hid (∀ x, A[k]? = some x → -4000000000000000000 ≤ x ∧ x ≤ 4000000000000000000) := Lib.hid (fun x hx => by
    obtain ⟨y, h1, h2⟩ := win_get L o (k + 1) k (by omega) hoL
    rw [hAe, hx] at h2
    exact htop x (by rw [h1]; exact h2.symm))
  have HMc : Hid (∀ i x, Bq[i]? = some x → M[r + i]? = some x) := Lib.hid (fun i x hx => by
    have hi : i < m := by
      by_cases h : i < m
      · exact h
      · rw [List.getElem?_eq_none (by omega)] at hx; cases hx
    obtain ⟨y, h1, h2⟩ := win_get M r m i hi hrM
    rw [hBe, hx] at h2
    rw [h1]; exact h2.symm)
  have HL0 : Hid (Blk w p (putL L o ([] ++ A.drop 0))) := Lib.hid (by rw [List.drop_zero, List.nil_append, hput]; exact hL)
  have HM := Lib.hid hM
  have hf1 := hf.1
  have hf2 := hf.2
  have hoL2 : o ≤ L.length := by omega
  clear hL hM hA hB htop hput hAe hBe hf
  go_enter Tryd.func73, Tryd.ntmps73
  go_wp2_with fail
  go_loopw [7, 13] (fun ov iv wr => ∃ (i : Nat) (o1 : Int) (D : List Int), ov = .int .i64 o1 ∧ iv = .int .i64 i ∧ i ≤ k ∧ D.length = i ∧ 0 ≤ o1 ∧ o1 ≤ f + 1 ∧ takL 0 A Bq f = D ++ takL o1 (A.drop i) (Bq.drop i) f ∧ Blk wr p (putL L o (D ++ A.drop i)) ∧ Keeps (fun b => b = p) w wr) (fun _ iv _ => k - (intOf iv).toNat)
  case atStart => exact ⟨0, 0, [], rfl, rfl, by omega, rfl, by omega, by omega, HA0.out, HL0.out, Keeps.refl _ _⟩
  case round =>
    obtain ⟨i, o1, D, rfl, rfl, hi, hD, ho0, ho1, hE, hBl2, hKe⟩ := hrel
    have HE := Lib.hid hE
    have HBL := Lib.hid hBl2
    have HK := Lib.hid hKe
    clear hE hBl2 hKe
    have hMr : Hid (Blk wr q M) := Lib.hid (HM.out.keep HK.out (fun e => hpq e.symm))
    by_cases hlt : i < k
    · have hlti : (i : Int) < (k : Int) := by omega
      obtain ⟨x, y, R, hR⟩ : ∃ x y R, A.drop i = x :: y :: R := by
        have h1 := List.drop_eq_getElem_cons (l := A) (i := i) (by omega)
        have h2 := List.drop_eq_getElem_cons (l := A) (i := i + 1) (by omega)
        rw [h2] at h1
        exact ⟨_, _, _, h1⟩
      have hR1 : A.drop (i + 1) = y :: R := by
        have := congrArg (List.drop 1) hR
        rw [List.drop_drop] at this
        simpa using this
      have hAx : A[i]? = some x := by
        have := congrArg (fun l => l[0]?) hR
        simpa [List.getElem?_drop] using this
      have hx := HAok.out i x hlt hAx
      have hca := HBL.out.cellD (o + i) x (by rw [hR]; exact put_at L o i D (y :: R) x hD hoL2)
      have hfa := HBL.out.free (o + i)
      obtain ⟨b, hb⟩ : ∃ b, (Bq.drop i).headD 0 = b := ⟨_, rfl⟩
      have hbt : (Bq.drop i).tail = Bq.drop (i + 1) := by rw [List.tail_drop]
      have hbok : okP b := by
        rw [← hb]
        by_cases him : i < m
        · rw [List.drop_eq_getElem_cons (l := Bq) (i := i) (by omega)]
          exact HBok.out i _ (List.getElem?_eq_getElem _)
        · rw [List.drop_eq_nil_of_le (by omega)]; exact ⟨by decide, by decide⟩
      have hfb0 : 0 ≤ f * b := Int.mul_nonneg hf1 hbok.1
      have hfb1 : f * b ≤ f * (BB - 1) := Int.mul_le_mul_of_nonneg_left (by have := hbok.2; omega) hf1
      have hfb2 : f * (BB - 1) ≤ 2 * BB * (BB - 1) := Int.mul_le_mul_of_nonneg_right hf2 (by decide)
      have e9 : f * (BB - 1) = f * BB - f := by rw [Int.mul_sub, Int.mul_one]
      unfold okP at hx
      obtain ⟨t, ht⟩ : ∃ t, o1 + f * b = t := ⟨_, rfl⟩
      have hB9 : BB = 1000000000 := rfl
      have ht0 : 0 ≤ t := by omega
      have htf : t / BB ≤ f := by
        have h7 : t < (f + 1) * BB := by rw [Int.add_mul, Int.one_mul]; omega
        have := Int.ediv_lt_of_lt_mul (show 0 < BB by decide) h7
        omega
      have htn : 0 ≤ t / BB := Int.ediv_nonneg ht0 (by decide)
      have htm := Int.emod_nonneg t (show BB ≠ 0 by decide)
      have htm2 := Int.emod_lt_of_pos t (show (0 : Int) < BB by decide)
      have hnext : takL o1 (A.drop i) (Bq.drop i) f = if x - t % BB < 0 then (x - t % BB + BB) :: takL (t / BB + 1) (A.drop (i + 1)) (Bq.drop (i + 1)) f else (x - t % BB) :: takL (t / BB) (A.drop (i + 1)) (Bq.drop (i + 1)) f := by
        rw [hR, hR1, takL, hb, hbt, ht]
      have HE1 : Hid (x - t % BB < 0 → takL 0 A Bq f = (D ++ [x - t % BB + BB]) ++ takL (t / BB + 1) (A.drop (i + 1)) (Bq.drop (i + 1)) f) := Lib.hid (fun h => by rw [HE.out, hnext, if_pos h, List.append_assoc]; rfl)
      have HE2 : Hid (¬ x - t % BB < 0 → takL 0 A Bq f = (D ++ [x - t % BB]) ++ takL (t / BB) (A.drop (i + 1)) (Bq.drop (i + 1)) f) := Lib.hid (fun h => by rw [HE.out, hnext, if_neg h, List.append_assoc]; rfl)
      have HB2 : Hid (∀ v, Blk (wr.setCell ⟨p, o + i, none⟩ (.int .i64 v)) p (putL L o ((D ++ [v]) ++ A.drop (i + 1)))) := Lib.hid (fun v => by
        have := HBL.out.set (o + i) v
        rw [hR, put_set L o i D (y :: R) x v hD hoL2] at this
        rw [hR1, List.append_assoc]
        exact this)
      have HB3 : Hid (∀ v u, Blk ((wr.setCell ⟨p, o + i, none⟩ (.int .i64 v)).setCell ⟨p, o + i, none⟩ (.int .i64 u)) p (putL L o ((D ++ [u]) ++ A.drop (i + 1)))) := Lib.hid (fun v u => by
        have h1 := HB2.out v
        rw [List.append_assoc] at h1
        have := h1.set (o + i) u
        rw [show D ++ ([v] ++ A.drop (i + 1)) = D ++ v :: A.drop (i + 1) from rfl, put_set L o i D (A.drop (i + 1)) v u hD hoL2] at this
        rw [List.append_assoc]
        exact this)
      have hcz : ∀ v, (wr.setCell ⟨p, o + i, none⟩ (.int .i64 v)).cell? ⟨p, o + i, none⟩ = some (.int .i64 v) := fun v => by
        refine (HB2.out v).cellD (o + i) v ?_
        rw [List.append_assoc]
        exact put_at L o i D (A.drop (i + 1)) v hD hoL2
      have hfz : ∀ v, (wr.setCell ⟨p, o + i, none⟩ (.int .i64 v)).frozen? ⟨p, o + i, none⟩ = false := fun v => (HB2.out v).free (o + i)
      have hmod : Int.tmod t 1000000000 = t % BB := mod_pos ht0
      have hdiv : Int.tdiv t 1000000000 = t / BB := div_pos ht0
      have hbb : 2 * BB * (BB - 1) = 1999999998000000000 := by decide
      have w1 : IntKind.i64.wrap (f * b) = f * b := IntWalk.i64_in _ (by omega)
      have w2 : IntKind.i64.wrap (o1 + f * b) = t := by rw [ht]; exact IntWalk.i64_in _ (by omega)
      have w4 : IntKind.i64.wrap (t / BB) = t / BB := IntWalk.i64_in _ (by omega)
      have w5 : wrap64 t = t := IntWalk.wrap64_in _ (by omega)
      have w6 : wrap64 (t / BB) = t / BB := IntWalk.wrap64_in _ (by omega)
      have htn1 : 0 ≤ t / BB + 1 := by omega
      generalize t % BB = tm at *
      generalize t / BB = tq at *
      have w7 : IntKind.i64.wrap (x - tm) = x - tm := IntWalk.i64_in _ (by omega)
      have w8 : wrap64 (x - tm) = x - tm := IntWalk.wrap64_in _ (by omega)
      have w9 : IntKind.i64.wrap (x - tm + 1000000000) = x - tm + BB := IntWalk.i64_in _ (by omega)
      have w10 : wrap64 (x - tm + 1000000000) = x - tm + BB := IntWalk.wrap64_in _ (by omega)
      have w11 : IntKind.i64.wrap (tq + 1) = tq + 1 := IntWalk.i64_in _ (by omega)
      have w12 : wrap64 (tq + 1) = tq + 1 := IntWalk.wrap64_in _ (by omega)
      have HZB : Hid (x - tm + 1000000000 = x - tm + BB) := Lib.hid (by omega)
      have HTF := Lib.hid htf
      clear hnext hfb1 hfb2 e9 hbb htf HA0 HAok HBok HTop HM hR hR1 hAx
      by_cases him : i < m
      · have himi : (i : Int) < (m : Int) := by omega
        have hBx : Bq[i]? = some b := by
          rw [← hb, List.drop_eq_getElem_cons (l := Bq) (i := i) (by omega), List.getElem?_eq_getElem (by omega)]; rfl
        have hcb := hMr.out.cellD (r + i) b (HMc.out i b hBx)
        generalize hfbv : f * b = fb at *
        clear hb hbt
        by_cases hz : x - tm < 0
        · have hzd : decide (x - tm < 0) = true := decide_eq_true hz
          have HEz := Lib.hid (HE1.out hz)
          clear HE1 HE2
          go_wp2_with fail
          refine ⟨⟨i + 1, tq + 1, D ++ [x - tm + BB], rfl, by go_num, by omega, by simp [hD], htn1, by have := HTF.out; omega, HEz.out, HB3.out _ _, (HK.out.setCell (.inl rfl) _).setCell (.inl rfl) _⟩, ?_⟩
          simp [intOf]; omega
        · have hzd : decide (x - tm < 0) = false := decide_eq_false hz
          have HEz := Lib.hid (HE2.out hz)
          clear HE1 HE2
          go_wp2_with fail
          refine ⟨⟨i + 1, tq, D ++ [x - tm], rfl, by go_num, by omega, by simp [hD], htn, by have := HTF.out; omega, HEz.out, HB2.out _, HK.out.setCell (.inl rfl) _⟩, ?_⟩
          simp [intOf]; omega
      · have himi : ¬ (i : Int) < (m : Int) := by omega
        have hb0 : b = 0 := by rw [← hb, List.drop_eq_nil_of_le (by omega)]; rfl
        have ht2 : o1 = t := by rw [← ht, hb0]; simp
        subst ht2
        clear hb hbt ht w1 w2 hfb0 hb0
        by_cases hz : x - tm < 0
        · have hzd : decide (x - tm < 0) = true := decide_eq_true hz
          have HEz := Lib.hid (HE1.out hz)
          clear HE1 HE2
          go_wp2_with fail
          refine ⟨⟨i + 1, tq + 1, D ++ [x - tm + BB], rfl, by go_num, by omega, by simp [hD], htn1, by have := HTF.out; omega, HEz.out, HB3.out _ _, (HK.out.setCell (.inl rfl) _).setCell (.inl rfl) _⟩, ?_⟩
          simp [intOf]; omega
        · have hzd : decide (x - tm < 0) = false := decide_eq_false hz
          have HEz := Lib.hid (HE2.out hz)
          clear HE1 HE2
          go_wp2_with fail
          refine ⟨⟨i + 1, tq, D ++ [x - tm], rfl, by go_num, by omega, by simp [hD], htn, by have := HTF.out; omega, HEz.out, HB2.out _, HK.out.setCell (.inl rfl) _⟩, ?_⟩
          simp [intOf]; omega
    · obtain rfl : i = k := by omega
      have hlti : ¬ (i : Int) < (i : Int) := by omega
      have hld : decide ((i : Int) < (i : Int)) = false := decide_eq_false hlti
      obtain ⟨x, hx⟩ : ∃ x, A.drop i = [x] := by
        have h1 := List.drop_eq_getElem_cons (l := A) (i := i) (by omega)
        rw [List.drop_eq_nil_of_le (i := i + 1) (by omega)] at h1
        exact ⟨_, h1⟩
      have hAx : A[i]? = some x := by
        have := congrArg (fun l => l[0]?) hx
        simpa [List.getElem?_drop] using this
      have hxt := HTop.out x hAx
      have hca := HBL.out.cellD (o + i) x (by rw [hx]; exact put_at L o i D [] x hD hoL2)
      have hfa := HBL.out.free (o + i)
      have hB9 : BB = 1000000000 := rfl
      have HE2 : Hid (takL 0 A Bq f = D ++ [x - o1]) := Lib.hid (by rw [HE.out, hx, takL])
      have HB2 : Hid (∀ v, Blk (wr.setCell ⟨p, o + i, none⟩ (.int .i64 v)) p (putL L o (D ++ [v]))) := Lib.hid (fun v => by
        have := HBL.out.set (o + i) v
        rw [hx, put_set L o i D [] x v hD hoL2] at this
        exact this)
      have w3 : IntKind.i64.wrap (x - o1) = x - o1 := IntWalk.i64_in _ (by omega)
      have w5 : wrap64 (x - o1) = x - o1 := IntWalk.wrap64_in _ (by omega)
      clear HA0 HAok HBok HTop HMc HL0 HM hx hAx
      go_wp2_with fail
      go_end0
      exact ⟨rfl, by rw [HE2.out]; exact HB2.out _, HK.out.setCell (.inl rfl) _⟩
end Go.Proofs.YtgoaakdopbielaaDoor
