import Derived.Test.YtgoaakdopbielaaDoorProg
import Derived.Test.YtgoaakdopbielaaDoorKit
import Derived.Test.YtgoaakdopbielaaDoorPlM
import Derived.Test.YtgoaakdopbielaaDoorMa
namespace Go.Proofs.YtgoaakdopbielaaDoor
open Go.RowKit
set_option linter.unusedSimpArgs false
set_option linter.unusedVariables false
set_option linter.unusedSectionVars false

/-! Layer 9: rows in memory. -/
def intV (l : List Int) : List Value := l.map (Value.int .i64)
/-- A block that is a row of numbers, and nothing else. -/
def Blk (w : World) (p : Nat) (L : List Int) : Prop := w.heap[p]? = some (.cells (intV L).toArray 3 (0, 0))
theorem Blk.lt {w : World} {p : Nat} {L : List Int} (h : Blk w p L) : p < w.heap.size := lt_of_block h
theorem Blk.cell {w : World} {p : Nat} {L : List Int} (h : Blk w p L) (i : Nat) (hi : i < L.length) : w.cell? ⟨p, i, none⟩ = some (.int .i64 L[i]) := by
  rw [cell_of h i]
  simp [intV, hi]
theorem Blk.cellD {w : World} {p : Nat} {L : List Int} (h : Blk w p L) (i : Nat) (x : Int) (hx : L[i]? = some x) : w.cell? ⟨p, i, none⟩ = some (.int .i64 x) := by
  rw [cell_of h i]
  simp [intV, hx]
theorem Blk.free {w : World} {p : Nat} {L : List Int} (h : Blk w p L) (i : Nat) : w.frozen? ⟨p, i, none⟩ = false := free_of h i
theorem Blk.set {w : World} {p : Nat} {L : List Int} (h : Blk w p L) (i : Nat) (v : Int) : Blk (w.setCell ⟨p, i, none⟩ (.int .i64 v)) p (L.set i v) := by
  have h2 := heap_setCell h (i := i) (.int .i64 v)
  unfold Blk
  rw [h2]
  congr 2
  rw [List.setIfInBounds_toArray]
  unfold intV
  rw [List.map_set]
theorem Blk.keep {S : Nat → Prop} {w w' : World} {p : Nat} {L : List Int} (h : Blk w p L) (hk : Keeps S w w') (hp : ¬ S p) : Blk w' p L := (hk.block p h.lt hp).trans h
theorem Blk.below {w w' : World} {p : Nat} {L : List Int} (h : Blk w p L) (hb : Below w.heap.size w w') : Blk w' p L := (hb.block p h.lt).trans h
theorem made_zeros (n : Nat) : madeCells #[.int .i64 0] n = (intV (List.replicate n 0)).toArray := by
  unfold intV
  apply Array.ext
  · simp [madeCells]
  · intro i h1 h2
    simp only [madeCells, Array.getElem_map, List.getElem_toArray, List.getElem_map, List.getElem_replicate]
    simp [Nat.mod_one]
theorem Blk.made (w : World) (n : Nat) : Blk (w.alloc (.cells (madeCells #[.int .i64 0] n) 3)) w.heap.size (List.replicate n 0) := by
  unfold Blk
  rw [made_zeros]
  exact heap_alloc_new w _
theorem put_at (L : List Int) (o i : Nat) (D R : List Int) (x : Int) (hD : D.length = i) (ho : o ≤ L.length) : (putL L o (D ++ x :: R))[o + i]? = some x := by
  unfold putL
  have h1 : (L.take o).length = o := by rw [List.length_take]; omega
  rw [List.getElem?_append_right (by omega), h1, Nat.add_sub_cancel_left, List.append_assoc, List.getElem?_append_right (by omega), hD, Nat.sub_self]
  rfl
theorem put_set (L : List Int) (o i : Nat) (D R : List Int) (x v : Int) (hD : D.length = i) (ho : o ≤ L.length) : (putL L o (D ++ x :: R)).set (o + i) v = putL L o (D ++ v :: R) := by
  unfold putL
  have h1 : (L.take o).length = o := by rw [List.length_take]; omega
  rw [List.set_append_right _ _ (by omega), h1, Nat.add_sub_cancel_left, List.append_assoc, List.set_append_right _ _ (by omega), hD, Nat.sub_self]
  simp
theorem win_get (L : List Int) (o n i : Nat) (hi : i < n) (h : o + n ≤ L.length) : ∃ x, L[o + i]? = some x ∧ (winL L o n)[i]? = some x := by
  refine ⟨L[o + i]'(by omega), List.getElem?_eq_getElem _, ?_⟩
  unfold winL
  rw [List.getElem?_take_of_lt hi, List.getElem?_drop, List.getElem?_eq_getElem]
theorem mod_pos {t : Int} (h : 0 ≤ t) : Int.tmod t 1000000000 = t % BB := Int.tmod_eq_emod_of_nonneg h
theorem div_pos {t : Int} (h : 0 ≤ t) : Int.tdiv t 1000000000 = t / BB := Int.tdiv_eq_ediv_of_nonneg h
set_option maxRecDepth 100000 in
set_option maxHeartbeats 3200000 in
theorem add_v (p o k capA q r m capB : Nat) (f : Int) (L M : List Int) (w : World) (hL : Blk w p L) (hM : Blk w q M) (hpq : p ≠ q) (hoL : o + (k + 1) ≤ L.length) (hrM : r + m ≤ M.length) (hmk : m ≤ k)
    (hA : okI (winL L o (k + 1))) (hB : okR (winL M r m)) (hf : 0 ≤ f ∧ f ≤ 2 * BB) (hk : k ≤ 1000000) (htop : ∀ x, L[o + k]? = some x → -4000000000000000000 ≤ x ∧ x ≤ 4000000000000000000) :
    Calls Tryd.prog 72 #[.slice (some ⟨p, o, none⟩) (k + 1) capA, .slice (some ⟨q, r, none⟩) m capB, .int .i64 f] w fun e w' => e = .returned (.tuple #[]) ∧ Blk w' p (putL L o (addL 0 (winL L o (k + 1)) (winL M r m) f)) ∧ Keeps (fun b => b = p) w w' := by
  obtain ⟨A, hAe⟩ : ∃ A, winL L o (k + 1) = A := ⟨_, rfl⟩
  obtain ⟨Bq, hBe⟩ : ∃ Bq, winL M r m = Bq := ⟨_, rfl⟩
  have hAl : A.length = k + 1 := by rw [← hAe]; exact win_len L o (k + 1) hoL
  have hBl : Bq.length = m := by rw [← hBe]; exact win_len M r m hrM
  have hput : putL L o A = L := by rw [← hAe]; exact put_win L o (k + 1) hoL
  rw [hAe] at hA ⊢
  rw [hBe] at hB ⊢
  have HA0 := Lib.hid (show addL 0 A Bq f = [] ++ addL 0 (A.drop 0) (Bq.drop 0) f by simp)
  have HAok : Hid (∀ i x, i < k → A[i]? = some x → okP x) := Lib.hid (fun i x hi hx => by
    unfold okI at hA
    have h1 : A.dropLast[i]? = some x := by rw [List.dropLast_eq_take, List.getElem?_take_of_lt (by omega)]; exact hx
    exact hA x (List.mem_of_getElem? h1))
  have HBok : Hid (∀ i x, Bq[i]? = some x → okP x) := Lib.hid (fun i x hx => hB x (List.mem_of_getElem? hx))
  have HTop : Hid (∀ x, A[k]? = some x → -4000000000000000000 ≤ x ∧ x ≤ 4000000000000000000) := Lib.hid (fun x hx => by
    obtain ⟨y, h1, h2⟩ := win_get L o (k + 1) k (by omega) hoL
    rw [hAe, hx] at h2
    exact htop x (by rw [h1]; exact h2.symm))
  have HMc : Hid (∀ i x, Bq[i]? = some x → M[r + i]? = some x) := Lib.hid (fun i x hx => by
    have hi : i < m := by
      by_cases h : i < m
      · exact h
      · rw [List.getElem?_eq_none (by omega)] at hx; cases hx
    obtain ⟨y, h1, h2⟩ := win_get M r m i hi hrM
    rw [hBe, hx] at h2
    rw [h1]; exact h2.symm)
  have HL0 : Hid (Blk w p (putL L o ([] ++ A.drop 0))) := Lib.hid (by rw [List.drop_zero, List.nil_append, hput]; exact hL)
  have HM := Lib.hid hM
  have hf1 := hf.1
  have hf2 := hf.2
  have hoL2 : o ≤ L.length := by omega
  clear hL hM hA hB htop hput hAe hBe hf
  go_enter Tryd.func72, Tryd.ntmps72
  go_wp2_with fail
  go_loopw [7, 13] (fun ov iv wr => ∃ (i : Nat) (o1 : Int) (D : List Int), ov = .int .i64 o1 ∧ iv = .int .i64 i ∧ i ≤ k ∧ D.length = i ∧ 0 ≤ o1 ∧ o1 ≤ f ∧ addL 0 A Bq f = D ++ addL o1 (A.drop i) (Bq.drop i) f ∧ Blk wr p (putL L o (D ++ A.drop i)) ∧ Keeps (fun b => b = p) w wr) (fun _ iv _ => k - (intOf iv).toNat)
  case atStart => exact ⟨0, 0, [], rfl, rfl, by omega, rfl, by omega, hf1, HA0.out, HL0.out, Keeps.refl _ _⟩
  case round =>
    obtain ⟨i, o1, D, rfl, rfl, hi, hD, ho0, ho1, hE, hBl2, hKe⟩ := hrel
    have HE := Lib.hid hE
    have HBL := Lib.hid hBl2
    have HK := Lib.hid hKe
    clear hE hBl2 hKe
    have hMr : Hid (Blk wr q M) := Lib.hid (HM.out.keep HK.out (fun e => hpq e.symm))
    by_cases hlt : i < k
    · have hlti : (i : Int) < (k : Int) := by omega
      obtain ⟨x, y, R, hR⟩ : ∃ x y R, A.drop i = x :: y :: R := by
        have h1 := List.drop_eq_getElem_cons (l := A) (i := i) (by omega)
        have h2 := List.drop_eq_getElem_cons (l := A) (i := i + 1) (by omega)
        rw [h2] at h1
        exact ⟨_, _, _, h1⟩
      have hR1 : A.drop (i + 1) = y :: R := by
        have := congrArg (List.drop 1) hR
        rw [List.drop_drop] at this
        simpa using this
      have hAx : A[i]? = some x := by
        have := congrArg (fun l => l[0]?) hR
        simpa [List.getElem?_drop] using this
      have hx := HAok.out i x hlt hAx
      have hca := HBL.out.cellD (o + i) x (by rw [hR]; exact put_at L o i D (y :: R) x hD hoL2)
      have hfa := HBL.out.free (o + i)
      obtain ⟨b, hb⟩ : ∃ b, (Bq.drop i).headD 0 = b := ⟨_, rfl⟩
      have hbt : (Bq.drop i).tail = Bq.drop (i + 1) := by rw [List.tail_drop]
      have hbok : okP b := by
        rw [← hb]
        by_cases him : i < m
        · rw [List.drop_eq_getElem_cons (l := Bq) (i := i) (by omega)]
          exact HBok.out i _ (List.getElem?_eq_getElem _)
        · rw [List.drop_eq_nil_of_le (by omega)]; exact ⟨by decide, by decide⟩
      have hfb0 : 0 ≤ f * b := Int.mul_nonneg hf1 hbok.1
      have hfb1 : f * b ≤ f * (BB - 1) := Int.mul_le_mul_of_nonneg_left (by have := hbok.2; omega) hf1
      have hfb2 : f * (BB - 1) ≤ 2 * BB * (BB - 1) := Int.mul_le_mul_of_nonneg_right hf2 (by decide)
      have e9 : f * (BB - 1) = f * BB - f := by rw [Int.mul_sub, Int.mul_one]
      unfold okP at hx
      obtain ⟨t, ht⟩ : ∃ t, o1 + f * b + x = t := ⟨_, rfl⟩
      have hB9 : BB = 1000000000 := rfl
      have ht0 : 0 ≤ t := by omega
      have htf : t / BB ≤ f := by
        have h7 : t < (f + 1) * BB := by rw [Int.add_mul, Int.one_mul]; omega
        have := Int.ediv_lt_of_lt_mul (show 0 < BB by decide) h7
        omega
      have htn : 0 ≤ t / BB := Int.ediv_nonneg ht0 (by decide)
      have htm := Int.emod_nonneg t (show BB ≠ 0 by decide)
      have htm2 := Int.emod_lt_of_pos t (show (0 : Int) < BB by decide)
      have hnext : addL o1 (A.drop i) (Bq.drop i) f = (t % BB) :: addL (t / BB) (A.drop (i + 1)) (Bq.drop (i + 1)) f := by
        rw [hR, hR1, addL, hb, hbt, ht]
      have HE2 : Hid (addL 0 A Bq f = (D ++ [t % BB]) ++ addL (t / BB) (A.drop (i + 1)) (Bq.drop (i + 1)) f) := Lib.hid (by rw [HE.out, hnext, List.append_assoc]; rfl)
      have HB2 : Hid (∀ v, Blk (wr.setCell ⟨p, o + i, none⟩ (.int .i64 v)) p (putL L o ((D ++ [v]) ++ A.drop (i + 1)))) := Lib.hid (fun v => by
        have := HBL.out.set (o + i) v
        rw [hR, put_set L o i D (y :: R) x v hD hoL2] at this
        rw [hR1, List.append_assoc]
        exact this)
      have hmod : Int.tmod t 1000000000 = t % BB := mod_pos ht0
      have hdiv : Int.tdiv t 1000000000 = t / BB := div_pos ht0
      have hbb : 2 * BB * (BB - 1) = 1999999998000000000 := by decide
      have w1 : IntKind.i64.wrap (f * b) = f * b := IntWalk.i64_in _ (by omega)
      have w2 : IntKind.i64.wrap (o1 + f * b) = o1 + f * b := IntWalk.i64_in _ (by omega)
      have w3 : IntKind.i64.wrap (o1 + f * b + x) = t := by rw [ht]; exact IntWalk.i64_in _ (by omega)
      have w4 : IntKind.i64.wrap (t / BB) = t / BB := IntWalk.i64_in _ (by omega)
      have w5 : wrap64 t = t := IntWalk.wrap64_in _ (by omega)
      have w6 : wrap64 (t / BB) = t / BB := IntWalk.wrap64_in _ (by omega)
      by_cases him : i < m
      · have himi : (i : Int) < (m : Int) := by omega
        have hBx : Bq[i]? = some b := by
          rw [← hb, List.drop_eq_getElem_cons (l := Bq) (i := i) (by omega), List.getElem?_eq_getElem (by omega)]; rfl
        have hcb := hMr.out.cellD (r + i) b (HMc.out i b hBx)
        generalize t % BB = tm at *
        generalize t / BB = tq at *
        generalize hfbv : f * b = fb at *
        clear HA0 HAok HBok HTop HMc HL0 HM hR hR1 hAx hb hbt hnext hfb1 hfb2 e9 hbb
        have HTF := Lib.hid htf
        clear htf
        go_wp2_with fail
        refine ⟨⟨i + 1, tq, D ++ [tm], rfl, by go_num, by omega, by simp [hD], htn, HTF.out, HE2.out, HB2.out tm, HK.out.setCell (.inl rfl) _⟩, ?_⟩
        simp [intOf]; omega
      · have himi : ¬ (i : Int) < (m : Int) := by omega
        have hb0 : b = 0 := by rw [← hb, List.drop_eq_nil_of_le (by omega)]; rfl
        have ht2 : o1 + x = t := by rw [← ht, hb0]; simp
        have w7 : IntKind.i64.wrap (o1 + x) = t := by rw [ht2]; exact IntWalk.i64_in _ (by omega)
        generalize t % BB = tm at *
        generalize t / BB = tq at *
        clear HA0 HAok HBok HTop HMc HL0 HM hR hR1 hAx hb hbt hnext hfb1 hfb2 e9 hbb ht w1 w2 w3 hfb0 hb0
        have HTF := Lib.hid htf
        clear htf
        go_wp2_with fail
        refine ⟨⟨i + 1, tq, D ++ [tm], rfl, by go_num, by omega, by simp [hD], htn, HTF.out, HE2.out, HB2.out tm, HK.out.setCell (.inl rfl) _⟩, ?_⟩
        simp [intOf]; omega
    · obtain rfl : i = k := by omega
      have hlti : ¬ (i : Int) < (i : Int) := by omega
      have hld : decide ((i : Int) < (i : Int)) = false := decide_eq_false hlti
      obtain ⟨x, hx⟩ : ∃ x, A.drop i = [x] := by
        have h1 := List.drop_eq_getElem_cons (l := A) (i := i) (by omega)
        rw [List.drop_eq_nil_of_le (i := i + 1) (by omega)] at h1
        exact ⟨_, h1⟩
      have hAx : A[i]? = some x := by
        have := congrArg (fun l => l[0]?) hx
        simpa [List.getElem?_drop] using this
      have hxt := HTop.out x hAx
      have hca := HBL.out.cellD (o + i) x (by rw [hx]; exact put_at L o i D [] x hD hoL2)
      have hfa := HBL.out.free (o + i)
      have hB9 : BB = 1000000000 := rfl
      have HE2 : Hid (addL 0 A Bq f = D ++ [x + o1]) := Lib.hid (by rw [HE.out, hx, addL])
      have HB2 : Hid (∀ v, Blk (wr.setCell ⟨p, o + i, none⟩ (.int .i64 v)) p (putL L o (D ++ [v]))) := Lib.hid (fun v => by
        have := HBL.out.set (o + i) v
        rw [hx, put_set L o i D [] x v hD hoL2] at this
        exact this)
      have w3 : IntKind.i64.wrap (x + o1) = x + o1 := IntWalk.i64_in _ (by omega)
      have w5 : wrap64 (x + o1) = x + o1 := IntWalk.wrap64_in _ (by omega)
      clear HA0 HAok HBok HTop HMc HL0 HM hx hAx
      go_wp2_with fail
      go_end0
      exact ⟨rfl, by rw [HE2.out]; exact HB2.out _, HK.out.setCell (.inl rfl) _⟩
end Go.Proofs.YtgoaakdopbielaaDoor
