import Derived.Test.YtgoaakdopbielaaDoorBgZd
import Derived.Test.YtgoaakdopbielaaDoorBgRk
import Derived.Test.YtgoaakdopbielaaDoorBgZf
import Derived.Test.YtgoaakdopbielaaDoorBgZc
import Derived.Test.YtgoaakdopbielaaDoorRows
import Derived.Lib.LaidTab
import Derived.OpenShut
import Derived.Stop.LaidErr
import Derived.MakeChecks
import Derived.Deep.DeepLaidRun
namespace Go.Proofs.YtgoaakdopbielaaDoor
open Go.RowKit Go.Shelf
set_option linter.unusedSimpArgs false
set_option linter.unusedVariables false
set_option linter.unusedSectionVars false

/-! Layer 9: numbers of 64 bits. -/
theorem parse_figs : ∀ (l : List UInt8) (acc : Nat), l.all isF = true → acc < 18446744073709551616 →
    Lib.parseUint10 acc l = if acc * 10 ^ l.length + undec l < 18446744073709551616 then .ok (acc * 10 ^ l.length + undec l) else .range
  | [], acc, _, h => by
    rw [show undec [] = 0 from rfl, List.length_nil, Nat.pow_zero, Nat.mul_one, Nat.add_zero, if_pos h]
    rfl
  | c :: r, acc, hf, h => by
    rw [List.all_cons, Bool.and_eq_true] at hf
    have hx := hf.1
    unfold isF at hx
    simp only [Bool.and_eq_true, decide_eq_true_eq] at hx
    have ht : acc * 10 ^ (c :: r).length + undec (c :: r) = (acc * 10 + (c.toNat - 48)) * 10 ^ r.length + undec r := by
      rw [undec_cons, List.length_cons, Nat.pow_succ, Nat.add_mul, Nat.mul_assoc acc 10, Nat.mul_comm 10]
      omega
    rw [ht]
    have hp : 1 ≤ 10 ^ r.length := Nat.one_le_pow _ _ (by decide)
    have hge : acc * 10 + (c.toNat - 48) ≤ (acc * 10 + (c.toNat - 48)) * 10 ^ r.length := Nat.le_mul_of_pos_right _ hp
    simp only [Lib.parseUint10]
    rw [if_pos (by omega)]
    split
    · rw [if_neg (by omega)]
    · split
      · rw [if_neg (by omega)]
      · exact parse_figs r _ hf.2 (by omega)
theorem mag_figs (l : List UInt8) (h : plainD l) : Lib.parseMag l = if undec l < 18446744073709551616 then .ok (undec l) else .range := by
  unfold Lib.parseMag
  rw [if_neg h.1, parse_figs l 0 h.2.1 (by decide), Nat.zero_mul, Nat.zero_add]
theorem atoi_right (l : List UInt8) (h : rightL l) : Lib.atoiAll l = if -9223372036854775808 ≤ zL l ∧ zL l ≤ 9223372036854775807 then .ok (zL l) else .range := by
  obtain ⟨_, hp, _⟩ := h
  have hm := mag_figs _ hp
  unfold zL
  rcases amt_cases l with ⟨r, rfl, h1, h2⟩ | ⟨hh, h1, h2⟩
  · rw [h1] at hp hm ⊢
    rw [h2, if_pos rfl]
    unfold Lib.atoiAll
    simp only [show (45 : UInt8).toNat = 45 from rfl, or_true, if_true, not_true_eq_false, false_and, if_false, true_and]
    rw [hm]
    generalize undec r = u
    by_cases hu : u < 18446744073709551616
    · rw [if_pos hu]
      simp only
      by_cases h9 : 9223372036854775808 < u
      · rw [if_pos h9, if_neg (by omega)]
      · rw [if_neg h9, if_pos (by omega)]
    · rw [if_neg hu]
      simp only
      rw [if_neg (by omega)]
  · rw [h1] at hp hm ⊢
    simp only [h2, Bool.false_eq_true, if_false]
    cases l with
    | nil => exact absurd rfl hp.1
    | cons c r =>
      have hf := hp.2.1
      rw [List.all_cons, Bool.and_eq_true] at hf
      have hx := hf.1
      unfold isF at hx
      simp only [Bool.and_eq_true, decide_eq_true_eq] at hx
      have c1 : ¬ c.toNat = 43 := by omega
      have c2 : ¬ c.toNat = 45 := by omega
      unfold Lib.atoiAll
      simp only [c1, c2, or_self, if_false, not_false_eq_true, true_and, false_and]
      rw [hm]
      generalize undec (c :: r) = u
      by_cases hu : u < 18446744073709551616
      · rw [if_pos hu]
        simp only
        by_cases h9 : 9223372036854775808 ≤ u
        · rw [if_pos h9, if_neg (by omega)]
        · rw [if_neg h9, if_pos (by omega)]
      · rw [if_neg hu]
        simp only
        rw [if_neg (by omega)]
theorem at_below {w w' : World} (h : w' = w ∨ ∃ t, w' = Lib.bytesWorld w 5 t) : Below w.heap.size w w' := by
  rcases h with rfl | ⟨t, rfl⟩
  · exact Below.refl _ _
  · exact Lib.bytesWorld_below _ _ _
theorem var_keep {n : String} {g : Nat} {w w' : World} {v : Array Value} (hg : Tryd.prog.globalNamed n = some g) (hb : Below w.heap.size w w') (h : w.var? Tryd.prog n = some v) : w'.var? Tryd.prog n = some v := by
  unfold World.var? at h ⊢
  rw [hg] at h ⊢
  simp only [Option.bind_some] at h ⊢
  have hlt : g < w.heap.size := by
    split at h
    · rename_i c t fr hh
      exact lt_of_block hh
    · cases h
  rw [hb.block g hlt]
  exact h
/-- What a number's text means to the machine. -/
def intT (l : List UInt8) : Int := if rightB l = true then (if -9223372036854775808 ≤ zL l ∧ zL l ≤ 9223372036854775807 then zL l else 0) else 0
def intTE (l : List UInt8) : Int := if rightB l = true then (if -9223372036854775808 ≤ zL l ∧ zL l ≤ 9223372036854775807 then 0 else 10) else 1
set_option maxHeartbeats 1600000 in
theorem Int_v (s : ByteArray) (w : World) (hs : s.size ≤ 1000) (hE : ∃ tp p, w.var? Tryd.prog "strconv.ErrRange" = some #[.iface tp p]) :
    Calls Tryd.prog 18 #[.string s] w fun e w' => e = .returned (.tuple #[.int .i64 (intT s.data.toList), .int .i64 (intTE s.data.toList)]) ∧ Below w.heap.size w w' := by
  have hr := fun w => right_v s w
  unfold intT intTE
  cases h : rightB s.data.toList with
  | false =>
    rw [h] at hr
    rw [if_neg (by decide), if_neg (by decide)]
    have HR := Lib.hid hr
    clear hr h hE
    go_enter Tryd.func18, Tryd.ntmps18
    go_wp2_with (go_at_call 21; with_reducible refine Calls.mono (HR.out _) ?_; rintro e w1 ⟨rfl, hb⟩; have HB := Lib.hid hb; clear hb)
    go_ret2
    exact ⟨by first | rfl | simp, HB.out⟩
  | true =>
    rw [h] at hr
    have ha := atoi_right _ ((rightB_iff _).mp h)
    rw [if_pos rfl, if_pos rfl]
    by_cases hin : -9223372036854775808 ≤ zL s.data.toList ∧ zL s.data.toList ≤ 9223372036854775807
    · rw [if_pos hin] at ha ⊢
      rw [if_pos hin]
      have hk := fun w => Tryd.strconv_Atoi_ok s (by omega) _ ha w
      generalize zL s.data.toList = z at *
      have HR := Lib.hid hr
      have HK := Lib.hid hk
      clear hr hk ha h hE hin
      go_enter Tryd.func18, Tryd.ntmps18
      go_wp2_with (first
        | (go_at_call 21; with_reducible refine Calls.mono (HR.out _) ?_; rintro e w1 ⟨rfl, hb⟩; have HB := Lib.hid hb; clear hb)
        | (go_at_call 37; refine Calls.mono (HK.out _) ?_; rintro e w2 ⟨rfl, hw⟩; have HB2 := Lib.hid (HB.out.trans (Below.mono (show Below w1.heap.size w1 w2 from at_below hw) HB.out.size)); clear hw))
      go_ret2
      exact ⟨by first | rfl | simp, HB2.out⟩
    · rw [if_neg hin] at ha ⊢
      rw [if_neg hin]
      obtain ⟨tp, p, hvar⟩ := hE
      have hv : ∀ W, Below w.heap.size w W → W.var? Tryd.prog "strconv.ErrRange" = some #[.iface tp p] := fun W hb => var_keep (g := 1) (by kernel_rfl) hb hvar
      have hk := fun W (hb : Below w.heap.size w W) => Tryd.strconv_Atoi_range_var s (by omega) ha tp p W (hv W hb)
      generalize Lib.atoiSat s.data.toList = z at *
      have HR := Lib.hid hr
      have HK := Lib.hid hk
      clear hr hk ha h hin hv hvar
      go_enter Tryd.func18, Tryd.ntmps18
      go_wp2_with (first
        | (go_at_call 21; with_reducible refine Calls.mono (HR.out _) ?_; rintro e w1 ⟨rfl, hb⟩; have HB := Lib.hid hb; clear hb)
        | (go_at_call 37; refine Calls.mono (HK.out _ HB.out) ?_; rintro e w2 ⟨N, rfl, _, _, hb⟩; have HB2 := Lib.hid (HB.out.trans (hb.mono HB.out.size)); clear hb))
      go_ret2
      exact ⟨by first | rfl | simp, HB2.out⟩
end Go.Proofs.YtgoaakdopbielaaDoor
namespace Go.Proofs.YtgoaakdopbielaaDoor
open Go.RowKit Go.Shelf
set_option linter.unusedSimpArgs false
set_option linter.unusedVariables false
set_option linter.unusedSectionVars false

/-! Layer 9, the document's own: how two numbers compare. -/
def cmpB (s t : List UInt8) : Int := if (rightB s && rightB t) = true then Lib.compareInt (zL s) (zL t) else 0
/-- The signs and the amounts of two numbers that are not the same. -/
theorem cmp_lt {x y : Int} (h : x < y) : (decide (x < 0) = true ∧ decide (y < 0) = false) ∨ (decide (x < 0) = false ∧ decide (y < 0) = false ∧ decide (x.natAbs < y.natAbs) = true) ∨ (decide (x < 0) = true ∧ decide (y < 0) = true ∧ decide (x.natAbs < y.natAbs) = false) := by
  simp only [decide_eq_true_eq, decide_eq_false_iff_not]
  omega
theorem cmp_gt {x y : Int} (h : y < x) : (decide (x < 0) = false ∧ decide (y < 0) = true) ∨ (decide (x < 0) = false ∧ decide (y < 0) = false ∧ decide (x.natAbs < y.natAbs) = false) ∨ (decide (x < 0) = true ∧ decide (y < 0) = true ∧ decide (x.natAbs < y.natAbs) = true) := by
  simp only [decide_eq_true_eq, decide_eq_false_iff_not]
  omega
set_option maxRecDepth 100000 in
set_option maxHeartbeats 3200000 in
theorem rcompare_v (s t : ByteArray) (w : World) (hs : s.size ≤ 200) (ht : t.size ≤ 200) :
    Calls Tryd.prog 24 #[.string s, .string t] w fun e w' => e = .returned (.int .i64 (cmpB s.data.toList t.data.toList)) ∧ Below w.heap.size w w' := by
  have HB := Lib.hid (Below.refl w.heap.size w)
  unfold cmpB
  cases hr : (rightB s.data.toList && rightB t.data.toList) with
  | false =>
    rw [if_neg (by decide)]
    have HRX := Lib.hid (fun w => rright_v s w (by omega))
    have HRY := Lib.hid (fun w => rright_v t w (by omega))
    clear hs ht
    generalize rightB s.data.toList = P at *
    generalize rightB t.data.toList = Q at *
    cases P <;> cases Q <;> first | (cases hr; done) | clear hr
    all_goals
      go_enter Tryd.func24, Tryd.ntmps24
      go_wp2_with (first
        | (go_at_call 22; with_reducible refine Calls.mono (HRX.out _) ?_; rintro e w3 ⟨rfl, hb3⟩; replace HB := Lib.hid (HB.out.trans (hb3.mono HB.out.size)); clear hb3 HRX)
        | (go_at_call 22; with_reducible refine Calls.mono (HRY.out _) ?_; rintro e w4 ⟨rfl, hb4⟩; replace HB := Lib.hid (HB.out.trans (hb4.mono HB.out.size)); clear hb4 HRY))
      go_ret
      exact ⟨by first | rfl | simp, HB.out⟩
  | true =>
    rw [if_pos rfl]
    rw [Bool.and_eq_true] at hr
    obtain ⟨x, hx, rfl⟩ := nB_of hr.1
    obtain ⟨y, hy, rfl⟩ := nB_of hr.2
    rw [(nB_right hx).2, (nB_right hy).2]
    have HAX := Lib.hid (fun w => amt_nB x hx w)
    have HAY := Lib.hid (fun w => amt_nB y hy w)
    have sx := abs_size hx
    have sy := abs_size hy
    have HRX := Lib.hid (fun w => right_nB x (by omega) w)
    have HRY := Lib.hid (fun w => right_nB y (by omega) w)
    have HLT := Lib.hid (fun w => rbelow_nn x.natAbs y.natAbs w)
    rw [decide_eq_true hx] at HRX
    rw [decide_eq_true hy] at HRY
    have h3 := cmp3 x y
    have h4 := fun h => cmp_lt (x := x) (y := y) h
    have h5 := fun h => cmp_gt (x := x) (y := y) h
    clear hs ht hr hx hy sx sy
    generalize nB x = X at *
    generalize nB y = Y at *
    generalize digB x.natAbs = A at *
    generalize digB y.natAbs = B at *
    generalize decide (x < 0) = m at *
    generalize decide (y < 0) = o at *
    generalize decide (x.natAbs < y.natAbs) = l at *
    rcases h3 with ⟨hlt, c1, _, c3⟩ | ⟨heq, c1, _, c3⟩ | ⟨hgt, c1, _, c3⟩
    · rw [c1]
      have h6 := h4 hlt
      clear c1 h4 h5 hlt
      rcases h6 with ⟨rfl, rfl⟩ | ⟨rfl, rfl, rfl⟩ | ⟨rfl, rfl, rfl⟩
      all_goals
        go_enter Tryd.func24, Tryd.ntmps24
        go_wp2_with (first
          | (go_at_call 22; with_reducible refine Calls.mono (HRX.out _) ?_; rintro e w3 ⟨rfl, hb3⟩; replace HB := Lib.hid (HB.out.trans (hb3.mono HB.out.size)); clear hb3 HRX)
          | (go_at_call 22; with_reducible refine Calls.mono (HRY.out _) ?_; rintro e w4 ⟨rfl, hb4⟩; replace HB := Lib.hid (HB.out.trans (hb4.mono HB.out.size)); clear hb4 HRY)
          | (go_at_call 38; with_reducible refine Calls.mono (HAX.out _) ?_; rintro e w1 ⟨rfl, hw1⟩; replace hw1 := hw1.symm; subst hw1; clear HAX)
          | (go_at_call 38; with_reducible refine Calls.mono (HAY.out _) ?_; rintro e w2 ⟨rfl, hw2⟩; replace hw2 := hw2.symm; subst hw2; clear HAY)
          | (go_at_call 39; with_reducible refine Calls.mono (HLT.out _) ?_; rintro e w7 ⟨rfl, hw7⟩; replace hw7 := hw7.symm; subst hw7))
        go_ret
        exact ⟨by first | rfl | simp, HB.out⟩
    · rw [c1]
      clear c1 h4 h5 heq
      go_enter Tryd.func24, Tryd.ntmps24
      go_wp2_with (first
        | (go_at_call 22; with_reducible refine Calls.mono (HRX.out _) ?_; rintro e w3 ⟨rfl, hb3⟩; replace HB := Lib.hid (HB.out.trans (hb3.mono HB.out.size)); clear hb3 HRX)
        | (go_at_call 22; with_reducible refine Calls.mono (HRY.out _) ?_; rintro e w4 ⟨rfl, hb4⟩; replace HB := Lib.hid (HB.out.trans (hb4.mono HB.out.size)); clear hb4 HRY))
      go_ret
      exact ⟨by first | rfl | simp, HB.out⟩
    · rw [c1]
      have h6 := h5 hgt
      clear c1 h4 h5 hgt
      rcases h6 with ⟨rfl, rfl⟩ | ⟨rfl, rfl, rfl⟩ | ⟨rfl, rfl, rfl⟩
      all_goals
        go_enter Tryd.func24, Tryd.ntmps24
        go_wp2_with (first
          | (go_at_call 22; with_reducible refine Calls.mono (HRX.out _) ?_; rintro e w3 ⟨rfl, hb3⟩; replace HB := Lib.hid (HB.out.trans (hb3.mono HB.out.size)); clear hb3 HRX)
          | (go_at_call 22; with_reducible refine Calls.mono (HRY.out _) ?_; rintro e w4 ⟨rfl, hb4⟩; replace HB := Lib.hid (HB.out.trans (hb4.mono HB.out.size)); clear hb4 HRY)
          | (go_at_call 38; with_reducible refine Calls.mono (HAX.out _) ?_; rintro e w1 ⟨rfl, hw1⟩; replace hw1 := hw1.symm; subst hw1; clear HAX)
          | (go_at_call 38; with_reducible refine Calls.mono (HAY.out _) ?_; rintro e w2 ⟨rfl, hw2⟩; replace hw2 := hw2.symm; subst hw2; clear HAY)
          | (go_at_call 39; with_reducible refine Calls.mono (HLT.out _) ?_; rintro e w7 ⟨rfl, hw7⟩; replace hw7 := hw7.symm; subst hw7))
        go_ret
        exact ⟨by first | rfl | simp, HB.out⟩
end Go.Proofs.YtgoaakdopbielaaDoor
namespace Go.Proofs.YtgoaakdopbielaaDoor
open Go.RowKit Go.Shelf
set_option linter.unusedSimpArgs false
set_option linter.unusedVariables false
set_option linter.unusedSectionVars false

/-! Layer 9, the document's own: numbers of 64 bits. -/
def topN (m : Bool) : Nat := if m = true then 9223372036854775808 else 9223372036854775807
theorem undec_take_le (l : List UInt8) (i : Nat) : undec (l.take i) ≤ undec l := by
  have h := undec_app (l.take i) (l.drop i)
  rw [List.take_append_drop] at h
  have hp : 1 ≤ 10 ^ (l.drop i).length := Nat.one_le_pow _ _ (by decide)
  have : undec (l.take i) * 1 ≤ undec (l.take i) * 10 ^ (l.drop i).length := Nat.mul_le_mul_left _ hp
  omega
theorem undec_take_step (a i : Nat) (hi : i < (Lib.decDigits a).length) : ∃ x : UInt8, (Lib.decDigits a)[i]? = some x ∧ byteN (digB a) i = x.toNat ∧ 48 ≤ x.toNat ∧ x.toNat ≤ 57 ∧ undec ((Lib.decDigits a).take (i + 1)) = 10 * undec ((Lib.decDigits a).take i) + (x.toNat - 48) := by
  have hx : (Lib.decDigits a)[i]? = some (Lib.decDigits a)[i] := List.getElem?_eq_getElem hi
  have hf := List.all_eq_true.mp (dec_plain a).2.1 _ (List.mem_of_getElem? hx)
  obtain ⟨_, _, h48, h57⟩ := fig_back _ hf
  refine ⟨_, hx, ?_, h48, h57, ?_⟩
  · unfold byteN
    rw [digB_list, List.getD_eq_getElem?_getD, hx]; rfl
  · have hsn := List.take_add_one (l := Lib.decDigits a) (i := i)
    rw [hx] at hsn
    rw [hsn, show (some (Lib.decDigits a)[i]).toList = [(Lib.decDigits a)[i]] from rfl, undec_snoc]
theorem topB_neg : (⟨#[57, 50, 50, 51, 51, 55, 50, 48, 51, 54, 56, 53, 52, 55, 55, 53, 56, 48, 56]⟩ : ByteArray) = digB (topN true) := by decide +kernel
theorem topB_pos : (⟨#[57, 50, 50, 51, 51, 55, 50, 48, 51, 54, 56, 53, 52, 55, 55, 53, 56, 48, 55]⟩ : ByteArray) = digB (topN false) := by decide +kernel
set_option maxRecDepth 100000 in
set_option maxHeartbeats 3200000 in
theorem rint_nB (x : Int) (w : World) (hx : x.natAbs < LIM) :
    Calls Tryd.prog 19 #[.string (nB x)] w fun e w' => e = .returned (.tuple #[.int .i64 (if -9223372036854775808 ≤ x ∧ x ≤ 9223372036854775807 then x else 0), .int .i64 (if -9223372036854775808 ≤ x ∧ x ≤ 9223372036854775807 then 0 else 10)]) ∧ Below w.heap.size w w' := by
  have HB := Lib.hid (Below.refl w.heap.size w)
  have HAX := Lib.hid (fun w => amt_nB x hx w)
  have sx := abs_size hx
  have HRX := Lib.hid (fun w => right_nB x (by omega) w)
  rw [decide_eq_true hx] at HRX
  have hself := sgn_self x
  have HL := Lib.hid (fun w => rbelow_nn (topN (decide (x < 0))) x.natAbs w)
  have hin : (-9223372036854775808 ≤ x ∧ x ≤ 9223372036854775807) ↔ ¬ topN (decide (x < 0)) < x.natAbs := by
    unfold topN
    by_cases h : x < 0
    · rw [decide_eq_true h, if_pos rfl]; omega
    · rw [decide_eq_false h, if_neg (by decide)]; omega
  have HN := Lib.hid topB_neg
  have HP := Lib.hid topB_pos
  by_cases hbig : topN (decide (x < 0)) < x.natAbs
  · rw [if_neg (by rw [hin]; exact fun h => h hbig), if_neg (by rw [hin]; exact fun h => h hbig)]
    rw [decide_eq_true hbig] at HL
    clear hbig hin hself sx hx
    generalize nB x = X at *
    generalize digB x.natAbs = A at *
    generalize decide (x < 0) = m at *
    cases m
    · rw [← HP.out] at HL
      go_enter Tryd.func19, Tryd.ntmps19
      go_wp2_with (first
        | (go_at_call 38; with_reducible refine Calls.mono (HAX.out _) ?_; rintro e w1 ⟨rfl, hw1⟩; replace hw1 := hw1.symm; subst hw1; clear HAX)
        | (go_at_call 22; with_reducible refine Calls.mono (HRX.out _) ?_; rintro e w3 ⟨rfl, hb3⟩; replace HB := Lib.hid (HB.out.trans (hb3.mono HB.out.size)); clear hb3 HRX)
        | (go_at_call 39; with_reducible refine Calls.mono (HL.out _) ?_; rintro e w7 ⟨rfl, hw7⟩; replace hw7 := hw7.symm; subst hw7))
      go_ret2
      exact ⟨by first | rfl | simp, HB.out⟩
    · rw [← HN.out] at HL
      go_enter Tryd.func19, Tryd.ntmps19
      go_wp2_with (first
        | (go_at_call 38; with_reducible refine Calls.mono (HAX.out _) ?_; rintro e w1 ⟨rfl, hw1⟩; replace hw1 := hw1.symm; subst hw1; clear HAX)
        | (go_at_call 22; with_reducible refine Calls.mono (HRX.out _) ?_; rintro e w3 ⟨rfl, hb3⟩; replace HB := Lib.hid (HB.out.trans (hb3.mono HB.out.size)); clear hb3 HRX)
        | (go_at_call 39; with_reducible refine Calls.mono (HL.out _) ?_; rintro e w7 ⟨rfl, hw7⟩; replace hw7 := hw7.symm; subst hw7))
      go_ret2
      exact ⟨by first | rfl | simp, HB.out⟩
  · rw [if_pos (hin.mpr hbig), if_pos (hin.mpr hbig)]
    rw [decide_eq_false hbig] at HL
    obtain ⟨n, hn⟩ : ∃ n, (digB x.natAbs).size = n := ⟨_, rfl⟩
    have hnl : (Lib.decDigits x.natAbs).length = n := by rw [← hn, digB_size]
    have hle : x.natAbs ≤ topN (decide (x < 0)) := Nat.le_of_not_lt hbig
    have HX : Hid (∀ i, i < n → ∃ c p, byteN (digB x.natAbs) i = c ∧ 48 ≤ c ∧ c ≤ 57 ∧ p = undec ((Lib.decDigits x.natAbs).take i) ∧ 10 * p + (c - 48) = undec ((Lib.decDigits x.natAbs).take (i + 1)) ∧ undec ((Lib.decDigits x.natAbs).take (i + 1)) ≤ x.natAbs ∧ True) := Lib.hid (fun i hi => by
      obtain ⟨u, h1, h2, h3, h4, h5⟩ := undec_take_step x.natAbs i (by omega)
      refine ⟨u.toNat, _, h2, h3, h4, rfl, h5.symm, ?_, trivial⟩
      have := undec_take_le (Lib.decDigits x.natAbs) (i + 1)
      rwa [undec_dec] at this)
    have HF : Hid (∀ i p, i = n → p = undec ((Lib.decDigits x.natAbs).take i) → (if decide (x < 0) = true then -(p : Int) else (p : Int)) = x) := Lib.hid (fun i p h1 h2 => by
      rw [h1, ← hnl, List.take_length, undec_dec] at h2
      rw [h2]; exact hself)
    have H0 : Hid (0 = undec ((Lib.decDigits x.natAbs).take 0)) := Lib.hid rfl
    have hsx : n ≤ 155 := by omega
    clear hbig hin hself sx hx
    generalize nB x = X at *
    generalize hA : digB x.natAbs = A at *
    have hni : (A.size : Int) = (n : Int) := by omega
    clear hA hnl
    generalize decide (x < 0) = m at *
    unfold topN at hle
    cases m
    · rw [← HP.out] at HL
      have HLE : Hid (x.natAbs ≤ 9223372036854775807) := Lib.hid (by simpa using hle)
      have HF2 : Hid (∀ i p : Nat, i = n → p = undec ((Lib.decDigits x.natAbs).take i) → (p : Int) = x) := Lib.hid (fun i p h1 h2 => by simpa using HF.out i p h1 h2)
      clear hle HF
      go_enter Tryd.func19, Tryd.ntmps19
      go_wp2_with (first
        | (go_at_call 38; with_reducible refine Calls.mono (HAX.out _) ?_; rintro e w1 ⟨rfl, hw1⟩; replace hw1 := hw1.symm; subst hw1; clear HAX)
        | (go_at_call 22; with_reducible refine Calls.mono (HRX.out _) ?_; rintro e w3 ⟨rfl, hb3⟩; replace HB := Lib.hid (HB.out.trans (hb3.mono HB.out.size)); clear hb3 HRX)
        | (go_at_call 39; with_reducible refine Calls.mono (HL.out _) ?_; rintro e w7 ⟨rfl, hw7⟩; replace hw7 := hw7.symm; subst hw7))
      generalize hW7 : w3 = W7 at *
      go_loopw [8, 9] (fun nv iv wr => ∃ (i p : Nat), iv = .int .i64 i ∧ i ≤ n ∧ nv = .int .i64 ((p : Int)) ∧ p = undec ((Lib.decDigits x.natAbs).take i) ∧ wr = W7) (fun _ iv _ => n - (intOf iv).toNat)
      case atStart => exact ⟨0, 0, rfl, by omega, rfl, H0.out, rfl⟩
      case round =>
        obtain ⟨i, p, rfl, hi, rfl, hp, hwr⟩ := hrel
        have HPI := Lib.hid hp
        generalize wr = WW at *
        subst hwr
        clear hp
        by_cases hlt : i < n
        · have hlti : (i : Int) < (n : Int) := by omega
          obtain ⟨c, p2, h1, h2, h3, h4, h5, h6, h7⟩ := HX.out i hlt
          have hbyte := str_byte A i (by omega)
          rw [h1] at hbyte
          rw [← HPI.out] at h4
          subst h4
          obtain ⟨d, hd⟩ : ∃ d, c - 48 = d := ⟨_, rfl⟩
          have hd1 : (c : Int) - 48 = (d : Int) := by omega
          obtain ⟨p3, hp3⟩ : ∃ p3, undec ((Lib.decDigits x.natAbs).take (i + 1)) = p3 := ⟨_, rfl⟩
          have HP3 := Lib.hid hp3.symm
          rw [hp3] at h5 h6
          have hb3 : p3 ≤ 9223372036854775807 := by have := HLE.out; omega
          rw [hd] at h5
          have q0 : IntKind.u8.wrap (d : Int) = (d : Int) := IntWalk.u8_in _ (by omega)
          have q1 : IntKind.i64.wrap (d : Int) = (d : Int) := IntWalk.i64_in _ (by omega)
          have q2 : IntKind.i64.wrap (10 * ((p2 : Int))) = 10 * ((p2 : Int)) := IntWalk.i64_in _ (by omega)
          have q3 : 10 * ((p2 : Int)) + (d : Int) = (p3 : Int) := by omega
          have q4 : IntKind.i64.wrap ((p3 : Int)) = (p3 : Int) := IntWalk.i64_in _ (by omega)
          clear h1 h7 hp3 hd HPI
          go_wp2_with fail
          go_roundw
          case rel => exact ⟨i + 1, p3, by go_num, by omega, rfl, HP3.out, by first | rfl | trivial⟩
          case measure => simp [intOf]; omega
        · have hie : i = n := by omega
          have hlti : ¬ (i : Int) < (n : Int) := by omega
          have hfin := HF2.out i p hie HPI.out
          go_wp2_with fail
          go_ret2
          exact ⟨by first | (rw [hfin]; rfl) | (simp [hfin]), HB.out⟩
    · rw [← HN.out] at HL
      have HLE : Hid (x.natAbs ≤ 9223372036854775808) := Lib.hid (by simpa using hle)
      have HF2 : Hid (∀ i p : Nat, i = n → p = undec ((Lib.decDigits x.natAbs).take i) → -(p : Int) = x) := Lib.hid (fun i p h1 h2 => by simpa using HF.out i p h1 h2)
      clear hle HF
      go_enter Tryd.func19, Tryd.ntmps19
      go_wp2_with (first
        | (go_at_call 38; with_reducible refine Calls.mono (HAX.out _) ?_; rintro e w1 ⟨rfl, hw1⟩; replace hw1 := hw1.symm; subst hw1; clear HAX)
        | (go_at_call 22; with_reducible refine Calls.mono (HRX.out _) ?_; rintro e w3 ⟨rfl, hb3⟩; replace HB := Lib.hid (HB.out.trans (hb3.mono HB.out.size)); clear hb3 HRX)
        | (go_at_call 39; with_reducible refine Calls.mono (HL.out _) ?_; rintro e w7 ⟨rfl, hw7⟩; replace hw7 := hw7.symm; subst hw7))
      generalize hW7 : w3 = W7 at *
      go_loopw [8, 9] (fun nv iv wr => ∃ (i p : Nat), iv = .int .i64 i ∧ i ≤ n ∧ nv = .int .i64 (-(p : Int)) ∧ p = undec ((Lib.decDigits x.natAbs).take i) ∧ wr = W7) (fun _ iv _ => n - (intOf iv).toNat)
      case atStart => exact ⟨0, 0, rfl, by omega, rfl, H0.out, rfl⟩
      case round =>
        obtain ⟨i, p, rfl, hi, rfl, hp, hwr⟩ := hrel
        have HPI := Lib.hid hp
        generalize wr = WW at *
        subst hwr
        clear hp
        by_cases hlt : i < n
        · have hlti : (i : Int) < (n : Int) := by omega
          obtain ⟨c, p2, h1, h2, h3, h4, h5, h6, h7⟩ := HX.out i hlt
          have hbyte := str_byte A i (by omega)
          rw [h1] at hbyte
          rw [← HPI.out] at h4
          subst h4
          obtain ⟨d, hd⟩ : ∃ d, c - 48 = d := ⟨_, rfl⟩
          have hd1 : (c : Int) - 48 = (d : Int) := by omega
          obtain ⟨p3, hp3⟩ : ∃ p3, undec ((Lib.decDigits x.natAbs).take (i + 1)) = p3 := ⟨_, rfl⟩
          have HP3 := Lib.hid hp3.symm
          rw [hp3] at h5 h6
          have hb3 : p3 ≤ 9223372036854775808 := by have := HLE.out; omega
          rw [hd] at h5
          have q0 : IntKind.u8.wrap (d : Int) = (d : Int) := IntWalk.u8_in _ (by omega)
          have q1 : IntKind.i64.wrap (d : Int) = (d : Int) := IntWalk.i64_in _ (by omega)
          have q2 : IntKind.i64.wrap (10 * (-(p2 : Int))) = 10 * (-(p2 : Int)) := IntWalk.i64_in _ (by omega)
          have q3 : 10 * (-(p2 : Int)) - (d : Int) = -(p3 : Int) := by omega
          have q4 : IntKind.i64.wrap (-(p3 : Int)) = -(p3 : Int) := IntWalk.i64_in _ (by omega)
          clear h1 h7 hp3 hd HPI
          go_wp2_with fail
          go_roundw
          case rel => exact ⟨i + 1, p3, by go_num, by omega, rfl, HP3.out, by first | rfl | trivial⟩
          case measure => simp [intOf]; omega
        · have hie : i = n := by omega
          have hlti : ¬ (i : Int) < (n : Int) := by omega
          have hfin := HF2.out i p hie HPI.out
          go_wp2_with fail
          go_ret2
          exact ⟨by first | (rw [hfin]; rfl) | (simp [hfin]), HB.out⟩
theorem rint_v (s : ByteArray) (w : World) (hs : s.size ≤ 200) :
    Calls Tryd.prog 19 #[.string s] w fun e w' => e = .returned (.tuple #[.int .i64 (intT s.data.toList), .int .i64 (intTE s.data.toList)]) ∧ Below w.heap.size w w' := by
  unfold intT intTE
  cases hr : rightB s.data.toList with
  | true =>
    obtain ⟨x, hx, rfl⟩ := nB_of hr
    rw [if_pos rfl, if_pos rfl, (nB_right hx).2]
    exact rint_nB x w hx
  | false =>
    rw [if_neg (by decide), if_neg (by decide)]
    have HB := Lib.hid (Below.refl w.heap.size w)
    have HAX := Lib.hid (fun w => ramount_v s w (by omega))
    have HRX := Lib.hid (fun w => rright_v s w (by omega))
    rw [hr] at HRX
    clear hs hr
    generalize (if numB s = true then amtB s else ⟨#[]⟩) = F1 at *
    generalize (numB s && signL s.data.toList) = m1 at *
    generalize numB s = n1 at *
    go_enter Tryd.func19, Tryd.ntmps19
    go_wp2_with (first
      | (go_at_call 38; with_reducible refine Calls.mono (HAX.out _) ?_; rintro e w1 ⟨rfl, hw1⟩; replace hw1 := hw1.symm; subst hw1; clear HAX)
      | (go_at_call 22; with_reducible refine Calls.mono (HRX.out _) ?_; rintro e w3 ⟨rfl, hb3⟩; replace HB := Lib.hid (HB.out.trans (hb3.mono HB.out.size)); clear hb3 HRX))
    go_ret2
    exact ⟨by first | rfl | simp, HB.out⟩
end Go.Proofs.YtgoaakdopbielaaDoor
namespace Go.Proofs.YtgoaakdopbielaaDoor
open Go.RowKit Go.Shelf Go.ChangeShapes
set_option linter.unusedSimpArgs false
set_option linter.unusedVariables false
set_option linter.unusedSectionVars false

/-! Layer 9: what the list of variables with the two errors gives, and a world that has it. -/
theorem gES : Tryd.prog.globalNamed "strconv.ErrSyntax" = some 0 := by kernel_rfl
theorem gEST : (Tryd.prog.globals[0]?).map (·.type) = some 51 := by kernel_rfl
theorem gER : Tryd.prog.globalNamed "strconv.ErrRange" = some 1 := by kernel_rfl
theorem gERT : (Tryd.prog.globals[1]?).map (·.type) = some 51 := by kernel_rfl
theorem cellsES : Tryd.prog.cellsOf 112 = 1 := by kernel_rfl
theorem cellsS : Tryd.prog.cellsOf 9 = 1 := by kernel_rfl
theorem starES : "*" ++ "errors.errorString" = "*errors.errorString" := by decide
theorem rowES (u : TypeId) (h : Tryd.prog.typeName? 3 u = some "*errors.errorString") : u = 110 :=
  typeName_ptr_named (nm := "errors.errorString") (by rw [starES]; kernel_rfl) (by kernel_rfl) (by decide) u (by rw [starES]; exact h)
def EnvT (w : World) : Prop := EnvB w ∧ ∃ tp p, w.var? Tryd.prog "strconv.ErrRange" = some #[.iface tp p]
theorem EnvT.below {w w' : World} (h : EnvT w) (hb : Below w.heap.size w w') : EnvT w' := by
  obtain ⟨h1, tp, p, h2⟩ := h
  exact ⟨h1.below hb, tp, p, var_keep (g := 1) gER hb h2⟩
abbrev laidT : List (String × DataW Unit) := Rows.bigTellsRow.laid
theorem env_ofT {W : World} (h : laidMetH Tryd.prog laidT W) (hs : W.ShapedOpen Tryd.prog) : EnvT W := by
  replace h : laidMet Tryd.prog laidT W := h
  have hR := h.tail.tail.tail
  obtain ⟨a0, s0, hv0, -, -, -⟩ := laid_sentinel hR gER gERT Tryd.underlying51 rowES Tryd.underlying110 Tryd.underlying112 rfl rfl Tryd.underlying9 cellsES cellsS
  exact ⟨Lib.tabIs_of_head (t := 115) (e := 91) (n := 20) gP10 (by kernel_rfl) Tryd.underlying115 Tryd.underlying91 (by kernel_rfl) (by kernel_rfl) h.tail.tail, _, _, hv0⟩

/-! A world for the witness. -/
abbrev synS : ByteArray := { data := #[105, 110, 118, 97, 108, 105, 100, 32, 115, 121, 110, 116, 97, 120] }
abbrev rngS : ByteArray := { data := #[118, 97, 108, 117, 101, 32, 111, 117, 116, 32, 111, 102, 32, 114, 97, 110, 103, 101] }
noncomputable def lowT : Nat := (World.holding Tryd.prog default ⟨#[], #[], []⟩).heap.size
noncomputable def laidWorldT (os : Os) : World :=
  let w0 := World.holding Tryd.prog os ⟨#[.cells #[.string synS] 112, .cells #[.string rngS] 112], #[], []⟩
  let h0 := laysAt w0.heap 0 #[.iface 110 (.pointer (some ⟨lowT, 0, none⟩))]
  let h1 := laysAt h0 1 #[.iface 110 (.pointer (some ⟨lowT + 1, 0, none⟩))]
  let h2 := laysAt h1 2 (numsV .u64 pow10Z)
  let h5 := laysAt h2 4 (numsV .u8 db32Z)
  let h6 := laysAt h5 5 (numsV .u8 db64Z)
  { w0 with heap := h6 }
set_option maxRecDepth 100000 in
theorem laid_metT (os : Os) (args : Array Value) : laidMet Tryd.prog laidT ((laidWorldT os).forCall (fun _ _ => 0) ⟨#[], args, []⟩).memory :=
  laidMet_of_run3 8 (by kernel_rfl) (by kernel_rfl) (by kernel_rfl)
end Go.Proofs.YtgoaakdopbielaaDoor
namespace Go.Proofs.YtgoaakdopbielaaDoor
open Go.RowKit Go.Shelf
set_option linter.unusedSimpArgs false
set_option linter.unusedVariables false
set_option linter.unusedSectionVars false

/-! Layer 9: the law of which texts are numbers. -/
theorem int_nB (z : Int) (h0 : -9223372036854775808 ≤ z) (h1 : z ≤ 9223372036854775807) : intT (nB z).data.toList = z ∧ intTE (nB z).data.toList = 0 := by
  have h := nB_right (lim_small z (by omega))
  unfold intT intTE
  rw [h.1, if_pos rfl, if_pos rfl, h.2, if_pos ⟨h0, h1⟩, if_pos ⟨h0, h1⟩]
  exact ⟨rfl, rfl⟩
set_option maxRecDepth 100000 in
set_option maxHeartbeats 3200000 in
theorem tells_v (s t : ByteArray) (z : Int) (w : World) (h0 : -9223372036854775808 ≤ z) (h1 : z ≤ 9223372036854775807) (hE : EnvT w) : Calls Tryd.prog 4 #[.string s, .string t, .int .i64 z] w fun e w' => e = .returned (.bool true) ∧ Below w.heap.size w w' := by
  have HB := Lib.hid (Below.refl w.heap.size w)
  by_cases hs : s.size ≤ 200
  · have i1 : ¬ (200 : Int) < (s.size : Int) := by omega
    by_cases ht : t.size ≤ 200
    · have i2 : ¬ (200 : Int) < (t.size : Int) := by omega
      have H1 := Lib.hid (fun w (hE : EnvT w) => Int_v s w (by omega) hE.2)
      have H2 := Lib.hid (fun w => rint_v s w hs)
      have H3 := Lib.hid (fun w (hE : EnvT w) => Text_v z h0 h1 w hE.1)
      have hz : (⟨(Lib.itoa z).toArray⟩ : ByteArray) = nB z := rfl
      rw [hz] at H3
      have hsz : (nB z).size ≤ 1000 := by
        have h3 := nB_size z
        have h4 := abs_size (lim_small z (by omega))
        omega
      have h4 := fun w (hE : EnvT w) => Int_v (nB z) w hsz hE.2
      rw [(int_nB z h0 h1).1, (int_nB z h0 h1).2] at h4
      have H4 := Lib.hid h4
      have H5 := Lib.hid (fun w => right_v s w)
      have H6 := Lib.hid (fun w => rright_v s w (by omega))
      have h7 := fun w => Compare_v s t w
      have h8 := fun w => rcompare_v s t w hs ht
      unfold cmpB at h8
      have H7 := Lib.hid h7
      have H8 := Lib.hid h8
      have HAW := Lib.hid (fun w (hE : EnvT w) => awake_v w hE.1)
      have HE := Lib.hid hE
      clear hE hs ht h0 h1 hz hsz h4 h7 h8
      generalize (if (rightB s.data.toList && rightB t.data.toList) = true then Lib.compareInt (zL s.data.toList) (zL t.data.toList) else 0) = C at *
      generalize intT s.data.toList = I1 at *
      generalize intTE s.data.toList = I2 at *
      generalize rightB s.data.toList = R at *
      generalize nB z = Z at *
      have hRR : (R == R) = true := by simp
      go_enter Tryd.func4, Tryd.ntmps4
      go_wp2_with (first
        | (go_at_call 18; with_reducible refine Calls.mono (H1.out _ (HE.out.below HB.out)) ?_; rintro e w1 ⟨rfl, hb⟩; replace HB := Lib.hid (HB.out.trans (hb.mono HB.out.size)); clear hb)
        | (go_at_call 18; with_reducible refine Calls.mono (H4.out _ (HE.out.below HB.out)) ?_; rintro e w1 ⟨rfl, hb⟩; replace HB := Lib.hid (HB.out.trans (hb.mono HB.out.size)); clear hb)
        | (go_at_call 19; with_reducible refine Calls.mono (H2.out _) ?_; rintro e w2 ⟨rfl, hb⟩; replace HB := Lib.hid (HB.out.trans (hb.mono HB.out.size)); clear hb)
        | (go_at_call 20; with_reducible refine Calls.mono (H3.out _ (HE.out.below HB.out)) ?_; rintro e w3 ⟨rfl, hb⟩; replace HB := Lib.hid (HB.out.trans (hb.mono HB.out.size)); clear hb)
        | (go_at_call 21; with_reducible refine Calls.mono (H5.out _) ?_; rintro e w5 ⟨rfl, hb⟩; replace HB := Lib.hid (HB.out.trans (hb.mono HB.out.size)); clear hb)
        | (go_at_call 22; with_reducible refine Calls.mono (H6.out _) ?_; rintro e w6 ⟨rfl, hb⟩; replace HB := Lib.hid (HB.out.trans (hb.mono HB.out.size)); clear hb)
        | (go_at_call 23; with_reducible refine Calls.mono (H7.out _) ?_; rintro e w7 ⟨rfl, hb⟩; replace HB := Lib.hid (HB.out.trans (hb.mono HB.out.size)); clear hb)
        | (go_at_call 24; with_reducible refine Calls.mono (H8.out _) ?_; rintro e w8 ⟨rfl, hb⟩; replace HB := Lib.hid (HB.out.trans (hb.mono HB.out.size)); clear hb)
        | (go_at_call 17; with_reducible refine Calls.mono (HAW.out _ (HE.out.below HB.out)) ?_; rintro e w9 ⟨rfl, hb⟩; replace HB := Lib.hid (HB.out.trans (hb.mono HB.out.size)); clear hb))
      go_ret
      exact ⟨by first | rfl | simp, HB.out⟩
    · have i2 : (200 : Int) < (t.size : Int) := by omega
      go_enter Tryd.func4, Tryd.ntmps4
      go_wp2_with fail
      go_ret
      exact ⟨by first | rfl | simp, HB.out⟩
  · have i1 : (200 : Int) < (s.size : Int) := by omega
    go_enter Tryd.func4, Tryd.ntmps4
    go_wp2_with fail
    go_ret
    exact ⟨by first | rfl | simp, HB.out⟩
theorem tells_w (s t : ByteArray) (z : Int) (w : World) (w0 : (Lit.int .i64 z).wf = true) (hE : EnvT w) : Calls Tryd.prog 4 #[.string s, .string t, .int .i64 z] w fun e w' => e = .returned (.bool true) ∧ Below w.heap.size w w' := by
  have z1 : IntKind.i64.min = -9223372036854775808 := rfl
  have z2 : IntKind.i64.max = 9223372036854775807 := rfl
  have hn : (-9223372036854775808 : Int) ≤ z ∧ z ≤ 9223372036854775807 := by simp [Lit.wf, z1, z2] at w0; omega
  exact tells_v s t z w hn.1 hn.2 hE
end Go.Proofs.YtgoaakdopbielaaDoor
