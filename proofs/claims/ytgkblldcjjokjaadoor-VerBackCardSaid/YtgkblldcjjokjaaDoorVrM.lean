import Derived.Test.YtgkblldcjjokjaaDoorVrK
import Derived.Deep.RegionLaw
namespace Go.Proofs.YtgkblldcjjokjaaDoor
open Go.RowKit Go.Shelf
set_option linter.unusedSimpArgs false
set_option linter.unusedVariables false
set_option linter.unusedSectionVars false

/-! Layer 4: a version's text with something behind it. -/
def mkS (M : Nat) (t : List UInt8) : ByteArray := ⟨([49, 46] ++ (Lib.decDigits M ++ t)).toArray⟩
theorem mk_eq {a : ByteArray} {l : List UInt8} (h : a.data.toList = l) : a = ⟨l.toArray⟩ := by
  apply ByteArray.ext
  exact Array.toList_inj.1 (by rw [h])
theorem dig_all : ∀ M, M < 100 → (Lib.decDigits M).all isD = true := by decide +kernel
theorem dig_atoi0 : ∀ M, M < 100 → (match Lib.atoiAll (Lib.decDigits M) with | .ok v => v == (M : Int) | _ => false) = true := by decide +kernel
theorem dig_atoi (M : Nat) (h : M < 100) : Lib.atoiAll (Lib.decDigits M) = .ok (M : Int) := by
  have := dig_atoi0 M h
  split at this
  · rename_i v hv
    rw [hv, show v = (M : Int) from by simpa using this]
  · cases this
theorem mk_lead (M : Nat) (t : List UInt8) : hasV (mkS M t) ⟨#[49, 46]⟩ = true ∧ (leadV (mkS M t) ⟨#[49, 46]⟩).data.toList = Lib.decDigits M ++ t := by
  have hh : Lib.hasPrefix ([49, 46] ++ (Lib.decDigits M ++ t)) [49, 46] = true := by unfold Lib.hasPrefix; exact List.isPrefixOf_iff_prefix.2 (List.prefix_append _ _)
  refine ⟨hh, ?_⟩
  show Lib.trimPrefix ([49, 46] ++ (Lib.decDigits M ++ t)) [49, 46] = _
  unfold Lib.trimPrefix
  rw [if_pos hh]
  rfl
theorem mk_minor (M : Nat) (t : List UInt8) (hM : M < 100) (ht : ∀ b r, t = b :: r → isD b = false) :
    minorW (mkS M t) = if endV ⟨t.toArray⟩ = true then some M else none := by
  obtain ⟨h1, h2⟩ := mk_lead M t
  have hd := List.all_eq_true.1 (dig_all M hM)
  have hk : figK (leadV (mkS M t) ⟨#[49, 46]⟩) = (Lib.decDigits M).length := by
    unfold figK
    rw [h2, List.takeWhile_append_of_pos hd]
    cases t with
    | nil => simp
    | cons b r => rw [List.takeWhile_cons, ht b r rfl]; simp
  have hD : (digsV (leadV (mkS M t) ⟨#[49, 46]⟩)).data.toList = Lib.decDigits M := by rw [digs_list, hk, h2, List.take_left]
  have hB : (behV (leadV (mkS M t) ⟨#[49, 46]⟩)).data.toList = t := by rw [beh_list, hk, h2, List.drop_left]
  have hD2 := mk_eq hD
  have hB2 := mk_eq hB
  have hm : (M : Int) ≤ 99 := by omega
  unfold minorW
  rw [hD, dig_atoi M hM]
  show (if _ then _ else _) = _
  rw [hD2, hB2, h1, Int.toNat_natCast]
  by_cases he : endV ⟨t.toArray⟩ = true
  · rw [if_pos ⟨rfl, hm, rfl, he⟩, if_pos he]
  · rw [if_neg (fun h => he h.2.2.2), if_neg he]
theorem text_list (M : Nat) (h : M < 100) : (textF (M : Int)).data.toList = [49, 46] ++ Lib.decDigits M := by
  unfold textF
  rw [if_neg (by omega), Int.toNat_natCast, app_list]
theorem text_two (M : Nat) (h : M < 100) : (textF (M : Int)).size = 2 + (Lib.decDigits M).length := by
  have := congrArg List.length (text_list M h)
  rw [List.length_append, Array.length_toList] at this
  exact this
theorem text_tail (K : Nat) (h : K < 100) : ((textF (K : Int)).extract 2 (textF (K : Int)).size).data.toList = Lib.decDigits K := by
  rw [extract_list, text_list K h, text_two K h]
  have e : ([49, 46] ++ Lib.decDigits K : List UInt8).drop 2 = Lib.decDigits K := rfl
  rw [e]
  exact List.take_of_length_le (by omega)
theorem text_mk (M K : Nat) (p : List UInt8) (hM : M < 100) (hK : K < 100) : textF (M : Int) ++ ⟨p.toArray⟩ ++ (textF (K : Int)).extract 2 (textF (K : Int)).size = mkS M (p ++ Lib.decDigits K) := by
  rw [mk_eq (a := textF (M : Int) ++ ⟨p.toArray⟩ ++ (textF (K : Int)).extract 2 (textF (K : Int)).size) rfl, app_list, app_list, text_list M hM, text_tail K hK]
  unfold mkS
  simp
theorem end_dot : ∀ K, K < 100 → endV ⟨([46] ++ Lib.decDigits K).toArray⟩ = true := by decide +kernel
theorem end_rc : ∀ K, K < 100 → endV ⟨([114, 99] ++ Lib.decDigits K).toArray⟩ = true := by decide +kernel
theorem end_beta : ∀ K, K < 100 → endV ⟨([98, 101, 116, 97] ++ Lib.decDigits K).toArray⟩ = true := by decide +kernel
theorem end_x : ∀ K, K < 100 → endV ⟨([120] ++ Lib.decDigits K).toArray⟩ = false := by decide +kernel
theorem rest_ok (M K : Nat) (b : UInt8) (p : List UInt8) (hM : M < 100) (hK : K < 100) (hb : isD b = false) (he : endV ⟨(b :: p ++ Lib.decDigits K).toArray⟩ = true) :
    minorI (textF (M : Int) ++ ⟨(b :: p).toArray⟩ ++ (textF (K : Int)).extract 2 (textF (K : Int)).size) = M ∧ minorE (textF (M : Int) ++ ⟨(b :: p).toArray⟩ ++ (textF (K : Int)).extract 2 (textF (K : Int)).size) = 0 := by
  have h := mk_minor M (b :: p ++ Lib.decDigits K) hM (fun c r e => by cases e; exact hb)
  rw [if_pos he] at h
  rw [text_mk M K _ hM hK]
  unfold minorI minorE
  rw [h]
  exact ⟨rfl, rfl⟩
theorem rest_no (M K : Nat) (b : UInt8) (p : List UInt8) (hM : M < 100) (hK : K < 100) (hb : isD b = false) (he : endV ⟨(b :: p ++ Lib.decDigits K).toArray⟩ = false) :
    minorE (textF (M : Int) ++ ⟨(b :: p).toArray⟩ ++ (textF (K : Int)).extract 2 (textF (K : Int)).size) = 6 := by
  have h := mk_minor M (b :: p ++ Lib.decDigits K) hM (fun c r e => by cases e; exact hb)
  rw [he, if_neg (by decide)] at h
  rw [text_mk M K _ hM hK]
  unfold minorE
  rw [h]
set_option maxHeartbeats 800000 in
theorem text_q (M : Nat) (h : M < 100) (w : World) :
    Calls Tryd.prog 14 #[.int .i64 M] w fun e w' => e = .returned (.string (textF M)) ∧ w' = w := by
  have h0 : ¬ (M : Int) < 0 := by omega
  have h1 : ¬ (99 : Int) < M := by omega
  have hd0 : decide ((M : Int) < 0) = false := decide_eq_false h0
  have hd1 : decide (99 < (M : Int)) = false := decide_eq_false h1
  have hn99 : ¬ 99 < M := by omega
  have ht : textF M = (⟨#[49, 46]⟩ : ByteArray) ++ ⟨(Lib.decDigits M).toArray⟩ := by unfold textF; rw [if_neg (by omega), Int.toNat_natCast]
  have hi := fun w => Tryd.strconv_Itoa_small M (by omega) w
  rw [ht]
  have hits : (⟨(Lib.decDigits M).toArray⟩ : ByteArray).size ≤ 2 := by
    show (Lib.decDigits M).toArray.size ≤ 2
    rw [dec_small M (by omega)]
    split <;> simp
  generalize (⟨(Lib.decDigits M).toArray⟩ : ByteArray) = it at *
  have hits2 : ¬ 9223372036854775807 < 2 + it.size := by omega
  clear ht
  go_enter Tryd.func14, Tryd.ntmps14
  go_wp2_with (go_at_call 25; with_reducible refine Calls.mono (hi _) ?_; rintro e w2 ⟨rfl, hw2⟩; replace hw2 := hw2.symm; subst hw2)
  go_ret
  exact ⟨rfl, rfl⟩
theorem dec_len (K : Nat) (h : K < 100) : 1 ≤ (Lib.decDigits K).length ∧ (Lib.decDigits K).length ≤ 2 := by rw [dec_small K h]; split <;> simp
set_option maxRecDepth 100000 in
set_option maxHeartbeats 3200000 in
theorem rests_walk (m n : Nat) (w : World) (hE : EnvV w) (hm : m < 65536) (hn : n < 65536) :
    Calls Tryd.prog 8 #[.int .u16 m, .int .u16 n] w fun e w' => e = .returned (.bool true) ∧ Below w.heap.size w w' := by
  have h8 := hE.2.2.2
  obtain ⟨M, hM⟩ : ∃ M, M = m % 100 := ⟨_, rfl⟩
  obtain ⟨K, hK⟩ : ∃ K, K = n % 100 := ⟨_, rfl⟩
  have hM1 : M < 100 := by omega
  have hK1 : K < 100 := by omega
  have hM2 : (m : Int) % 100 = (M : Int) := by omega
  have hK2 : (n : Int) % 100 = (K : Int) := by omega
  obtain ⟨tm, htm⟩ : ∃ tm, tm = textF (M : Int) := ⟨_, rfl⟩
  obtain ⟨tk, htk⟩ : ∃ tk, tk = textF (K : Int) := ⟨_, rfl⟩
  have hTM : ∀ w, Calls Tryd.prog 14 #[.int .i64 ((m : Int) % 100)] w fun e w' => e = .returned (.string tm) ∧ w' = w := fun w => by rw [hM2, htm]; exact text_q M hM1 w
  have hTK : ∀ w, Calls Tryd.prog 14 #[.int .i64 ((n : Int) % 100)] w fun e w' => e = .returned (.string tk) ∧ w' = w := fun w => by rw [hK2, htk]; exact text_q K hK1 w
  have HM2 := Lib.hid hM2
  have HK2 := Lib.hid hK2
  clear hM2 hK2 hM hK
  have hA := fun w1 (hb : Below w.heap.size w w1) => minor_v (tm ++ ⟨#[46]⟩ ++ tk.extract 2 tk.size) w1 (by rw [ByteArray.size_append, ByteArray.size_append, ByteArray.size_extract, htm, htk, text_two M hM1, text_two K hK1]; have h1 : (⟨#[46]⟩ : ByteArray).size = 1 := rfl; have := dec_len M hM1; have := dec_len K hK1; omega) (hE.below hb h8)
  rw [htm, htk, (rest_ok M K 46 [] hM1 hK1 (by decide) (end_dot K hK1)).1, (rest_ok M K 46 [] hM1 hK1 (by decide) (end_dot K hK1)).2, ← htm, ← htk] at hA
  have hB := fun w1 (hb : Below w.heap.size w w1) => minor_v (tm ++ ⟨#[114, 99]⟩ ++ tk.extract 2 tk.size) w1 (by rw [ByteArray.size_append, ByteArray.size_append, ByteArray.size_extract, htm, htk, text_two M hM1, text_two K hK1]; have h1 : (⟨#[114, 99]⟩ : ByteArray).size = 2 := rfl; have := dec_len M hM1; have := dec_len K hK1; omega) (hE.below hb h8)
  rw [htm, htk, (rest_ok M K 114 [99] hM1 hK1 (by decide) (end_rc K hK1)).1, (rest_ok M K 114 [99] hM1 hK1 (by decide) (end_rc K hK1)).2, ← htm, ← htk] at hB
  have hC := fun w1 (hb : Below w.heap.size w w1) => minor_v (tm ++ ⟨#[98, 101, 116, 97]⟩ ++ tk.extract 2 tk.size) w1 (by rw [ByteArray.size_append, ByteArray.size_append, ByteArray.size_extract, htm, htk, text_two M hM1, text_two K hK1]; have h1 : (⟨#[98, 101, 116, 97]⟩ : ByteArray).size = 4 := rfl; have := dec_len M hM1; have := dec_len K hK1; omega) (hE.below hb h8)
  rw [htm, htk, (rest_ok M K 98 [101, 116, 97] hM1 hK1 (by decide) (end_beta K hK1)).1, (rest_ok M K 98 [101, 116, 97] hM1 hK1 (by decide) (end_beta K hK1)).2, ← htm, ← htk] at hC
  have hD := fun w1 (hb : Below w.heap.size w w1) => minor_v (tm ++ ⟨#[120]⟩ ++ tk.extract 2 tk.size) w1 (by rw [ByteArray.size_append, ByteArray.size_append, ByteArray.size_extract, htm, htk, text_two M hM1, text_two K hK1]; have h1 : (⟨#[120]⟩ : ByteArray).size = 1 := rfl; have := dec_len M hM1; have := dec_len K hK1; omega) (hE.below hb h8)
  obtain ⟨x, hx⟩ : ∃ x, minorI (tm ++ ⟨#[120]⟩ ++ tk.extract 2 tk.size) = x := ⟨_, rfl⟩
  rw [hx] at hD
  rw [htm, htk, rest_no M K 120 [] hM1 hK1 (by decide) (end_x K hK1), ← htm, ← htk] at hD
  clear hx
  have hW := fun w1 (hb : Below w.heap.size w w1) => awake_v w1 (hE.below hb h8)
  have hlen : 1 ≤ (Lib.decDigits K).length ∧ (Lib.decDigits K).length ≤ 2 := by rw [dec_small K hK1]; split <;> simp
  have hlenM : (Lib.decDigits M).length ≤ 2 := by rw [dec_small M hM1]; split <;> simp
  have hsk : tk.size = 2 + (Lib.decDigits K).length := by rw [htk]; exact text_two K hK1
  have hsm : tm.size = 2 + (Lib.decDigits M).length := by rw [htm]; exact text_two M hM1
  have hk3 : ¬ tk.size < 3 := by omega
  have hk3i : ¬ (tk.size : Int) < 3 := by omega
  have hkd : decide ((tk.size : Int) < 3) = false := decide_eq_false hk3i
  have hkd2 : decide (tk.size < 3) = false := decide_eq_false hk3
  have hk2 : 2 ≤ tk.size := by omega
  have hk2i : (2 : Int) ≤ (tk.size : Int) := by omega
  have hk4 : tk.size ≤ 4 := by omega
  have hm4 : tm.size ≤ 4 := by omega
  obtain ⟨q, hq⟩ : ∃ q, tk.extract 2 tk.size = q := ⟨_, rfl⟩
  have hq2 : q.size ≤ 2 := by rw [← hq, ByteArray.size_extract]; omega
  rw [hq] at hA hB hC hD
  rw [← HM2.out] at hA hB hC
  have HA := Lib.hid hA
  have HB := Lib.hid hB
  have HC := Lib.hid hC
  have HD := Lib.hid hD
  clear hA hB hC hD
  have hs11 : ¬ 9223372036854775807 < tm.size + 1 := by omega
  have hs21 : ¬ 9223372036854775807 < tm.size + 1 + q.size := by omega
  have hs12 : ¬ 9223372036854775807 < tm.size + 2 := by omega
  have hs22 : ¬ 9223372036854775807 < tm.size + 2 + q.size := by omega
  have hs14 : ¬ 9223372036854775807 < tm.size + 4 := by omega
  have hs24 : ¬ 9223372036854775807 < tm.size + 4 + q.size := by omega
  have HTM := Lib.hid htm
  have HTK2 := Lib.hid htk
  clear htm htk hsk hsm hlen hlenM
  go_enter Tryd.func8, Tryd.ntmps8
  go_wp2_with (go_at_call 14; refine Calls.mono (hTK _) ?_; rintro e w2 ⟨rfl, hw2⟩; replace hw2 := hw2.symm; subst hw2)
  go_region_law (first | (go_simp; go_at_call 14; refine Calls.mono (hTM _) ?_; rintro e w2 ⟨rfl, hw2⟩; replace hw2 := hw2.symm; subst hw2) | (go_simp; go_at_call 10; refine Calls.mono (HA.out _ ((Below.refl w.heap.size w).drew)) ?_; rintro e wa ⟨rfl, hb2⟩; have HBwa : Hid (Below w.heap.size w wa) := Lib.hid (((Below.refl w.heap.size w).drew).trans (hb2.mono ((Below.refl w.heap.size w).drew).size)); clear hb2))
  go_wp2_with fail
  go_region_law (first | (go_simp; go_at_call 14; refine Calls.mono (hTM _) ?_; rintro e w2 ⟨rfl, hw2⟩; replace hw2 := hw2.symm; subst hw2) | (go_simp; go_at_call 10; refine Calls.mono (HB.out _ (HBwa.out.drew)) ?_; rintro e wb ⟨rfl, hb2⟩; have HBwb : Hid (Below w.heap.size w wb) := Lib.hid ((HBwa.out.drew).trans (hb2.mono (HBwa.out.drew).size)); clear hb2))
  go_wp2_with fail
  go_region_law (first | (go_simp; go_at_call 14; refine Calls.mono (hTM _) ?_; rintro e w2 ⟨rfl, hw2⟩; replace hw2 := hw2.symm; subst hw2) | (go_simp; go_at_call 10; refine Calls.mono (HC.out _ (HBwb.out.drew)) ?_; rintro e wc ⟨rfl, hb2⟩; have HBwc : Hid (Below w.heap.size w wc) := Lib.hid ((HBwb.out.drew).trans (hb2.mono (HBwb.out.drew).size)); clear hb2))
  go_wp2_with fail
  go_region_law (first | (go_simp; go_at_call 14; refine Calls.mono (hTM _) ?_; rintro e w2 ⟨rfl, hw2⟩; replace hw2 := hw2.symm; subst hw2) | (go_simp; go_at_call 10; refine Calls.mono (HD.out _ (HBwc.out.drew)) ?_; rintro e wd ⟨rfl, hb2⟩; have HBwd : Hid (Below w.heap.size w wd) := Lib.hid ((HBwc.out.drew).trans (hb2.mono (HBwc.out.drew).size)); clear hb2))
  go_wp2_with (go_at_call 16; with_reducible refine Calls.mono (hW _ HBwd.out) ?_; rintro e we ⟨rfl, hb2⟩; have HBwe : Hid (Below w.heap.size w we) := Lib.hid (HBwd.out.trans (hb2.mono HBwd.out.size)); clear hb2)
  go_ret
  exact ⟨rfl, HBwe.out⟩
end Go.Proofs.YtgkblldcjjokjaaDoor
