import Derived.Test.YtlgolagedgllbaaDoorVrK
import Derived.Deep.RegionLaw
namespace Go.Proofs.YtlgolagedgllbaaDoor
open Go.RowKit Go.Shelf
set_option linter.unusedSimpArgs false
set_option linter.unusedVariables false
set_option linter.unusedSectionVars false

/-! Layer 4: a version's text with something behind it. -/
def mkS (M : Nat) (t : List UInt8) : ByteArray := ⟨([49, 46] ++ (Lib.decDigits M ++ t)).toArray⟩
theorem mk_eq {a : ByteArray} {l : List UInt8} (h : a.data.toList = l) : a = ⟨l.toArray⟩ := by
  apply ByteArray.ext
  exact Array.toList_inj.1 (by rw [h])
theorem dig_all : ∀ M, M < 100 → (Lib.decDigits M).all isD = true := by decide +kernel
theorem dig_atoi0 : ∀ M, M < 100 → (match Lib.atoiAll (Lib.decDigits M) with | .ok v => v == (M : Int) | _ => false) = true := by decide +kernel
theorem dig_atoi (M : Nat) (h : M < 100) : Lib.atoiAll (Lib.decDigits M) = .ok (M : Int) := by
  have := dig_atoi0 M h
  split at this
  · rename_i v hv
    rw [hv, show v = (M : Int) from by simpa using this]
  · cases this
theorem mk_lead (M : Nat) (t : List UInt8) : hasV (mkS M t) ⟨#[49, 46]⟩ = true ∧ (leadV (mkS M t) ⟨#[49, 46]⟩).data.toList = Lib.decDigits M ++ t := by
  have hh : Lib.hasPrefix ([49, 46] ++ (Lib.decDigits M ++ t)) [49, 46] = true := by unfold Lib.hasPrefix; exact List.isPrefixOf_iff_prefix.2 (List.prefix_append _ _)
  refine ⟨hh, ?_⟩
  show Lib.trimPrefix ([49, 46] ++ (Lib.decDigits M ++ t)) [49, 46] = _
  unfold Lib.trimPrefix
  rw [if_pos hh]
  rfl
theorem mk_minor (M : Nat) (t : List UInt8) (hM : M < 100) (ht : ∀ b r, t = b :: r → isD b = false) :
    minorW (mkS M t) = if endV ⟨t.toArray⟩ = true then some M else none := by
  obtain ⟨h1, h2⟩ := mk_lead M t
  have hd := List.all_eq_true.1 (dig_all M hM)
  have hk : figK (leadV (mkS M t) ⟨#[49, 46]⟩) = (Lib.decDigits M).length := by
    unfold figK
    rw [h2, List.takeWhile_append_of_pos hd]
    cases t with
    | nil => simp
    | cons b r => rw [List.takeWhile_cons, ht b r rfl]; simp
  have hD : (digsV (leadV (mkS M t) ⟨#[49, 46]⟩)).data.toList = Lib.decDigits M := by rw [digs_list, hk, h2, List.take_left]
  have hB : (behV (leadV (mkS M t) ⟨#[49, 46]⟩)).data.toList = t := by rw [beh_list, hk, h2, List.drop_left]
  have hD2 := mk_eq hD
  have hB2 := mk_eq hB
  have hm : (M : Int) ≤ 99 := by omega
  unfold minorW
  rw [hD, dig_atoi M hM]
  show (if _ then _ else _) = _
  rw [hD2, hB2, h1, Int.toNat_natCast]
  by_cases he : endV ⟨t.toArray⟩ = true
  · rw [if_pos ⟨rfl, hm, rfl, he⟩, if_pos he]
  · rw [if_neg (fun h => he h.2.2.2), if_neg he]
theorem text_list (M : Nat) (h : M < 100) : (textF (M : Int)).data.toList = [49, 46] ++ Lib.decDigits M := by
  unfold textF
  rw [if_neg (by omega), Int.toNat_natCast, app_list]
theorem text_two (M : Nat) (h : M < 100) : (textF (M : Int)).size = 2 + (Lib.decDigits M).length := by
  have := congrArg List.length (text_list M h)
  rw [List.length_append, Array.length_toList] at this
  exact this
theorem text_tail (K : Nat) (h : K < 100) : ((textF (K : Int)).extract 2 (textF (K : Int)).size).data.toList = Lib.decDigits K := by
  rw [extract_list, text_list K h, text_two K h]
  have e : ([49, 46] ++ Lib.decDigits K : List UInt8).drop 2 = Lib.decDigits K := rfl
  rw [e]
  exact List.take_of_length_le (by omega)
theorem text_mk (M K : Nat) (p : List UInt8) (hM : M < 100) (hK : K < 100) : textF (M : Int) ++ ⟨p.toArray⟩ ++ (textF (K : Int)).extract 2 (textF (K : Int)).size = mkS M (p ++ Lib.decDigits K) := by
  rw [mk_eq (a := textF (M : Int) ++ ⟨p.toArray⟩ ++ (textF (K : Int)).extract 2 (textF (K : Int)).size) rfl, app_list, app_list, text_list M hM, text_tail K hK]
  unfold mkS
  simp
theorem end_dot : ∀ K, K < 100 → endV ⟨([46] ++ Lib.decDigits K).toArray⟩ = true := by decide +kernel
theorem end_rc : ∀ K, K < 100 → endV ⟨([114, 99] ++ Lib.decDigits K).toArray⟩ = true := by decide +kernel
theorem end_beta : ∀ K, K < 100 → endV ⟨([98, 101, 116, 97] ++ Lib.decDigits K).toArray⟩ = true := by decide +kernel
theorem end_x : ∀ K, K < 100 → endV ⟨([120] ++ Lib.decDigits K).toArray⟩ = false := by decide +kernel
theorem rest_ok (M K : Nat) (b : UInt8) (p : List UInt8) (hM : M < 100) (hK : K < 100) (hb : isD b = false) (he : endV ⟨(b :: p ++ Lib.decDigits K).toArray⟩ = true) :
    minorI (textF (M : Int) ++ ⟨(b :: p).toArray⟩ ++ (textF (K : Int)).extract 2 (textF (K : Int)).size) = M ∧ minorE (textF (M : Int) ++ ⟨(b :: p).toArray⟩ ++ (textF (K : Int)).extract 2 (textF (K : Int)).size) = 0 := by
  have h := mk_minor M (b :: p ++ Lib.decDigits K) hM (fun c r e => by cases e; exact hb)
  rw [if_pos he] at h
  rw [text_mk M K _ hM hK]
  unfold minorI minorE
  rw [h]
  exact ⟨rfl, rfl⟩
theorem rest_no (M K : Nat) (b : UInt8) (p : List UInt8) (hM : M < 100) (hK : K < 100) (hb : isD b = false) (he : endV ⟨(b :: p ++ Lib.decDigits K).toArray⟩ = false) :
    minorE (textF (M : Int) ++ ⟨(b :: p).toArray⟩ ++ (textF (K : Int)).extract 2 (textF (K : Int)).size) = 6 := by
  have h := mk_minor M (b :: p ++ Lib.decDigits K) hM (fun c r e => by cases e; exact hb)
  rw [he, if_neg (by decide)] at h
  rw [text_mk M K _ hM hK]
  unfold minorE
  rw [h]
set_option maxHeartbeats 800000 in
theorem text_q (M : Nat) (h : M < 100) (w : World) :
    Calls Tryd.prog 9 #[.int .i64 M] w fun e w' => e = .returned (.string (textF M)) ∧ w' = w := by
  have h0 : ¬ (M : Int) < 0 := by omega
  have h1 : ¬ (99 : Int) < M := by omega
  have hd0 : decide ((M : Int) < 0) = false := decide_eq_false h0
  have hd1 : decide (99 < (M : Int)) = false := decide_eq_false h1
  have hn99 : ¬ 99 < M := by omega
  have ht : textF M = (⟨#[49, 46]⟩ : ByteArray) ++ ⟨(Lib.decDigits M).toArray⟩ := by unfold textF; rw [if_neg (by omega), Int.toNat_natCast]
  have hi := fun w => Tryd.strconv_Itoa_small M (by omega) w
  rw [ht]
  have hits : (⟨(Lib.decDigits M).toArray⟩ : ByteArray).size ≤ 2 := by
    show (Lib.decDigits M).toArray.size ≤ 2
    rw [dec_small M (by omega)]
    split <;> simp
  generalize (⟨(Lib.decDigits M).toArray⟩ : ByteArray) = it at *
  have hits2 : ¬ 9223372036854775807 < 2 + it.size := by omega
  clear ht
  go_enter Tryd.func9, Tryd.ntmps9
  go_wp2_with (go_at_call 19; with_reducible refine Calls.mono (hi _) ?_; rintro e w2 ⟨rfl, hw2⟩; replace hw2 := hw2.symm; subst hw2)
  go_ret
  exact ⟨rfl, rfl⟩
theorem dec_len (K : Nat) (h : K < 100) : 1 ≤ (Lib.decDigits K).length ∧ (Lib.decDigits K).length ≤ 2 := by rw [dec_small K h]; split <;> simp
end Go.Proofs.YtlgolagedgllbaaDoor
