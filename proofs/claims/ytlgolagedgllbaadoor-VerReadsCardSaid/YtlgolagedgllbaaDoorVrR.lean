import Derived.Test.YtlgolagedgllbaaDoorVrQ
namespace Go.Proofs.YtlgolagedgllbaaDoor
open Go.RowKit Go.Shelf
set_option linter.unusedSimpArgs false
set_option linter.unusedVariables false
set_option linter.unusedSectionVars false

/-! VerBack, plain: the words of a line of two words. -/
def solid (b : UInt8) : Prop := b.toNat < 128 ∧ b.toNat ≠ 32 ∧ b.toNat ≠ 9 ∧ b.toNat ≠ 13
theorem solid_step (s : ByteArray) (j : Nat) (h : j < s.size) (hb : byteN s j < 128 ∧ byteN s j ≠ 32 ∧ byteN s j ≠ 9 ∧ byteN s j ≠ 13) : Utf8.decode s j = (byteN s j, 1) ∧ blankP (byteN s j) = false := by
  rcases dec_byteV s j h with ⟨hd, _⟩ | ⟨_, h2⟩
  · refine ⟨hd, ?_⟩
    unfold blankP blankV
    simp only [Bool.or_eq_false_iff, beq_eq_false_iff_ne]
    omega
  · omega
theorem run_solid (s : ByteArray) (a : Nat) (acc : List (Nat × Nat)) : ∀ (n f pos : Nat), pos + n ≤ s.size → (∀ j, pos ≤ j → j < pos + n → byteN s j < 128 ∧ byteN s j ≠ 32 ∧ byteN s j ≠ 9 ∧ byteN s j ≠ 13) →
    Lib.spansFromP blankP s (f + n) pos (some a) acc = Lib.spansFromP blankP s f (pos + n) (some a) acc
  | 0, f, pos, _, _ => rfl
  | n + 1, f, pos, hz, h => by
    obtain ⟨h1, h2⟩ := solid_step s pos (by omega) (h pos (Nat.le_refl _) (by omega))
    rw [show f + (n + 1) = (f + n) + 1 from rfl, Lib.spansFromP, if_pos (by omega), h1, h2, if_neg (by decide)]
    show Lib.spansFromP blankP s (f + n) (pos + 1) (some a) acc = _
    rw [run_solid s a acc n f (pos + 1) (by omega) (fun j h3 h4 => h j (by omega) (by omega))]
    congr 1
    omega
theorem fields_two (a b : List UInt8) (ha : a ≠ []) (hb : b ≠ []) (sa : ∀ x ∈ a, solid x) (sb : ∀ x ∈ b, solid x) :
    (Lib.goFieldsP blankP ⟨(a ++ 32 :: b).toArray⟩).map (·.data.toList) = [a, b] := by
  obtain ⟨s, hs⟩ : ∃ s : ByteArray, s = ⟨(a ++ 32 :: b).toArray⟩ := ⟨_, rfl⟩
  have hz : s.size = a.length + 1 + b.length := by
    have : (⟨(a ++ 32 :: b).toArray⟩ : ByteArray).size = (a ++ 32 :: b).length := List.size_toArray
    rw [hs, this, List.length_append, List.length_cons]; omega
  have hl : s.data.toList = a ++ 32 :: b := by rw [hs]
  have ha0 : a.length ≠ 0 := fun e => ha (List.eq_nil_of_length_eq_zero e)
  have hb0 : b.length ≠ 0 := fun e => hb (List.eq_nil_of_length_eq_zero e)
  have hA : ∀ j, j < a.length → byteN s j < 128 ∧ byteN s j ≠ 32 ∧ byteN s j ≠ 9 ∧ byteN s j ≠ 13 := by
    intro j hj
    have : byteN s j = (a[j]).toNat := by simp [byteN, hl, List.getD_eq_getElem?_getD, List.getElem?_append_left hj, List.getElem?_eq_getElem hj]
    rw [this]
    exact sa _ (List.getElem_mem hj)
  have hM : byteN s a.length = 32 := by simp [byteN, hl, List.getD_eq_getElem?_getD]
  have hB : ∀ j, a.length + 1 ≤ j → j < a.length + 1 + b.length → byteN s j < 128 ∧ byteN s j ≠ 32 ∧ byteN s j ≠ 9 ∧ byteN s j ≠ 13 := by
    intro j h1 h2
    obtain ⟨k, rfl⟩ : ∃ k, j = a.length + (k + 1) := ⟨j - a.length - 1, by omega⟩
    have hk : k < b.length := by omega
    have : byteN s (a.length + (k + 1)) = (b[k]).toNat := by simp [byteN, hl, List.getD_eq_getElem?_getD, List.getElem?_append_right, hk]
    rw [this]
    exact sb _ (List.getElem_mem hk)
  have hsp : Lib.spansFromP blankP s s.size 0 none [] = ([(0, a.length)], some (a.length + 1)) := by
    obtain ⟨n, hn⟩ : ∃ n, a.length = n + 1 := ⟨a.length - 1, by omega⟩
    obtain ⟨m, hm⟩ : ∃ m, b.length = m + 1 := ⟨b.length - 1, by omega⟩
    obtain ⟨h1, h2⟩ := solid_step s 0 (by omega) (hA 0 (by omega))
    have e1 : Lib.spansFromP blankP s s.size 0 none [] = Lib.spansFromP blankP s ((m + 2) + n) 1 (some 0) [] := by
      have : s.size = ((m + 2) + n) + 1 := by omega
      conv => lhs; arg 3; rw [this]
      rw [Lib.spansFromP, if_pos (by omega), h1, h2, if_neg (by decide)]
      rfl
    rw [e1, run_solid s 0 [] n (m + 2) 1 (by omega) (fun j h3 h4 => hA j (by omega))]
    have hp : 1 + n = a.length := by omega
    rw [hp]
    have hd : Utf8.decode s a.length = (32, 1) := by
      rcases dec_byteV s a.length (by omega) with ⟨hd, _⟩ | ⟨_, h2⟩
      · rw [hd, hM]
      · omega
    have e2 : Lib.spansFromP blankP s (m + 2) a.length (some 0) [] = Lib.spansFromP blankP s (m + 1) (a.length + 1) none [(0, a.length)] := by
      rw [Lib.spansFromP, if_pos (by omega), hd, if_pos (by decide)]
      rfl
    rw [e2]
    obtain ⟨h3, h4⟩ := solid_step s (a.length + 1) (by omega) (hB _ (Nat.le_refl _) (by omega))
    have e3 : Lib.spansFromP blankP s (m + 1) (a.length + 1) none [(0, a.length)] = Lib.spansFromP blankP s (0 + m) (a.length + 2) (some (a.length + 1)) [(0, a.length)] := by
      rw [Lib.spansFromP, if_pos (by omega), h3, h4, if_neg (by decide), Nat.zero_add]
      rfl
    rw [e3, run_solid s (a.length + 1) _ m 0 (a.length + 2) (by omega) (fun j h5 h6 => hB j (by omega) (by omega))]
    rfl
  rw [← hs]
  unfold Lib.goFieldsP Lib.spansOfP
  rw [hsp]
  show [(s.extract 0 a.length).data.toList, (s.extract (a.length + 1) s.size).data.toList] = [a, b]
  rw [extract_list, extract_list, hl, hz]
  simp
/-- module and a path. -/
theorem module_words (s : ByteArray) (h : pathF s = true) : (wordsL (modL ++ 32 :: s.data.toList)).map (·.data.toList) = [modL, s.data.toList] := by
  obtain ⟨_, h1, h2, h3⟩ := path_bytes s h
  have hn : noSS (modL ++ 32 :: s.data.toList) = true := by
    show noSS (109 :: 111 :: 100 :: 117 :: 108 :: 101 :: 32 :: s.data.toList) = true
    rw [noSS_cons _ _ (by decide), noSS_cons _ _ (by decide), noSS_cons _ _ (by decide), noSS_cons _ _ (by decide), noSS_cons _ _ (by decide), noSS_cons _ _ (by decide), noSS_cons _ _ (by decide)]
    exact h2
  have hc : cut1 (modL ++ 32 :: s.data.toList) [47, 47] = ⟨(modL ++ 32 :: s.data.toList).toArray⟩ := by
    unfold cut1 Lib.cut
    rw [noSS_index _ hn, if_neg (by decide)]
  show (Lib.goFieldsP blankP (cut1 (modL ++ 32 :: s.data.toList) [47, 47])).map _ = _
  rw [hc]
  exact fields_two modL _ (by decide) h1 (by unfold solid; decide) (fun x hx => ⟨(h3 x hx).1, (h3 x hx).2.2⟩)
theorem go_words : ∀ M, M < 100 → (wordsL ([103, 111, 32] ++ ([49, 46] ++ Lib.decDigits M))).map (·.data.toList) = [goL, [49, 46] ++ Lib.decDigits M] := by decide +kernel
theorem go_flat : ∀ M, M < 100 → ([103, 111, 32] ++ ([49, 46] ++ Lib.decDigits M)).all (fun x => x != 10) = true := by decide +kernel
theorem text_minor (M : Nat) (h : M < 100) : minorI (textF (M : Int)) = M ∧ minorE (textF (M : Int)) = 0 := by
  have e : textF (M : Int) = mkS M [] := by
    rw [mk_eq (text_list M h)]
    unfold mkS
    rw [List.append_nil]
  have := mk_minor M [] h (fun b r e => by cases e)
  rw [if_pos (by decide)] at this
  unfold minorI minorE
  rw [e, this]
  exact ⟨rfl, rfl⟩
def backS (s : ByteArray) (M : Nat) : ByteArray := (⟨#[109, 111, 100, 117, 108, 101, 32]⟩ : ByteArray) ++ s ++ ⟨#[10, 10, 103, 111, 32]⟩ ++ textF (M : Int) ++ ⟨#[10]⟩
theorem told_module (s : ByteArray) (h : pathF s = true) (t : St) : toldV (modL ++ 32 :: s.data.toList) t = some { t with path := s, mods := t.mods + 1 } := by
  have hw := module_words s h
  obtain ⟨_, h1, h2, h3⟩ := path_bytes s h
  have hf : (modL ++ 32 :: s.data.toList).all (fun x => x != 10) = true := by
    rw [List.all_append, List.all_cons]
    have : s.data.toList.all (fun x => x != 10) = true := by
      rw [List.all_eq_true]
      intro x hx
      have := (h3 x hx).2.1
      simp only [bne_iff_ne, ne_eq]
      intro e
      rw [e] at this
      exact this rfl
    rw [this]
    decide
  rw [told_one _ t hf]
  match hm : wordsL (modL ++ 32 :: s.data.toList), hw with
  | [], h => cases h
  | [_], h => simp at h
  | _ :: _ :: _ :: _, h => simp at h
  | [a, b], hw =>
    simp only [List.map_cons, List.map_nil, List.cons.injEq, and_true] at hw
    have ha : a.toList = modL := by rw [Lib.toList_data]; exact hw.1
    have hb : b = s := by apply ByteArray.ext; exact Array.toList_inj.1 hw.2
    have hst : stepL t [a, b] = (pathF b, { t with path := b, mods := t.mods + 1 }) := by
      show (if a.toList = modL then (pathF b, { t with path := b, mods := t.mods + 1 }) else if a.toList = goL then (minorE b == 0, { t with minor := minorI b, vers := t.vers + 1 }) else if a.toList = toolL then (true, t) else (false, t)) = _
      rw [ha, if_pos rfl]
    rw [hst, hb, h]
    rfl
theorem told_go (M : Nat) (hM : M < 100) (t : St) : toldV ([103, 111, 32] ++ ([49, 46] ++ Lib.decDigits M)) t = some { t with minor := M, vers := t.vers + 1 } := by
  have hw := go_words M hM
  rw [told_one _ t (go_flat M hM)]
  match hm : wordsL ([103, 111, 32] ++ ([49, 46] ++ Lib.decDigits M)), hw with
  | [], h => cases h
  | [_], h => simp at h
  | _ :: _ :: _ :: _, h => simp at h
  | [a, b], hw =>
    simp only [List.map_cons, List.map_nil, List.cons.injEq, and_true] at hw
    have ha : a.toList = goL := by rw [Lib.toList_data]; exact hw.1
    have hb : b = textF (M : Int) := by apply ByteArray.ext; exact Array.toList_inj.1 (by rw [hw.2, text_list M hM])
    have hst : stepL t [a, b] = (minorE b == 0, { t with minor := minorI b, vers := t.vers + 1 }) := by
      show (if a.toList = modL then (pathF b, { t with path := b, mods := t.mods + 1 }) else if a.toList = goL then (minorE b == 0, { t with minor := minorI b, vers := t.vers + 1 }) else if a.toList = toolL then (true, t) else (false, t)) = _
      rw [ha, if_neg (by decide), if_pos rfl]
    obtain ⟨e1, e2⟩ := text_minor M hM
    rw [hst, hb, e1, e2]
    rfl
theorem told_emptyR (t : St) : toldV [] t = some t := by
  have hw : wordsL [] = [] := by decide +kernel
  rw [told_one _ t rfl, hw]
  rfl
theorem back_read (s : ByteArray) (M : Nat) (hM : M < 100) (h : pathF s = true) : (backS s M).size ≤ 300 ∧ readP (backS s M) = s ∧ readI (backS s M) = M ∧ readE (backS s M) = 0 := by
  have hz : (backS s M).size ≤ 300 := by
    have h1 := (path_bytes s h).1
    have h2 := text_two M hM
    have h3 := dec_len M hM
    unfold backS
    rw [ByteArray.size_append, ByteArray.size_append, ByteArray.size_append, ByteArray.size_append, h2]
    have e1 : (⟨#[109, 111, 100, 117, 108, 101, 32]⟩ : ByteArray).size = 7 := rfl
    have e2 : (⟨#[10, 10, 103, 111, 32]⟩ : ByteArray).size = 5 := rfl
    have e3 : (⟨#[10]⟩ : ByteArray).size = 1 := rfl
    omega
  have ht : toldV (backS s M).data.toList startS = some ⟨s, M, 1, 1⟩ := by
    have e : (backS s M).data.toList = (modL ++ 32 :: s.data.toList) ++ 10 :: ([] ++ 10 :: (([103, 111, 32] ++ ([49, 46] ++ Lib.decDigits M)) ++ 10 :: [])) := by
      unfold backS
      rw [app_list, app_list, app_list, app_list, text_list M hM]
      simp [modL]
    rw [e, told_app, told_module s h]
    show toldV ([] ++ 10 :: (([103, 111, 32] ++ ([49, 46] ++ Lib.decDigits M)) ++ 10 :: [])) _ = _
    rw [told_app, told_emptyR]
    show toldV (([103, 111, 32] ++ ([49, 46] ++ Lib.decDigits M)) ++ 10 :: []) _ = _
    rw [told_app, told_go M hM]
    show toldV [] _ = _
    rw [told_emptyR]
    rfl
  have hr : readR (backS s M) = some ⟨s, M, 1, 1⟩ := by rw [read_told, ht]; rfl
  refine ⟨hz, ?_⟩
  unfold readP readI readE
  rw [hr, if_neg (by omega), if_neg (by omega), if_neg (by omega)]
  exact ⟨rfl, rfl, rfl⟩
end Go.Proofs.YtlgolagedgllbaaDoor
