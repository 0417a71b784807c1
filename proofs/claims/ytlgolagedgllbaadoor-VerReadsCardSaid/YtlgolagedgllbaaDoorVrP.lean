import Derived.Test.YtlgolagedgllbaaDoorVrO
namespace Go.Proofs.YtlgolagedgllbaaDoor
open Go.RowKit Go.Shelf
set_option linter.unusedSimpArgs false
set_option linter.unusedVariables false
set_option linter.unusedSectionVars false

/-! VerNotes. -/
theorem told_note (l : List UInt8) (t : St) (h : l.all (fun x => x != 10) = true) : toldV (47 :: 47 :: l) t = some t := by
  have hw : wordsL (47 :: 47 :: l) = [] := by
    have hi : Lib.index (47 :: 47 :: l) [47, 47] = 0 := by rw [Lib.index]; simp [List.isPrefixOf]
    have hc : cut1 (47 :: 47 :: l) [47, 47] = ⟨#[]⟩ := by
      unfold cut1 Lib.cut
      rw [hi, if_pos (by decide)]
      rfl
    show Lib.goFieldsP blankP (cut1 (47 :: 47 :: l) [47, 47]) = []
    rw [hc]
    rfl
  rw [told_one _ t (by rw [List.all_cons, List.all_cons, h]; rfl), hw]
  rfl
theorem told_empty (t : St) : toldV [] t = some t := by
  have hw : wordsL [] = [] := by decide +kernel
  rw [told_one _ t rfl, hw]
  rfl
theorem told_blank (t : St) : toldV [32, 9, 13] t = some t := by
  have hw : wordsL [32, 9, 13] = [] := by decide +kernel
  rw [told_one _ t (by decide), hw]
  rfl
theorem notes_told (b l : List UInt8) (t : St) (h : l.all (fun x => x != 10) = true) :
    toldV ((47 :: 47 :: 32 :: l) ++ 10 :: ([] ++ 10 :: ([32, 9, 13] ++ 10 :: (b ++ 10 :: (47 :: 47 :: l))))) t = toldV b t := by
  rw [told_app, told_note (32 :: l) t (by rw [List.all_cons, h]; rfl)]
  show toldV ([] ++ 10 :: ([32, 9, 13] ++ 10 :: (b ++ 10 :: (47 :: 47 :: l)))) t = _
  rw [told_app, told_empty]
  show toldV ([32, 9, 13] ++ 10 :: (b ++ 10 :: (47 :: 47 :: l))) t = _
  rw [told_app, told_blank]
  show toldV (b ++ 10 :: (47 :: 47 :: l)) t = _
  rw [told_app]
  cases toldV b t with
  | none => rfl
  | some u => exact told_note l u h
def notesS (s d : ByteArray) : ByteArray := (⟨#[47, 47, 32]⟩ : ByteArray) ++ d ++ ⟨#[10, 10, 32, 9, 13, 10]⟩ ++ s ++ ⟨#[10, 47, 47]⟩ ++ d
theorem notes_read (s d : ByteArray) (hs : s.size ≤ 500) (hd : d.size ≤ 50) (h : ∀ j, j < d.size → byteN d j ≠ 10) :
    (notesS s d).size ≤ 1000 ∧ readP (notesS s d) = readP s ∧ readI (notesS s d) = readI s ∧ readE (notesS s d) = readE s := by
  have hz : (notesS s d).size ≤ 1000 := by
    unfold notesS
    rw [ByteArray.size_append, ByteArray.size_append, ByteArray.size_append, ByteArray.size_append, ByteArray.size_append]
    have h1 : (⟨#[47, 47, 32]⟩ : ByteArray).size = 3 := rfl
    have h2 : (⟨#[10, 10, 32, 9, 13, 10]⟩ : ByteArray).size = 6 := rfl
    have h3 : (⟨#[10, 47, 47]⟩ : ByteArray).size = 3 := rfl
    omega
  refine ⟨hz, read_same _ s (by omega) (by omega) ?_⟩
  have ha : d.data.toList.all (fun x => x != 10) = true := by
    rw [List.all_eq_true]
    intro x hx
    obtain ⟨j, hj, rfl⟩ := List.getElem_of_mem hx
    have hj' : j < d.size := by rw [Array.length_toList] at hj; exact hj
    have := h j hj'
    simp only [bne_iff_ne, ne_eq]
    intro e
    apply this
    simp only [byteN, List.getD_eq_getElem?_getD, List.getElem?_eq_getElem hj, Option.getD_some, e]
    rfl
  have e := notes_told s.data.toList d.data.toList startS ha
  unfold notesS
  rw [app_list, app_list, app_list, app_list, app_list]
  rw [← e]
  simp
theorem str_byte (s : ByteArray) (i : Nat) (h : i < s.size) : s[i].toNat = byteN s i := by
  unfold byteN
  rw [List.getD_eq_getElem?_getD, List.getElem?_eq_getElem (by simpa using h)]
  rfl
end Go.Proofs.YtlgolagedgllbaaDoor
