import Derived.Test.YtlgolagedgllbaaDoorVrJ
namespace Go.Proofs.YtlgolagedgllbaaDoor
open Go.RowKit Go.Shelf
set_option linter.unusedSimpArgs false
set_option linter.unusedVariables false
set_option linter.unusedSectionVars false

/-! Layer 4: paths with a stroke between. -/
def splitB (c : UInt8) : List UInt8 → List (List UInt8)
  | [] => [[]]
  | x :: r => if x = c then [] :: splitB c r else match splitB c r with
    | [] => [[x]]
    | h :: t => (x :: h) :: t
theorem splitB_ne (c : UInt8) : ∀ l, splitB c l ≠ []
  | [] => by simp [splitB]
  | x :: r => by
    rw [splitB]
    split
    · simp
    · split <;> simp
theorem splitB_app (c : UInt8) : ∀ (a b : List UInt8), splitB c (a ++ c :: b) = splitB c a ++ splitB c b
  | [], b => by simp [splitB]
  | x :: a, b => by
    rw [List.cons_append, splitB, splitB, splitB_app c a b]
    by_cases h : x = c
    · rw [if_pos h, if_pos h]; rfl
    · rw [if_neg h, if_neg h]
      cases ha : splitB c a with
      | nil => exact absurd ha (splitB_ne c a)
      | cons y t => rfl
theorem splitB_none (c : UInt8) : ∀ (l : List UInt8), (∀ (k : Nat), l[k]? ≠ some c) → splitB c l = [l]
  | [], _ => rfl
  | x :: r, h => by
    rw [splitB, if_neg (fun e => h 0 (by simp [e])), splitB_none c r (fun k => by simpa using h (k + 1))]
theorem splitB_at (c : UInt8) (l : List UInt8) (o : Nat) (h : l[o]? = some c) (hn : ∀ (k : Nat), k < o → l[k]? ≠ some c) : splitB c l = l.take o :: splitB c (l.drop (o + 1)) := by
  obtain ⟨hl, he⟩ := List.getElem?_eq_some_iff.1 h
  have e : l = l.take o ++ c :: l.drop (o + 1) := by
    conv => lhs; rw [← List.take_append_drop o l, List.drop_eq_getElem_cons hl, he]
  conv => lhs; rw [e]
  rw [splitB_app, splitB_none c (l.take o) (fun k hk => ?_)]
  · rfl
  · rw [List.getElem?_take] at hk
    split at hk
    · exact hn k ‹_› hk
    · cases hk
theorem extract_list (s : ByteArray) (i j : Nat) : (s.extract i j).data.toList = (s.data.toList.drop i).take (j - i) := by
  rw [ByteArray.data_extract, Array.toList_extract]
theorem parts_split : ∀ (f : Nat) (s : ByteArray), s.size ≤ f → (partsV f s).map (fun x => x.data.toList) = splitB 47 s.data.toList
  | 0, s, h => by
    have hz : s.data.toList = [] := List.eq_nil_of_length_eq_zero (by have e : s.size = s.data.size := rfl; rw [Array.length_toList]; omega)
    rw [partsV, hz]
    simp [splitB, hz]
  | f + 1, s, h => by
    have hsz : s.data.toList.length = s.size := Array.length_toList
    rw [partsV]
    by_cases hi : 0 ≤ Lib.indexByte s.data.toList 47
    · rw [if_pos hi]
      obtain ⟨o, ho⟩ : ∃ o : Nat, Lib.indexByte s.data.toList 47 = o := ⟨(Lib.indexByte s.data.toList 47).toNat, by omega⟩
      obtain ⟨h1, h2⟩ := Lib.indexByte_some ho
      have hl := (List.getElem?_eq_some_iff.1 h1).1
      rw [splitB_at 47 _ o h1 h2, ho, Int.toNat_natCast, List.map_cons, parts_split f _ (by rw [ByteArray.size_extract]; omega), extract_list, extract_list]
      rw [List.drop_zero, Nat.sub_zero, List.take_of_length_le (i := s.size - (o + 1)) (by rw [List.length_drop]; omega)]
    · have hm := Lib.indexByte_ge s.data.toList 47
      rw [if_neg hi, splitB_none 47 _ (Lib.indexByte_none (by omega))]
      rfl
def okL (l : List UInt8) : Bool := okName ⟨l.toArray⟩
theorem path_split (s : ByteArray) (h : s.size ≤ 200) : pathF s = (splitB 47 s.data.toList).all okL := by
  unfold pathF
  rw [if_neg (by omega), ← parts_split s.size s (Nat.le_refl _), List.all_map]
  rfl
theorem app_list (a b : ByteArray) : (a ++ b).data.toList = a.data.toList ++ b.data.toList := by
  rw [ByteArray.data_append, Array.toList_append]
theorem path_join (a b : ByteArray) (ha : a.size ≤ 99) (hb : b.size ≤ 99) : pathF (a ++ ⟨#[47]⟩ ++ b) = (pathF a && pathF b) := by
  have h1 : (⟨#[47]⟩ : ByteArray).size = 1 := rfl
  rw [path_split _ (by rw [ByteArray.size_append, ByteArray.size_append]; omega), path_split a (by omega), path_split b (by omega), app_list, app_list, List.append_assoc]
  rw [← List.all_append]
  congr 1
  exact splitB_app 47 _ _

end Go.Proofs.YtlgolagedgllbaaDoor
