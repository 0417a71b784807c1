import Derived.Test.YtlgolagedgllbaaDoorVrV
namespace Go.Proofs.YtlgolagedgllbaaDoor
open Go.RowKit Go.Shelf
set_option linter.unusedSimpArgs false
set_option linter.unusedVariables false
set_option linter.unusedSectionVars false

/-! The document's Path, plain: byte by byte. -/
def inB (b : UInt8) : Bool := inNameV (b.toNat : Int)
/-- From one place on; p: is it the beginning of a name? -/
def pathL : Bool → List UInt8 → Bool
  | p, [] => !p
  | p, b :: r => if b = 47 then !p && pathL true r else inB b && pathL false r
theorem okL_iff (l : List UInt8) : okL l = (decide (l ≠ []) && l.all inB) := by
  rw [Bool.eq_iff_iff]
  constructor
  · intro h
    obtain ⟨h1, h2⟩ := okL_bytes l h
    simp only [Bool.and_eq_true, decide_eq_true_eq, List.all_eq_true]
    exact ⟨h1, fun b hb => h2 b hb⟩
  · intro h
    simp only [Bool.and_eq_true, decide_eq_true_eq, List.all_eq_true] at h
    have hz : (⟨l.toArray⟩ : ByteArray).size = l.length := List.size_toArray
    unfold okL okName
    rw [Bool.and_eq_true, decide_eq_true_eq, allV_iff _ inNameV (fun n h => (name_small n h).1) _ 0 (by omega)]
    refine ⟨fun e => h.1 (List.eq_nil_of_length_eq_zero (by rw [← hz]; exact e)), fun j _ hj => ?_⟩
    rw [hz] at hj
    rw [byteN_list l j hj]
    exact h.2 _ (List.getElem_mem hj)
theorem path_head : ∀ (l : List UInt8), pathL true l = (splitB 47 l).all okL ∧ pathL false l = match splitB 47 l with | [] => false | h :: t => h.all inB && t.all okL
  | [] => ⟨by decide, by decide⟩
  | b :: r => by
    obtain ⟨i1, i2⟩ := path_head r
    by_cases hb : b = 47
    · rw [pathL, pathL, splitB, if_pos hb, if_pos hb, if_pos hb, i1]
      refine ⟨?_, ?_⟩
      · rw [List.all_cons, okL_iff]; simp
      · simp
    · rw [pathL, pathL, splitB, if_neg hb, if_neg hb, if_neg hb, i2]
      cases hs : splitB 47 r with
      | nil => exact absurd hs (splitB_ne 47 r)
      | cons x t =>
        refine ⟨?_, ?_⟩
        · simp only [List.all_cons, okL_iff]
          simp [Bool.and_assoc]
        · simp only [List.all_cons]
          simp [Bool.and_assoc]
theorem path_L (s : ByteArray) (h : s.size ≤ 200) : pathF s = pathL true s.data.toList := by rw [path_split s h, (path_head _).1]
theorem inB_cases (c : Nat) : inNameV (c : Int) = true ↔ (c = 95 ∨ c = 45 ∨ c = 46 ∨ (48 ≤ c ∧ c ≤ 57) ∨ (97 ≤ c ∧ c ≤ 122) ∨ (65 ≤ c ∧ c ≤ 90)) := by
  unfold inNameV figV
  simp only [Bool.or_eq_true, Bool.and_eq_true, decide_eq_true_eq, beq_iff_eq]
  omega
/-- Where the place i of a text stands. -/
def startB (s : ByteArray) (i : Nat) : Bool := decide (i = 0) || decide (byteN s (i - 1) = 47)
theorem drop_byte (s : ByteArray) (i : Nat) (h : i < s.size) : s.data.toList.drop i = (s.data.toList[i]'(by simpa using h)) :: s.data.toList.drop (i + 1) ∧ (s.data.toList[i]'(by simpa using h)).toNat = byteN s i := by
  have hk : i < s.data.toList.length := by simpa using h
  refine ⟨List.drop_eq_getElem_cons hk, ?_⟩
  simp [byteN, List.getD_eq_getElem?_getD, List.getElem?_eq_getElem hk]
theorem path_step (s : ByteArray) (i : Nat) (h : i < s.size) : pathL (startB s i) (s.data.toList.drop i) =
    if byteN s i = 47 then !(startB s i) && pathL (startB s (i + 1)) (s.data.toList.drop (i + 1)) else inNameV (byteN s i : Int) && pathL (startB s (i + 1)) (s.data.toList.drop (i + 1)) := by
  obtain ⟨h1, h2⟩ := drop_byte s i h
  rw [h1, pathL]
  have e : (s.data.toList[i]'(by simpa using h)) = 47 ↔ byteN s i = 47 := by
    rw [← h2]
    constructor
    · intro e; rw [e]; rfl
    · intro e; exact UInt8.toNat_inj.1 (by rw [e]; rfl)
  by_cases hb : byteN s i = 47
  · rw [if_pos (e.2 hb), if_pos hb]
    have : startB s (i + 1) = true := by unfold startB; simp [hb]
    rw [this]
  · rw [if_neg (fun x => hb (e.1 x)), if_neg hb]
    have : startB s (i + 1) = false := by unfold startB; simp [hb]
    rw [this]
    unfold inB
    rw [h2]
theorem path_end (s : ByteArray) (h : s.size ≠ 0) : pathL (startB s s.size) (s.data.toList.drop s.size) = !decide (byteN s (s.size - 1) = 47) := by
  rw [List.drop_eq_nil_of_le (by simp), pathL]
  unfold startB
  simp [h]
end Go.Proofs.YtlgolagedgllbaaDoor
