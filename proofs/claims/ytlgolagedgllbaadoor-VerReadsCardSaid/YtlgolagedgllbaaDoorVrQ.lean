import Derived.Test.YtlgolagedgllbaaDoorVrN
import Derived.Test.YtlgolagedgllbaaDoorVrM
namespace Go.Proofs.YtlgolagedgllbaaDoor
open Go.RowKit Go.Shelf
set_option linter.unusedSimpArgs false
set_option linter.unusedVariables false
set_option linter.unusedSectionVars false

/-! VerBack, plain: what is written is read. -/
theorem name_small (n : Nat) (h : inNameV (n : Int) = true) : n < 128 ∧ n ≠ 10 ∧ n ≠ 32 ∧ n ≠ 9 ∧ n ≠ 13 := by
  unfold inNameV figV at h
  simp only [Bool.or_eq_true, Bool.and_eq_true, decide_eq_true_eq, beq_iff_eq] at h
  omega
theorem all_bytes (s : ByteArray) : ∀ (f i : Nat), s.size < f + i → allV s inNameV f i = true → ∀ j, i ≤ j → j < s.size → inNameV (byteN s j : Int) = true
  | 0, i, hf, _, j, hi, hj => by omega
  | f + 1, i, hf, h, j, hi, hj => by
    rw [allV, if_pos (by omega)] at h
    split at h
    · rename_i hq
      rcases dec_byteV s i (by omega) with ⟨hd, _⟩ | ⟨hd, _⟩
      · rw [hd] at h hq
        by_cases hij : j = i
        · rw [hij]; exact hq
        · exact all_bytes s f (i + 1) (by omega) h j (by omega) hj
      · have := (name_small _ hq).1
        omega
    · cases h
theorem byteN_list (l : List UInt8) (j : Nat) (hj : j < l.length) : byteN ⟨l.toArray⟩ j = (l[j]).toNat := by
  simp [byteN, List.getD_eq_getElem?_getD, List.getElem?_eq_getElem hj]
theorem okL_bytes (l : List UInt8) (h : okL l = true) : l ≠ [] ∧ ∀ b ∈ l, inNameV (b.toNat : Int) = true := by
  unfold okL okName at h
  simp only [Bool.and_eq_true, decide_eq_true_eq] at h
  have hz : (⟨l.toArray⟩ : ByteArray).size = l.length := List.size_toArray
  refine ⟨fun e => h.1 (by rw [hz, e]; rfl), fun b hb => ?_⟩
  obtain ⟨j, hj, rfl⟩ := List.getElem_of_mem hb
  have := all_bytes _ _ _ (by omega) h.2 j (Nat.zero_le _) (by rw [hz]; exact hj)
  rwa [byteN_list l j hj] at this
theorem split_mem (c : UInt8) : ∀ (l : List UInt8) (b : UInt8), b ∈ l → b = c ∨ ∃ x ∈ splitB c l, b ∈ x
  | y :: r, b, h => by
    rw [splitB]
    by_cases hy : y = c
    · rw [if_pos hy]
      rcases List.mem_cons.1 h with rfl | h
      · exact .inl hy
      · rcases split_mem c r b h with e | ⟨x, hx, hb⟩
        · exact .inl e
        · exact .inr ⟨x, List.mem_cons_of_mem _ hx, hb⟩
    · rw [if_neg hy]
      cases hs : splitB c r with
      | nil => exact absurd hs (splitB_ne c r)
      | cons z t =>
        rcases List.mem_cons.1 h with rfl | h
        · exact .inr ⟨_, List.mem_cons_self, List.mem_cons_self⟩
        · rcases split_mem c r b h with e | ⟨x, hx, hb⟩
          · exact .inl e
          · rw [hs] at hx
            rcases List.mem_cons.1 hx with rfl | hx
            · exact .inr ⟨_, List.mem_cons_self, List.mem_cons_of_mem _ hb⟩
            · exact .inr ⟨x, List.mem_cons_of_mem _ hx, hb⟩
def noSS : List UInt8 → Bool
  | a :: b :: r => !(a == 47 && b == 47) && noSS (b :: r)
  | _ => true
theorem noSS_cons (a : UInt8) (l : List UInt8) (h : a ≠ 47) : noSS (a :: l) = noSS l := by
  cases l with
  | nil => rfl
  | cons b r =>
    rw [noSS]
    have : (a == 47) = false := by simpa using h
    rw [this]
    rfl
theorem noSS_index : ∀ (l : List UInt8), noSS l = true → Lib.index l [47, 47] = -1
  | [], _ => rfl
  | [a], _ => by rw [Lib.index]; simp [List.isPrefixOf, Lib.index]
  | a :: b :: r, h => by
    rw [noSS, Bool.and_eq_true] at h
    have ih := noSS_index (b :: r) h.2
    have h1 := h.1
    rw [Lib.index, ih]
    have hp : ([47, 47] : List UInt8).isPrefixOf (a :: b :: r) = false := by
      simp only [List.isPrefixOf, Bool.and_true]
      simp only [Bool.not_eq_true', Bool.and_eq_false_iff, beq_eq_false_iff_ne] at h1 ⊢
      rcases h1 with h1 | h1
      · exact .inl (Ne.symm h1)
      · exact .inr (Ne.symm h1)
    rw [hp]
    rfl
theorem split_noSS : ∀ (l : List UInt8), (splitB 47 l).tail.all (fun x => x != []) = true → noSS l = true
  | [], _ => rfl
  | x :: r, h => by
    rw [splitB] at h
    by_cases hx : x = 47
    · rw [if_pos hx] at h
      have h' : (splitB 47 r).all (fun x => x != []) = true := h
      have ht : (splitB 47 r).tail.all (fun x => x != []) = true := by
        rw [List.all_eq_true] at h' ⊢
        exact fun y hy => h' y (List.mem_of_mem_tail hy)
      have ih := split_noSS r ht
      cases r with
      | nil => rfl
      | cons y t =>
        rw [noSS, ih, hx]
        have hy : y ≠ 47 := by
          intro e
          rw [splitB, if_pos e, List.all_cons] at h'
          simp at h'
        have : (y == 47) = false := by simpa using hy
        rw [this]
        rfl
    · rw [if_neg hx] at h
      rw [noSS_cons x r hx]
      apply split_noSS r
      cases hs : splitB 47 r with
      | nil => rfl
      | cons z t => rw [hs] at h; exact h
/-- A path's bytes. -/
theorem path_bytes (s : ByteArray) (h : pathF s = true) : s.size ≤ 200 ∧ s.data.toList ≠ [] ∧ noSS s.data.toList = true ∧ ∀ b ∈ s.data.toList, b.toNat < 128 ∧ b.toNat ≠ 10 ∧ b.toNat ≠ 32 ∧ b.toNat ≠ 9 ∧ b.toNat ≠ 13 := by
  have hz : s.size ≤ 200 := by
    unfold pathF at h
    split at h
    · cases h
    · omega
  rw [path_split s hz, List.all_eq_true] at h
  refine ⟨hz, fun e => ?_, split_noSS _ ?_, fun b hb => ?_⟩
  · rw [e] at h
    have := (okL_bytes _ (h [] (by simp [splitB]))).1
    exact this rfl
  · rw [List.all_eq_true]
    intro x hx
    have := (okL_bytes _ (h x (List.mem_of_mem_tail hx))).1
    simpa using this
  · rcases split_mem 47 _ b hb with rfl | ⟨x, hx, hb⟩
    · decide
    · exact name_small _ ((okL_bytes x (h x hx)).2 b hb)
end Go.Proofs.YtlgolagedgllbaaDoor
