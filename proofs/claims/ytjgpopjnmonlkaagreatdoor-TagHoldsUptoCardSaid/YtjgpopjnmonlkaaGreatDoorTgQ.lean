import Derived.Test.YtjgpopjnmonlkaaGreatDoorTgP
import Derived.Lib.SlicesS
import Derived.Lib.Slices
namespace Go.Proofs.YtjgpopjnmonlkaaGreatDoor
open Go.RowKit
set_option linter.unusedSimpArgs false
set_option linter.unusedVariables false
set_option linter.unusedSectionVars false

/-! Layer 5: what holds of constraints (plain). -/
theorem rightsF_all : ∀ (n : Nat) (ks : List Ex), rightsF n ks = ks.all (rightF n)
  | _, [] => by simp [rightsF]
  | n, k :: ks => by simp only [rightsF, List.all_cons, rightsF_all n ks]
theorem rightF_mono : ∀ (n : Nat) (x : Ex), rightF n x = true → rightF (n + 1) x = true
  | 0, x, h => by simp [rightF] at h
  | n + 1, .node op tag kids, h => by
    have hk : rightsF n kids = true → rightsF (n + 1) kids = true := by
      rw [rightsF_all, rightsF_all, List.all_eq_true, List.all_eq_true]
      exact fun h k hk => rightF_mono n k (h k hk)
    rw [rightF] at h ⊢
    split
    · rename_i h1
      rw [if_pos h1] at h
      exact h
    · rename_i h1
      rw [if_neg h1] at h
      split
      · rename_i h2
        rw [if_pos h2] at h
        simp only [Bool.and_eq_true] at h ⊢
        exact ⟨h.1, h.2.1, hk h.2.2⟩
      · rename_i h2
        rw [if_neg h2] at h
        split
        · rename_i h3
          rw [if_pos h3] at h
          simp only [Bool.and_eq_true] at h ⊢
          exact ⟨h.1, h.2.1, hk h.2.2⟩
        · rename_i h3
          rw [if_neg h3] at h
          exact h
mutual
def holdsF (rel : ByteArray → Int) (tags : List ByteArray) : Ex → Bool
  | .node op tag kids =>
    if op = opNot then !(holdsHead rel tags kids)
    else if op = opAnd then holdsAll rel tags kids
    else if op = opOr then holdsAny rel tags kids
    else if rel tag ≠ -1 then decide (rel tag ≤ 24) else Lib.containsS tags tag
def holdsAll (rel : ByteArray → Int) (tags : List ByteArray) : List Ex → Bool
  | [] => true
  | k :: ks => holdsF rel tags k && holdsAll rel tags ks
def holdsAny (rel : ByteArray → Int) (tags : List ByteArray) : List Ex → Bool
  | [] => false
  | k :: ks => holdsF rel tags k || holdsAny rel tags ks
def holdsHead (rel : ByteArray → Int) (tags : List ByteArray) : List Ex → Bool
  | [] => false
  | k :: _ => holdsF rel tags k
end
theorem holdsAll_all (rel : ByteArray → Int) (tags : List ByteArray) : ∀ ks, holdsAll rel tags ks = ks.all (holdsF rel tags)
  | [] => by simp [holdsAll]
  | k :: ks => by simp only [holdsAll, List.all_cons, holdsAll_all rel tags ks]
theorem holdsAny_any (rel : ByteArray → Int) (tags : List ByteArray) : ∀ ks, holdsAny rel tags ks = ks.any (holdsF rel tags)
  | [] => by simp [holdsAny]
  | k :: ks => by simp only [holdsAny, List.any_cons, holdsAny_any rel tags ks]
mutual
def leastF (rel : ByteArray → Int) : Ex → Int
  | .node op tag kids =>
    if op = opNot then -1
    else if op = opAnd then Lib.maxOf (leastL rel kids)
    else if op = opOr then Lib.minOf (leastL rel kids)
    else rel tag
def leastL (rel : ByteArray → Int) : List Ex → List Int
  | [] => []
  | k :: ks => leastF rel k :: leastL rel ks
end
theorem leastL_map (rel : ByteArray → Int) : ∀ ks, leastL rel ks = ks.map (leastF rel)
  | [] => by simp [leastL]
  | k :: ks => by simp only [leastL, List.map_cons, leastL_map rel ks]
/-! Does a not stand in it? -/
mutual
def deniesF : Ex → Bool
  | .node op _ kids => decide (op = opNot) || deniesL kids
def deniesL : List Ex → Bool
  | [] => false
  | k :: ks => deniesF k || deniesL ks
end
theorem deniesL_any : ∀ ks, deniesL ks = ks.any deniesF
  | [] => by simp [deniesL]
  | k :: ks => by simp only [deniesL, List.any_cons, deniesL_any ks]
/-! With the same tags it holds the same. -/
mutual
theorem holds_tags {rel : ByteArray → Int} {t u : List ByteArray} (h : ∀ x, Lib.containsS t x = Lib.containsS u x) : ∀ (x : Ex), holdsF rel t x = holdsF rel u x
  | .node op tag kids => by
    simp only [holdsF]
    rw [holdsL_tags h kids |>.1, holdsL_tags h kids |>.2.1, holdsL_tags h kids |>.2.2, h tag]
theorem holdsL_tags {rel : ByteArray → Int} {t u : List ByteArray} (h : ∀ x, Lib.containsS t x = Lib.containsS u x) : ∀ (ks : List Ex), holdsAll rel t ks = holdsAll rel u ks ∧ holdsAny rel t ks = holdsAny rel u ks ∧ holdsHead rel t ks = holdsHead rel u ks
  | [] => by simp [holdsAll, holdsAny, holdsHead]
  | k :: ks => by
    have h1 := holds_tags h (rel := rel) k
    have h2 := holdsL_tags h (rel := rel) ks
    simp only [holdsAll, holdsAny, holdsHead, h1, h2.1, h2.2.1]
    exact ⟨trivial, trivial, trivial⟩
end
/-! More tags, where no not stands. -/
mutual
theorem holds_more {rel : ByteArray → Int} {t u : List ByteArray} (h : ∀ x, Lib.containsS t x = true → Lib.containsS u x = true) : ∀ (x : Ex), deniesF x = false → holdsF rel t x = true → holdsF rel u x = true
  | .node op tag kids, hd, hh => by
    simp only [deniesF, Bool.or_eq_false_iff, decide_eq_false_iff_not] at hd
    obtain ⟨h1, h2⟩ := holdsL_more h (rel := rel) kids hd.2
    simp only [holdsF] at hh ⊢
    rw [if_neg hd.1] at hh ⊢
    split
    · rename_i h3
      rw [if_pos h3] at hh
      exact h1 hh
    · rename_i h3
      rw [if_neg h3] at hh
      split
      · rename_i h4
        rw [if_pos h4] at hh
        exact h2 hh
      · rename_i h4
        rw [if_neg h4] at hh
        split
        · rename_i h5
          rw [if_pos h5] at hh
          exact hh
        · rename_i h5
          rw [if_neg h5] at hh
          exact h tag hh
theorem holdsL_more {rel : ByteArray → Int} {t u : List ByteArray} (h : ∀ x, Lib.containsS t x = true → Lib.containsS u x = true) : ∀ (ks : List Ex), deniesL ks = false → (holdsAll rel t ks = true → holdsAll rel u ks = true) ∧ (holdsAny rel t ks = true → holdsAny rel u ks = true)
  | [], _ => by simp [holdsAll, holdsAny]
  | k :: ks, hd => by
    simp only [deniesL, Bool.or_eq_false_iff] at hd
    have h1 := holds_more h (rel := rel) k hd.1
    obtain ⟨h2, h3⟩ := holdsL_more h (rel := rel) ks hd.2
    simp only [holdsAll, holdsAny, Bool.and_eq_true, Bool.or_eq_true]
    exact ⟨fun hh => ⟨h1 hh.1, h2 hh.2⟩, fun hh => hh.imp h1 h3⟩
end
end Go.Proofs.YtjgpopjnmonlkaaGreatDoor
