import Derived.Test.YtppnjliamfnlkaaLtC
namespace Go.Proofs.Ytppnjliamfnlkaa
open Go.RowKit
set_option linter.unusedSimpArgs false
set_option linter.unusedVariables false
set_option linter.unusedSectionVars false

/-! Layer 3: times. -/
def mulF (base : Nat) : List Nat → Nat → List Nat × Nat
  | [], c => ([], c)
  | f :: t, c => ((c + f * base) % 10 :: (mulF base t ((c + f * base) / 10)).1, (mulF base t ((c + f * base) / 10)).2)
def restF : Nat → Nat → List Nat
  | 0, _ => []
  | n + 1, c => if c = 0 then [] else c % 10 :: restF n (c / 10)
/-- Base times a number, and some more: its figures, the lowest first. -/
def timesF (base : Nat) (l : List Nat) (more : Nat) : List Nat := (mulF base l more).1 ++ restF 3 (mulF base l more).2
theorem carry_lt {base c f : Nat} (hc : c < base) (hf : f < 10) : (c + f * base) / 10 < base := by
  have := Nat.mul_le_mul_right base (show f ≤ 9 by omega)
  omega
theorem mulF_len (base : Nat) : ∀ (l : List Nat) (c : Nat), (mulF base l c).1.length = l.length
  | [], c => rfl
  | f :: t, c => by simp [mulF, mulF_len base t]
theorem mulF_lt (base : Nat) : ∀ (l : List Nat) (c : Nat), ∀ x ∈ (mulF base l c).1, x < 10
  | [], c => by simp [mulF]
  | f :: t, c => by
    intro x hx
    simp only [mulF, List.mem_cons] at hx
    rcases hx with rfl | hx
    · omega
    · exact mulF_lt base t _ x hx
theorem mulF_carry {base : Nat} : ∀ (l : List Nat) (c : Nat), (∀ x ∈ l, x < 10) → c < base → (mulF base l c).2 < base
  | [], c, _, h => h
  | f :: t, c, hl, h => mulF_carry t _ (fun x hx => hl x (by simp [hx])) (carry_lt h (hl f (by simp)))
theorem restF_len : ∀ (n c : Nat), (restF n c).length ≤ n
  | 0, c => by simp [restF]
  | n + 1, c => by
    have := restF_len n (c / 10)
    unfold restF
    split <;> simp <;> omega
theorem restF_lt : ∀ (n c : Nat), ∀ x ∈ restF n c, x < 10
  | 0, c => by simp [restF]
  | n + 1, c => by
    intro x hx
    unfold restF at hx
    split at hx
    · simp at hx
    · simp only [List.mem_cons] at hx
      rcases hx with rfl | hx
      · omega
      · exact restF_lt n _ x hx
theorem timesF_lt (base : Nat) (l : List Nat) (m : Nat) : ∀ x ∈ timesF base l m, x < 10 := by
  intro x hx
  rcases List.mem_append.1 hx with h | h
  · exact mulF_lt _ _ _ x h
  · exact restF_lt _ _ x h
theorem timesF_len (base : Nat) (l : List Nat) (m : Nat) : (timesF base l m).length ≤ l.length + 3 := by
  have := restF_len 3 (mulF base l m).2
  simp only [timesF, List.length_append, mulF_len]; omega

/-- Numbers, as bytes' cells. -/
def u8s (l : List Nat) : List Value := l.map fun (x : Nat) => Value.int .u8 (x : Int)
theorem u8s_len (l : List Nat) : (u8s l).length = l.length := by simp [u8s]
theorem u8s_app (a b : List Nat) : u8s (a ++ b) = u8s a ++ u8s b := by simp [u8s]
theorem u8s_mid (a b : List Nat) (f r : Nat) : (u8s (a ++ f :: b)).set a.length (.int .u8 r) = u8s ((a ++ [r]) ++ b) := by
  simp only [u8s, List.map_append, List.map_cons, List.map_nil]
  rw [List.set_append_right _ _ (by simp)]
  simp
theorem u8s_at (a b : List Nat) (f : Nat) : (u8s (a ++ f :: b))[a.length]? = some (.int .u8 (f : Int)) := by
  simp only [u8s, List.map_append, List.map_cons]
  rw [List.getElem?_append_right (by simp)]
  simp
theorem info8 : (Try.prog.info? 5).map (fun i => (i.zero, i.size, i.bytes)) = some (some (.int .u8 0), 1, 1) := by kernel_rfl

theorem row_some {w : World} {base e size n : Nat} {v : Value} {xs : List Value} (h : w.ownsRow base e size v n xs) (hx : xs ≠ []) : ∃ g cap, v = .slice (some ⟨g, 0, none⟩) n cap := by
  rcases h.2 with ⟨rfl, h2⟩ | ⟨g, cap, cur, rfl, _⟩
  · subst h2
    exact absurd (List.eq_nil_of_length_eq_zero (by simpa using h.1)) hx
  · exact ⟨_, _, rfl⟩
theorem row_slice {w : World} {base e size n : Nat} {v : Value} {xs : List Value} (h : w.ownsRow base e size v n xs) : ∃ a c, v = .slice a n c := by
  rcases h.2 with ⟨rfl, rfl⟩ | ⟨g, cap, cur, rfl, _⟩
  · exact ⟨_, _, rfl⟩
  · exact ⟨_, _, rfl⟩
end Go.Proofs.Ytppnjliamfnlkaa
