import Derived.Test.YtiifakdpacicjaaO
namespace Go.Proofs.Ytiifakdpacicjaa
open Go.RowKit

/-- One place is not behind another. -/
def le2 (a b : Nat × Nat) : Prop := a.1 < b.1 ∨ (a.1 = b.1 ∧ a.2 ≤ b.2)
def lt2 (a b : Nat × Nat) : Prop := a.1 < b.1 ∨ (a.1 = b.1 ∧ a.2 < b.2)
theorem le2_refl (a : Nat × Nat) : le2 a a := .inr ⟨rfl, Nat.le_refl _⟩
theorem lt2_le2 {a b c : Nat × Nat} (h : lt2 a b) (k : le2 b c) : lt2 a c := by unfold lt2 le2 at *; omega
theorem lt2_le {a b : Nat × Nat} (h : lt2 a b) : le2 a b := by unfold lt2 le2 at *; omega
theorem next_lt (l c : Nat) (p : Prop) [Decidable p] : lt2 (l, c) ((if p then l + 1 else l), (if p then 1 else c + 1)) := by
  unfold lt2; by_cases h : p <;> simp [h]

theorem ofR_from (s : ByteArray) (y : Nat) : ∀ (f i l c : Nat), le2 (l, c) (ofR s y f i l c) := by
  intro f
  induction f with
  | zero => intro i l c; exact le2_refl _
  | succ f ih =>
    intro i l c
    rw [ofR]
    split
    · exact lt2_le (lt2_le2 (next_lt l c _) (ih _ _ _))
    · exact le2_refl _
theorem ofR_mono (s : ByteArray) {x y : Nat} (h : x ≤ y) : ∀ (f i l c : Nat), le2 (ofR s x f i l c) (ofR s y f i l c) := by
  intro f
  induction f with
  | zero => intro i l c; exact le2_refl _
  | succ f ih =>
    intro i l c
    by_cases hx : i < x
    · rw [ofR, if_pos hx, ofR, if_pos (show i < y by omega)]; exact ih _ _ _
    · rw [ofR, if_neg hx]; exact ofR_from s y _ _ _ _
theorem ofR_pos (s : ByteArray) (y : Nat) : ∀ (f i l c : Nat), 1 ≤ l → 1 ≤ c → 1 ≤ (ofR s y f i l c).1 ∧ 1 ≤ (ofR s y f i l c).2 := by
  intro f
  induction f with
  | zero => intro i l c h1 h2; exact ⟨h1, h2⟩
  | succ f ih =>
    intro i l c h1 h2
    rw [ofR]
    split
    · exact ih _ _ _ (by split <;> omega) (by split <;> omega)
    · exact ⟨h1, h2⟩
def placeR (s : ByteArray) (y : Nat) : Nat × Nat := ofR s y (s.size + 1) 0 1 1
theorem placeR_mono (s : ByteArray) {x y : Nat} (h : x ≤ y) : le2 (placeR s x) (placeR s y) := ofR_mono s h _ _ _ _
theorem placeR_pos (s : ByteArray) (y : Nat) : 1 ≤ (placeR s y).1 ∧ 1 ≤ (placeR s y).2 := ofR_pos s y _ _ _ _ (by omega) (by omega)
theorem placeR_lines (s : ByteArray) {y : Nat} (h : y ≤ s.size) : (placeR s y).1 ≤ linesN s := by
  have h1 := placeR_mono s h
  have h2 := lines_eq s
  rw [ofF_eq s _ (Nat.le_refl _)] at h2
  have h3 : (placeR s s.size).1 = linesN s := h2
  unfold le2 at h1; omega

/-- A place where a sign begins, reached from i on. -/
inductive Reach (s : ByteArray) (i : Nat) : Nat → Prop
  | refl : Reach s i i
  | step {k : Nat} : Reach s i k → k < s.size → Reach s i (k + signN s k)
theorem Reach.head {s : ByteArray} {i n : Nat} (h : Reach s i n) : n = i ∨ (i < s.size ∧ Reach s (i + signN s i) n) := by
  induction h with
  | refl => exact .inl rfl
  | step hk hlt ih =>
    rcases ih with rfl | ⟨h1, h2⟩
    · exact .inr ⟨hlt, .refl⟩
    · exact .inr ⟨h1, h2.step hlt⟩
theorem Reach.le {s : ByteArray} {i n : Nat} (h : Reach s i n) : i ≤ n := by
  induction h with
  | refl => exact Nat.le_refl _
  | step _ hlt ih => omega

theorem back_eq (s : ByteArray) : ∀ (f i l c n : Nat), s.size < f + i → i ≤ s.size → n ≤ s.size → Reach s i n →
    eachF s (atStep (ofR s n f i l c).1 (ofR s n f i l c).2) f (-1) i l c = n := by
  intro f
  induction f with
  | zero => intro i l c n h1 h2; omega
  | succ f ih =>
    intro i l c n h1 h2 h3 hr
    rcases hr.head with rfl | ⟨hlt, hr2⟩
    · rw [ofR, if_neg (by omega)]
      by_cases hlt : n < s.size
      · rw [eachF_stop hlt (st2 := (n : Int)) (by simp [atStep])]
      · rw [eachF_end hlt]; simp [atStep]; omega
    · obtain ⟨n1, n2, _⟩ := signN_size hlt
      have hle := hr2.le
      have e : ofR s n (f + 1) i l c = ofR s n f (i + signN s i) (if signV s i = 10 then l + 1 else l) (if signV s i = 10 then 1 else c + 1) := by
        rw [ofR, if_pos (by omega)]
      have hl := lt2_le2 (next_lt l c (signV s i = 10)) (ofR_from s n f (i + signN s i) _ _)
      rw [← e] at hl
      rw [eachF_go hlt (st2 := -1) (by unfold atStep; rw [if_neg (by unfold lt2 at hl; omega)]), signN_dec s i hlt]
      have := ih (i + signN s i) (if signV s i = 10 then l + 1 else l) (if signV s i = 10 then 1 else c + 1) n (by omega) (by omega) h3 hr2
      rw [← e] at this
      simp only [ten_dec s i hlt]
      exact this

theorem at_back (s : ByteArray) (n : Nat) (h : n ≤ s.size) (hr : Reach s 0 n) : atF s (placeR s n).1 (placeR s n).2 = n :=
  back_eq s _ _ _ _ n (by omega) (by omega) h hr

theorem at_some (s : ByteArray) (pl pc : Int) : ∀ (f i l c : Nat), s.size < f + i → i ≤ s.size →
    eachF s (atStep pl pc) f (-1) i l c = -1 ∨ ∃ n : Nat, eachF s (atStep pl pc) f (-1) i l c = n ∧ i ≤ n ∧ n ≤ s.size ∧ ((ofR s n f i l c).1 : Int) = pl ∧ ((ofR s n f i l c).2 : Int) = pc := by
  intro f
  induction f with
  | zero => intro i l c h1 h2; omega
  | succ f ih =>
    intro i l c h1 h2
    by_cases hp : (l : Int) = pl ∧ (c : Int) = pc
    · right
      refine ⟨i, ?_, Nat.le_refl _, h2, ?_⟩
      · by_cases hlt : i < s.size
        · rw [eachF_stop hlt (st2 := (i : Int)) (by simp [atStep, hp])]
        · rw [eachF_end hlt]; simp [atStep, hp]; omega
      · rw [ofR, if_neg (by omega)]; exact hp
    · by_cases hlt : i < s.size
      · obtain ⟨n1, n2, _⟩ := signN_size hlt
        rw [eachF_go hlt (st2 := -1) (by unfold atStep; rw [if_neg hp]), signN_dec s i hlt]
        simp only [ten_dec s i hlt]
        rcases ih (i + signN s i) (if signV s i = 10 then l + 1 else l) (if signV s i = 10 then 1 else c + 1) (by omega) (by omega) with h | ⟨n, h3, h4, h5, h6⟩
        · exact .inl h
        · refine .inr ⟨n, h3, by omega, h5, ?_⟩
          rw [ofR, if_pos (by omega)]; exact h6
      · left
        rw [eachF_end hlt]; unfold atStep; rw [if_neg hp]
theorem at_or (s : ByteArray) (pl pc : Int) : atF s pl pc = -1 ∨ ∃ n : Nat, atF s pl pc = n ∧ n ≤ s.size ∧ ((placeR s n).1 : Int) = pl ∧ ((placeR s n).2 : Int) = pc := by
  rcases at_some s pl pc (s.size + 1) 0 1 1 (by omega) (by omega) with h | ⟨n, h1, _, h2, h3, h4⟩
  · exact .inl h
  · exact .inr ⟨n, h1, h2, h3, h4⟩

end Go.Proofs.Ytiifakdpacicjaa
