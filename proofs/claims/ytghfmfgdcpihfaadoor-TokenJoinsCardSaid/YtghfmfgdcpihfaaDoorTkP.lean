import Derived.Test.YtghfmfgdcpihfaaDoorTkO
namespace Go.Proofs.YtghfmfgdcpihfaaDoor
open Go.RowKit
set_option linter.unusedSimpArgs false
set_option linter.unusedVariables false
set_option linter.unusedSectionVars false

/-- A token is of the kind that its text has. -/
structure KOK (t : Tok) : Prop where
  lo : 1 ≤ t.kind
  hi : t.kind ≤ 6
  name : nameF t.text = (t.kind == 1)
  w1 : (wordL t.text.toList == 1) = (t.kind == 2)
  w2 : (wordL t.text.toList == 2) = (t.kind == 3)
  num : t.kind = 4 → 0 < t.text.size ∧ 48 ≤ byteN t.text 0 ∧ byteN t.text 0 ≤ 57
  txt : t.kind = 5 → 0 < t.text.size ∧ (byteN t.text 0 = 34 ∨ byteN t.text 0 = 96)

theorem kok_nl (at_ : Nat) : KOK ⟨6, nlB, at_⟩ :=
  ⟨(by show (1 : Int) ≤ 6; decide), (by show (6 : Int) ≤ 6; decide), by kernel_rfl, by kernel_rfl, by kernel_rfl, (fun h => absurd h (by show ¬ (6 : Int) = 4; decide)), (fun h => absurd h (by show ¬ (6 : Int) = 5; decide))⟩

theorem kok_end {tk : List Tok} (h : ∀ t ∈ tk, KOK t) (at_ : Nat) : ∀ t ∈ endF tk at_, KOK t := by
  unfold endF
  split
  · split
    · intro t ht
      rcases List.mem_append.1 ht with ht | ht
      · exact h t ht
      · rw [List.mem_singleton.1 ht]; exact kok_nl at_
    · exact h
  · exact h
theorem kok_note {tk : List Tok} (h : ∀ t ∈ tk, KOK t) (s : ByteArray) (at_ : Nat) : ∀ t ∈ noteF tk s at_, KOK t := by
  unfold noteF
  split
  · exact kok_end h at_
  · exact h

/-- Words begin with a small letter. -/
theorem word_head {l : List UInt8} (h : wordL l ≠ 0) : ∃ c r, l = c :: r ∧ 97 ≤ c.toNat ∧ c.toNat ≤ 122 := by
  have h1 : ∀ x ∈ words1 ++ words2, ∃ c r, x = c :: r ∧ 97 ≤ c.toNat ∧ c.toNat ≤ 122 := by
    intro x hx
    have hall : (words1 ++ words2).all (fun x => match x with | c :: _ => decide (97 ≤ c.toNat) && decide (c.toNat ≤ 122) | [] => false) = true := by decide
    have := List.all_eq_true.1 hall x hx
    match x, this with
    | c :: r, h => exact ⟨c, r, rfl, by simp at h; omega, by simp at h; omega⟩
  unfold wordL at h
  by_cases a : l ∈ words1
  · exact h1 l (by simp [a])
  · rw [if_neg a] at h
    by_cases b : l ∈ words2
    · exact h1 l (by simp [b])
    · rw [if_neg b] at h; exact absurd rfl h

theorem byteN_head {s : ByteArray} {c : UInt8} {r : List UInt8} (h : s.toList = c :: r) : byteN s 0 = c.toNat := by
  unfold byteN
  rw [← Lib.toList_data, h]; rfl
theorem word_zero {s : ByteArray} (h : byteN s 0 < 97) : wordL s.toList = 0 := by
  by_cases h0 : wordL s.toList = 0
  · exact h0
  · obtain ⟨c, r, e, h1, h2⟩ := word_head h0
    rw [byteN_head e] at h; omega
theorem name_zero {s : ByteArray} (hp : 0 < s.size) (h : letterN (byteN s 0) = false) : nameF s = false := by
  rw [name_eq]
  unfold refNameF
  rw [empty_iff, show decide (s.size = 0) = false from decide_eq_false (by omega)]
  simp only [Bool.false_eq_true, if_false]
  split
  · rfl
  · rename_i hf
    split
    · rw [refG, if_pos hp, h]; simp [hf]
    · rfl

theorem byteN_ext (s : ByteArray) (a b i : Nat) (h : i < b - a) (hb : b ≤ s.size) : byteN (s.extract a b) i = byteN s (a + i) := by
  unfold byteN
  congr 1
  rw [Lib.extract_data, List.getD_eq_getElem?_getD, List.getD_eq_getElem?_getD, List.getElem?_take, if_pos h, List.getElem?_drop]

theorem kok_num (s : ByteArray) (at_ : Nat) (hp : 0 < s.size) (h1 : 48 ≤ byteN s 0) (h2 : byteN s 0 ≤ 57) : KOK ⟨4, s, at_⟩ := by
  have hw : wordL s.toList = 0 := word_zero (by omega)
  have hn : nameF s = false := name_zero hp (by rw [← Bool.not_eq_true]; unfold letterN; simp only [Bool.or_eq_true, Bool.and_eq_true, decide_eq_true_eq, beq_iff_eq]; omega)
  exact ⟨(by show (1 : Int) ≤ 4; decide), (by show (4 : Int) ≤ 6; decide), hn, (by rw [hw]; rfl), (by rw [hw]; rfl), fun _ => ⟨hp, h1, h2⟩, (fun h => absurd h (by show ¬ (4 : Int) = 5; decide))⟩
theorem kok_txt (s : ByteArray) (at_ : Nat) (hp : 0 < s.size) (h1 : byteN s 0 = 34 ∨ byteN s 0 = 96) : KOK ⟨5, s, at_⟩ := by
  have hw : wordL s.toList = 0 := word_zero (by omega)
  have hn : nameF s = false := name_zero hp (by rw [← Bool.not_eq_true]; unfold letterN; simp only [Bool.or_eq_true, Bool.and_eq_true, decide_eq_true_eq, beq_iff_eq]; omega)
  exact ⟨(by show (1 : Int) ≤ 5; decide), (by show (5 : Int) ≤ 6; decide), hn, (by rw [hw]; rfl), (by rw [hw]; rfl), (fun h => absurd h (by show ¬ (5 : Int) = 4; decide)), fun _ => ⟨hp, h1⟩⟩
theorem kok_sign (s : ByteArray) (at_ : Nat) (h : s ∈ signsL) : KOK ⟨6, s, at_⟩ := by
  have hall : signsL.all (fun x => !nameF x && wordL x.toList == 0) = true := by kernel_rfl
  have := List.all_eq_true.1 hall s h
  simp only [Bool.and_eq_true, Bool.not_eq_true', beq_iff_eq] at this
  exact ⟨(by show (1 : Int) ≤ 6; decide), (by show (6 : Int) ≤ 6; decide), this.1, (by rw [this.2]; rfl), (by rw [this.2]; rfl), (fun h => absurd h (by show ¬ (6 : Int) = 4; decide)), (fun h => absurd h (by show ¬ (6 : Int) = 5; decide))⟩

theorem firstSign_mem (s : ByteArray) (l : List ByteArray) (h : firstSign s l ≠ 0) : s.extract 0 (firstSign s l) ∈ l := by
  induction l with
  | nil => exact absurd rfl h
  | cons x r ih =>
    rw [firstSign] at h ⊢
    split
    · rename_i hp
      simp only [pre, Bool.and_eq_true, decide_eq_true_eq, beq_iff_eq] at hp
      have : s.extract 0 x.size = x := by
        have h2 := hp.2
        rw [Lib.toList_data, Lib.toList_data] at h2
        apply ByteArray.ext
        exact Array.toList_inj.1 h2
      rw [this]; simp
    · rename_i hp
      rw [if_neg hp] at h
      exact List.mem_cons_of_mem _ (ih h)

/-- Ahead of the first sign outside stand letters and figures alone. -/
theorem before_in (s : ByteArray) : ∀ (f i j : Nat), s.size < f + i → i ≤ j → j < beforeF s outsideI f i → j < s.size ∧ (letterN (byteN s j) || figureN (byteN s j)) = true := by
  intro f
  induction f with
  | zero => intro i j h1 h2 h3; rw [beforeF] at h3; omega
  | succ f ih =>
    intro i j h1 h2 h3
    rw [beforeF] at h3
    by_cases hi : i < s.size
    · rw [if_pos hi] at h3
      by_cases ho : outsideI (Utf8.decode s i).1 = true
      · rw [if_pos ho] at h3; omega
      · rw [if_neg ho] at h3
        rcases dec_byte s i hi with ⟨e1, e2, _⟩ | ⟨e1, e2⟩
        · rw [e1] at ho
          rw [e2] at h3
          by_cases hj : j = i
          · subst hj
            refine ⟨hi, ?_⟩
            unfold outsideI at ho
            rw [letter_byte, figure_byte] at ho
            revert ho
            cases letterN (byteN s j) <;> cases figureN (byteN s j) <;> simp
          · exact ih (i + 1) j (by omega) (by omega) h3
        · exfalso
          apply ho
          unfold outsideI
          rw [letter_byte, figure_byte, letter_big _ e1, figure_big _ e1]; rfl
    · rw [if_neg hi] at h3; omega

theorem refG_all (s : ByteArray) : ∀ (f i : Nat), (∀ j, i ≤ j → j < s.size → (letterN (byteN s j) || figureN (byteN s j)) = true) → refG s f i = true := by
  intro f
  induction f with
  | zero => intro i _; rfl
  | succ f ih =>
    intro i h
    rw [refG]
    split
    · rename_i hi
      have := h i (Nat.le_refl _) hi
      rw [if_neg (by revert this; cases letterN (byteN s i) <;> cases figureN (byteN s i) <;> simp)]
      exact ih (i + 1) (fun j hj => h j (by omega))
    · rfl

theorem kok_word (s : ByteArray) (at_ : Nat) (hp : 0 < s.size) (h0 : letterN (byteN s 0) = true) (h : ∀ j, j < s.size → (letterN (byteN s j) || figureN (byteN s j)) = true) : KOK ⟨namedK s.toList, s, at_⟩ := by
  have hf : figureN (byteN s 0) = false := by
    rw [← Bool.not_eq_true]
    unfold letterN at h0
    unfold figureN
    simp only [Bool.or_eq_true, Bool.and_eq_true, decide_eq_true_eq, beq_iff_eq] at *
    omega
  have hn : nameF s = decide (wordL s.toList = 0) := by
    rw [name_eq]
    unfold refNameF
    rw [empty_iff, show decide (s.size = 0) = false from decide_eq_false (by omega), hf, refG_all s _ 0 (fun j _ hj => h j hj)]
    by_cases hw : wordL s.toList = 0 <;> simp [hw]
  rcases wordL_cases s.toList with hw | hw | hw
  · have e : namedK s.toList = 1 := by unfold namedK; rw [hw]; rfl
    rw [hw] at hn
    rw [e]
    exact ⟨(by show (1 : Int) ≤ 1; decide), (by show (1 : Int) ≤ 6; decide), (by rw [hn]; rfl), (by rw [hw]; rfl), (by rw [hw]; rfl), (fun h => absurd h (by show ¬ (1 : Int) = 4; decide)), (fun h => absurd h (by show ¬ (1 : Int) = 5; decide))⟩
  · have e : namedK s.toList = 2 := by unfold namedK; rw [hw]; rfl
    rw [hw] at hn
    rw [e]
    exact ⟨(by show (1 : Int) ≤ 2; decide), (by show (2 : Int) ≤ 6; decide), (by rw [hn]; rfl), (by rw [hw]; rfl), (by rw [hw]; rfl), (fun h => absurd h (by show ¬ (2 : Int) = 4; decide)), (fun h => absurd h (by show ¬ (2 : Int) = 5; decide))⟩
  · have e : namedK s.toList = 3 := by unfold namedK; rw [hw]; rfl
    rw [hw] at hn
    rw [e]
    exact ⟨(by show (1 : Int) ≤ 3; decide), (by show (3 : Int) ≤ 6; decide), (by rw [hn]; rfl), (by rw [hw]; rfl), (by rw [hw]; rfl), (fun h => absurd h (by show ¬ (3 : Int) = 4; decide)), (fun h => absurd h (by show ¬ (3 : Int) = 5; decide))⟩
end Go.Proofs.YtghfmfgdcpihfaaDoor
