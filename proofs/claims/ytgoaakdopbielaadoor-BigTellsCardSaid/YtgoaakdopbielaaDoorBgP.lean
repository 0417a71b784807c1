import Derived.Test.YtgoaakdopbielaaDoorMa
namespace Go.Proofs.YtgoaakdopbielaaDoor
set_option linter.unusedSimpArgs false
set_option linter.unusedVariables false

/-! Layer 9, plain: what is read of figures. -/
def p10 (k : Nat) : Int := 10 ^ k
theorem p10_succ (k : Nat) : p10 (k + 1) = 10 * p10 k := by unfold p10; rw [Int.pow_succ, Int.mul_comm]
theorem p10_pos : ∀ k, 1 ≤ p10 k
  | 0 => by decide
  | k + 1 => by rw [p10_succ]; have := p10_pos k; omega
theorem p10_mono {a b : Nat} (h : a ≤ b) : p10 a ≤ p10 b := by
  obtain ⟨k, rfl⟩ := Nat.exists_eq_add_of_le h
  induction k with
  | zero => exact Int.le_refl _
  | succ k ih =>
    have h1 := ih (by omega)
    rw [← Nat.add_assoc, p10_succ]
    have := p10_pos (a + k)
    omega
/-- After i figures; m: how many there are. -/
structure RdS (l : List UInt8) (O : List Int) (i : Nat) : Prop where
  len : O.length = (l.length + 8) / 9
  low : i < l.length → ∀ j, j < (l.length - 1 - i) / 9 → O[j]? = some 0
  val : i < l.length → ∃ x, O[(l.length - 1 - i) / 9]? = some x ∧ 0 ≤ x ∧ x < p10 (8 - (l.length - 1 - i) % 9) ∧ ((undec (l.take i) : Nat) : Int) = x + p10 (8 - (l.length - 1 - i) % 9) * valI (O.drop ((l.length - 1 - i) / 9 + 1)) ∧ okR (O.drop ((l.length - 1 - i) / 9 + 1))
  fin : i = l.length → okR O ∧ valI O = ((undec l : Nat) : Int)
theorem rd_start (l : List UInt8) (h : l ≠ []) : RdS l (List.replicate ((l.length + 8) / 9) 0) 0 := by
  have hm : 0 < l.length := List.length_pos_iff.2 h
  refine ⟨List.length_replicate, fun _ j hj => ?_, fun _ => ⟨0, ?_, Int.le_refl _, ?_, ?_, ?_⟩, fun h0 => by omega⟩
  · rw [List.getElem?_replicate, if_pos (by omega)]
  · rw [List.getElem?_replicate, if_pos (by omega)]
  · have := p10_pos (8 - (l.length - 1 - 0) % 9); omega
  · rw [List.drop_eq_nil_of_le (by rw [List.length_replicate]; omega)]
    show ((undec [] : Nat) : Int) = _
    simp [undec, valI]
  · rw [List.drop_eq_nil_of_le (by rw [List.length_replicate]; omega)]; exact okR.nil
/-- One figure more. -/
theorem rd_step {l : List UInt8} {O : List Int} {i at_ : Nat} {b : UInt8} {x : Int} (h : RdS l O i) (hi : i < l.length) (hb : l[i]? = some b) (hf : isF b = true) (hat : (l.length - 1 - i) / 9 = at_) (hx : O[at_]? = some x) :
    RdS l (O.set at_ (x * 10 + ((b.toNat - 48 : Nat) : Int))) (i + 1) ∧ 0 ≤ x ∧ x < 100000000 ∧ at_ < O.length := by
  obtain ⟨y, h1, h2, h3, h4, h5⟩ := h.val hi
  have hl := h.len
  have hlow := h.low hi
  rw [hat] at h1 h4 h5 hlow
  rw [hx] at h1
  obtain rfl := Option.some.inj h1
  obtain ⟨hb1, hb2, hb3, hb4⟩ := fig_back b hf
  have hatl : at_ < O.length := by omega
  obtain ⟨d, hd⟩ : ∃ d, b.toNat - 48 = d := ⟨_, rfl⟩
  rw [hd] at hb2 ⊢
  obtain ⟨k, hk⟩ : ∃ k, 8 - (l.length - 1 - i) % 9 = k := ⟨_, rfl⟩
  rw [hk] at h3 h4
  have hk8 : k ≤ 8 := by omega
  have hu : undec (l.take (i + 1)) = 10 * undec (l.take i) + d := by
    have e : l.take (i + 1) = l.take i ++ [b] := by rw [List.take_add_one, hb]; rfl
    rw [e, undec_snoc, hd]
  have hp8 : p10 k ≤ p10 8 := p10_mono hk8
  have hp8v : p10 8 = 100000000 := by decide
  have hdrop : (O.set at_ (x * 10 + (d : Int))).drop (at_ + 1) = O.drop (at_ + 1) := List.drop_set_of_lt (by omega)
  have hget : (O.set at_ (x * 10 + (d : Int)))[at_]? = some (x * 10 + (d : Int)) := by rw [List.getElem?_set_self hatl]
  have hother : ∀ j, j ≠ at_ → (O.set at_ (x * 10 + (d : Int)))[j]? = O[j]? := fun j hj => List.getElem?_set_ne (fun e => hj e.symm)
  have hp1 := p10_succ k
  have hval : ((undec (l.take (i + 1)) : Nat) : Int) = (x * 10 + (d : Int)) + p10 (k + 1) * valI (O.drop (at_ + 1)) := by
    rw [hu, hp1, Int.mul_assoc]
    generalize p10 k * valI (O.drop (at_ + 1)) = q at *
    omega
  refine ⟨⟨by rw [List.length_set]; exact hl, fun hi2 j hj => ?_, fun hi2 => ?_, fun hi2 => ?_⟩, h2, by omega, hatl⟩
  · rw [hother j (by omega)]
    exact hlow j (by omega)
  · by_cases hk9 : k = 8
    · -- the next place
      have hat2 : (l.length - 1 - (i + 1)) / 9 = at_ - 1 ∧ 8 - (l.length - 1 - (i + 1)) % 9 = 0 ∧ 1 ≤ at_ := by omega
      rw [hat2.1, hat2.2.1, show at_ - 1 + 1 = at_ by omega]
      have e : (O.set at_ (x * 10 + (d : Int))).drop at_ = (x * 10 + (d : Int)) :: O.drop (at_ + 1) := by
        rw [List.drop_eq_getElem_cons (by rw [List.length_set]; exact hatl), List.getElem_set_self, hdrop]
      refine ⟨0, by rw [hother _ (by omega)]; exact hlow _ (by omega), Int.le_refl _, by decide, ?_, ?_⟩
      · rw [hval, e, hk9]
        show _ = 0 + 1 * ((x * 10 + (d : Int)) + BB * valI (O.drop (at_ + 1)))
        have : p10 (8 + 1) = BB := by decide
        rw [this]
        omega
      · rw [e]
        refine okR.mk ⟨by omega, ?_⟩ h5
        rw [hk9, hp8v] at h3
        show _ < (1000000000 : Int)
        omega
    · have hat2 : (l.length - 1 - (i + 1)) / 9 = at_ ∧ 8 - (l.length - 1 - (i + 1)) % 9 = k + 1 := by omega
      rw [hat2.1, hat2.2]
      exact ⟨_, hget, by omega, by rw [hp1]; omega, by rw [hdrop]; exact hval, by rw [hdrop]; exact h5⟩
  · have hat2 : at_ = 0 ∧ k = 8 := by omega
    obtain ⟨ha0, hk9⟩ := hat2
    subst ha0
    have e : O.set 0 (x * 10 + (d : Int)) = (x * 10 + (d : Int)) :: O.drop (0 + 1) := by
      have h := hdrop
      rw [← hdrop]
      have := List.drop_eq_getElem_cons (l := O.set 0 (x * 10 + (d : Int))) (i := 0) (by rw [List.length_set]; exact hatl)
      rw [List.drop_zero, List.getElem_set_self] at this
      exact this
    rw [hk9, hp8v] at h3
    refine ⟨by rw [e]; exact okR.mk ⟨by omega, by show _ < (1000000000 : Int); omega⟩ h5, ?_⟩
    have e2 : l.take (i + 1) = l := by rw [hi2, List.take_length]
    rw [e2, hk9] at hval
    rw [e, valI, hval]
    have : p10 (8 + 1) = BB := by decide
    rw [this]
end Go.Proofs.YtgoaakdopbielaaDoor
