import Derived.Test.YtgmmmimckdcggaaDoorBgB
import Derived.Lib.ItoaNum
import Derived.Lib.ItoaMem
namespace Go.Proofs.YtgmmmimckdcggaaDoor
set_option linter.unusedSimpArgs false
set_option linter.unusedVariables false

/-! Layer 9, plain: figures. -/
def isF (b : UInt8) : Bool := decide (48 ≤ b.toNat) && decide (b.toNat ≤ 57)
def undec (l : List UInt8) : Nat := l.foldl (fun a b => 10 * a + (b.toNat - 48)) 0
theorem undec_snoc (l : List UInt8) (b : UInt8) : undec (l ++ [b]) = 10 * undec l + (b.toNat - 48) := by unfold undec; rw [List.foldl_append]; rfl
theorem dig_nat {u : Nat} (h : u < 10) : (UInt8.ofNat (48 + u)).toNat = 48 + u := by rw [UInt8.toNat_ofNat']; omega
theorem dec_undec : ∀ (n u : Nat), u ≤ n → undec (Lib.decDigits u) = u
  | 0, u, h => by
    have : u = 0 := by omega
    rw [this, Lib.decDigits_one (by omega)]; rfl
  | n + 1, u, h => by
    by_cases h10 : u < 10
    · rw [Lib.decDigits_one h10]
      show 10 * 0 + ((UInt8.ofNat (48 + u)).toNat - 48) = u
      rw [dig_nat h10]; omega
    · rw [Lib.decDigits, dif_neg h10, undec_snoc, dec_undec n (u / 10) (by omega), dig_nat (by omega)]
      omega
theorem undec_dec (u : Nat) : undec (Lib.decDigits u) = u := dec_undec u u (Nat.le_refl _)
theorem dec_inj {a b : Nat} (h : Lib.decDigits a = Lib.decDigits b) : a = b := by
  have := congrArg undec h
  rwa [undec_dec, undec_dec] at this
theorem dec_figs : ∀ (n u : Nat), u ≤ n → (Lib.decDigits u).all isF = true
  | 0, u, h => by
    have : u = 0 := by omega
    rw [this, Lib.decDigits_one (by omega)]; rfl
  | n + 1, u, h => by
    have hf : ∀ v, v < 10 → isF (UInt8.ofNat (48 + v)) = true := fun v hv => by unfold isF; rw [dig_nat hv]; simp; omega
    by_cases h10 : u < 10
    · rw [Lib.decDigits_one h10, List.all_cons, hf u h10]; rfl
    · rw [Lib.decDigits, dif_neg h10, List.all_append, dec_figs n (u / 10) (by omega), List.all_cons, hf (u % 10) (by omega)]
      rfl
theorem dec_ne (u : Nat) : Lib.decDigits u ≠ [] := by
  rw [Lib.decDigits]
  split <;> simp
theorem dec_head : ∀ (n u : Nat), u ≤ n → 0 < u → (Lib.decDigits u).head? ≠ some 48
  | 0, u, h, h0 => by omega
  | n + 1, u, h, h0 => by
    by_cases h10 : u < 10
    · rw [Lib.decDigits_one h10]
      intro e
      have e2 := congrArg UInt8.toNat (Option.some.inj e)
      rw [dig_nat h10] at e2
      have : (48 : UInt8).toNat = 48 := rfl
      omega
    · rw [Lib.decDigits, dif_neg h10]
      have ih := dec_head n (u / 10) (by omega) (by omega)
      cases hd : Lib.decDigits (u / 10) with
      | nil => exact absurd hd (dec_ne _)
      | cons x r => rw [hd] at ih; exact ih
/-- Written plainly: figures, no nought ahead. -/
def plainD (l : List UInt8) : Prop := l ≠ [] ∧ l.all isF = true ∧ (l.head? = some 48 → l = [48])
theorem dec_plain (u : Nat) : plainD (Lib.decDigits u) := by
  refine ⟨dec_ne u, dec_figs u u (Nat.le_refl _), fun h => ?_⟩
  by_cases h0 : u = 0
  · rw [h0, Lib.decDigits_one (by omega)]; rfl
  · exact absurd h (dec_head u u (Nat.le_refl _) (by omega))
theorem fig_back (b : UInt8) (h : isF b = true) : UInt8.ofNat (48 + (b.toNat - 48)) = b ∧ b.toNat - 48 < 10 ∧ 48 ≤ b.toNat ∧ b.toNat ≤ 57 := by
  unfold isF at h
  simp only [Bool.and_eq_true, decide_eq_true_eq] at h
  refine ⟨?_, by omega, h.1, h.2⟩
  rw [show 48 + (b.toNat - 48) = b.toNat by omega, UInt8.ofNat_toNat]
theorem undec_pos : ∀ (l : List UInt8), l.all isF = true → l ≠ [] → l.head? ≠ some 48 → 0 < undec l := by
  have H : ∀ n (l : List UInt8), l.length = n → l.all isF = true → l ≠ [] → l.head? ≠ some 48 → 0 < undec l := by
    intro n
    induction n with
    | zero => intro l hl _ h; exact absurd (List.eq_nil_of_length_eq_zero hl) h
    | succ n ih =>
      intro l hl hf hne hh
      obtain ⟨m, x, rfl⟩ : ∃ m x, l = m ++ [x] := ⟨l.dropLast, l.getLast hne, (List.dropLast_concat_getLast _).symm⟩
      rw [List.all_append, Bool.and_eq_true] at hf
      have hx : isF x = true := by simpa using hf.2
      have hb := fig_back x hx
      rw [undec_snoc]
      cases m with
      | nil =>
        have : x ≠ 48 := fun e => hh (by rw [e]; rfl)
        have h2 : x.toNat ≠ 48 := fun e => this (UInt8.toNat_inj.1 (by rw [e]; rfl))
        show 0 < 10 * 0 + (x.toNat - 48)
        omega
      | cons y r =>
        have := ih (y :: r) (by simpa using hl) hf.1 (by simp) hh
        omega
  intro l
  exact H _ l rfl
theorem plain_dec (l : List UInt8) (h : plainD l) : Lib.decDigits (undec l) = l := by
  have H : ∀ n (l : List UInt8), l.length = n → plainD l → Lib.decDigits (undec l) = l := by
    intro n
    induction n with
    | zero => intro l hl h; exact absurd (List.eq_nil_of_length_eq_zero hl) h.1
    | succ n ih =>
      intro l hl ⟨hne, hf, hh⟩
      obtain ⟨m, x, rfl⟩ : ∃ m x, l = m ++ [x] := ⟨l.dropLast, l.getLast hne, (List.dropLast_concat_getLast _).symm⟩
      rw [List.all_append, Bool.and_eq_true] at hf
      have hx : isF x = true := by simpa using hf.2
      have hb := fig_back x hx
      rw [undec_snoc]
      cases m with
      | nil =>
        show Lib.decDigits (10 * 0 + (x.toNat - 48)) = [x]
        rw [Nat.mul_zero, Nat.zero_add, Lib.decDigits_one hb.2.1, hb.1]
      | cons y r =>
        have hy : (y :: r).head? ≠ some 48 := by
          intro e
          have := hh e
          simp at this
        have hp := undec_pos (y :: r) hf.1 (by simp) hy
        have ihm := ih (y :: r) (by simpa using hl) ⟨by simp, hf.1, fun e => absurd e hy⟩
        rw [Lib.decDigits, dif_neg (by omega)]
        rw [show (10 * undec (y :: r) + (x.toNat - 48)) / 10 = undec (y :: r) by omega, show (10 * undec (y :: r) + (x.toNat - 48)) % 10 = x.toNat - 48 by omega, ihm, hb.1]
  exact H _ l rfl h
theorem undec_lt (l : List UInt8) (h : l.all isF = true) : undec l < 10 ^ l.length := by
  have H : ∀ n (l : List UInt8), l.length = n → l.all isF = true → undec l < 10 ^ n := by
    intro n
    induction n with
    | zero => intro l hl _; rw [List.eq_nil_of_length_eq_zero hl]; decide
    | succ n ih =>
      intro l hl hf
      obtain ⟨m, x, rfl⟩ : ∃ m x, l = m ++ [x] := ⟨l.dropLast, l.getLast (by intro e; rw [e] at hl; cases hl), (List.dropLast_concat_getLast _).symm⟩
      rw [List.all_append, Bool.and_eq_true] at hf
      have hx : isF x = true := by simpa using hf.2
      have hb := fig_back x hx
      have := ih m (by simpa using hl) hf.1
      rw [undec_snoc, Nat.pow_succ]
      omega
  exact H _ l rfl h
theorem undec_ge (l : List UInt8) (h : l.all isF = true) (hn : l ≠ []) (hh : l.head? ≠ some 48) : 10 ^ (l.length - 1) ≤ undec l := by
  have H : ∀ n (l : List UInt8), l.length = n + 1 → l.all isF = true → l.head? ≠ some 48 → 10 ^ n ≤ undec l := by
    intro n
    induction n with
    | zero =>
      intro l hl hf hh
      exact undec_pos l hf (by intro e; rw [e] at hl; cases hl) hh
    | succ n ih =>
      intro l hl hf hh
      obtain ⟨m, x, rfl⟩ : ∃ m x, l = m ++ [x] := ⟨l.dropLast, l.getLast (by intro e; rw [e] at hl; cases hl), (List.dropLast_concat_getLast _).symm⟩
      rw [List.all_append, Bool.and_eq_true] at hf
      cases m with
      | nil => simp at hl
      | cons y r =>
        have := ih (y :: r) (by simpa using hl) hf.1 hh
        rw [undec_snoc, Nat.pow_succ]
        omega
  obtain ⟨k, hk⟩ : ∃ k, l.length = k + 1 := ⟨l.length - 1, by have := List.length_pos_iff.2 hn; omega⟩
  rw [hk, Nat.add_sub_cancel]
  exact H k l hk h hh
/-! Places as figures. -/
def padk : Nat → Nat → List UInt8
  | 0, _ => []
  | k + 1, x => padk k (x / 10) ++ [UInt8.ofNat (48 + x % 10)]
theorem padk_zero : ∀ k, padk k 0 = List.replicate k 48
  | 0 => rfl
  | k + 1 => by rw [padk, Nat.zero_div, padk_zero k, List.replicate_succ']; rfl
theorem padk_dec : ∀ (k x : Nat), x < 10 ^ (k + 1) → padk (k + 1) x = List.replicate (k + 1 - (Lib.decDigits x).length) 48 ++ Lib.decDigits x
  | 0, x, h => by
    have h10 : x < 10 := by simpa using h
    rw [Lib.decDigits_one h10]
    show [] ++ [UInt8.ofNat (48 + x % 10)] = _
    rw [Nat.mod_eq_of_lt h10]; rfl
  | k + 1, x, h => by
    rw [padk]
    by_cases h10 : x < 10
    · rw [Nat.div_eq_of_lt h10, padk_zero, Lib.decDigits_one h10, Nat.mod_eq_of_lt h10]
      rfl
    · rw [padk_dec k (x / 10) (by rw [Nat.pow_succ] at h; omega)]
      have e : Lib.decDigits x = Lib.decDigits (x / 10) ++ [UInt8.ofNat (48 + x % 10)] := by rw [Lib.decDigits, dif_neg h10]
      rw [e, List.length_append, List.length_singleton, List.append_assoc]
      congr 2
      omega
theorem dec_len_le : ∀ (k x : Nat), x < 10 ^ (k + 1) → (Lib.decDigits x).length ≤ k + 1
  | 0, x, h => by rw [Lib.decDigits_one (by simpa using h)]; simp
  | k + 1, x, h => by
    by_cases h10 : x < 10
    · rw [Lib.decDigits_one h10]; simp
    · rw [Lib.decDigits, dif_neg h10, List.length_append]
      have := dec_len_le k (x / 10) (by rw [Nat.pow_succ] at h; omega)
      simp; omega
theorem dec_pad : ∀ (k x u : Nat), 0 < u → x < 10 ^ k → Lib.decDigits (x + 10 ^ k * u) = Lib.decDigits u ++ padk k x
  | 0, x, u, hu, hx => by
    have : x = 0 := by simpa using hx
    rw [this]; simp [padk]
  | k + 1, x, u, hu, hx => by
    rw [Nat.pow_succ] at hx
    have hp : 0 < 10 ^ k := Nat.pow_pos (by omega)
    have e1 : 10 ^ (k + 1) * u = 10 * (10 ^ k * u) := by rw [Nat.pow_succ, Nat.mul_comm (10 ^ k) 10, Nat.mul_assoc]
    have h1 : 1 ≤ 10 ^ k * u := Nat.mul_pos hp hu
    have e : (x + 10 ^ (k + 1) * u) / 10 = x / 10 + 10 ^ k * u := by rw [e1]; omega
    have e2 : (x + 10 ^ (k + 1) * u) % 10 = x % 10 := by rw [e1]; omega
    rw [Lib.decDigits, dif_neg (by rw [e1]; omega), e, e2, dec_pad k (x / 10) u hu (by omega), padk, List.append_assoc]
/-- A row's text, from its first place on (the list is turned). -/
def rowT : List Int → List UInt8
  | [] => []
  | [x] => Lib.decDigits x.toNat
  | x :: r => rowT r ++ padk 9 x.toNat
theorem rowT_val : ∀ (l : List Int), canon l → l ≠ [] → rowT l = Lib.decDigits (valI l).toNat
  | [], _, h => absurd rfl h
  | [x], h, _ => by simp [rowT, valI]
  | x :: y :: r, h, _ => by
    have hr : canon (y :: r) := ⟨h.1.cons.2, fun z hz => h.2 z (by rw [List.getLast?_cons_cons]; exact hz)⟩
    have ih := rowT_val (y :: r) hr (by simp)
    have hx := h.1.cons.1
    have hv := valI_nonneg (y :: r) hr.1
    have hpos : 0 < valI (y :: r) := by
      have h0 : valI (y :: r) ≠ 0 := fun e => by have := canon_zero hr e; cases this
      omega
    have ea : valI (x :: y :: r) = x + BB * valI (y :: r) := rfl
    unfold okP BB at hx
    obtain ⟨xn, rfl⟩ := Int.eq_ofNat_of_zero_le hx.1
    obtain ⟨u, hu⟩ := Int.eq_ofNat_of_zero_le hv
    rw [show rowT ((xn : Int) :: y :: r) = rowT (y :: r) ++ padk 9 (xn : Int).toNat from rfl, ih, ea, hu]
    have e3 : ((xn : Int) + BB * (u : Int)).toNat = xn + 10 ^ 9 * u := by unfold BB; omega
    rw [e3, Int.toNat_natCast, Int.toNat_natCast, dec_pad 9 xn u (by omega) (by omega)]
end Go.Proofs.YtgmmmimckdcggaaDoor
