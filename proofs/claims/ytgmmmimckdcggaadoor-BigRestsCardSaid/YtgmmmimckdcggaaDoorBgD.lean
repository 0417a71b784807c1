import Derived.Test.YtgmmmimckdcggaaDoorBgC
namespace Go.Proofs.YtgmmmimckdcggaaDoor
set_option linter.unusedSimpArgs false
set_option linter.unusedVariables false

/-! Layer 9, plain: numbers as texts. -/
def LIM : Nat := 2 ^ 512
def limL : List UInt8 := [49, 51, 52, 48, 55, 56, 48, 55, 57, 50, 57, 57, 52, 50, 53, 57, 55, 48, 57, 57, 53, 55, 52, 48, 50, 52, 57, 57, 56, 50, 48, 53, 56, 52, 54, 49, 50, 55, 52, 55, 57, 51, 54, 53, 56, 50, 48, 53, 57, 50, 51, 57, 51, 51, 55, 55, 55, 50, 51, 53, 54, 49, 52, 52, 51, 55, 50, 49, 55, 54, 52, 48, 51, 48, 48, 55, 51, 53, 52, 54, 57, 55, 54, 56, 48, 49, 56, 55, 52, 50, 57, 56, 49, 54, 54, 57, 48, 51, 52, 50, 55, 54, 57, 48, 48, 51, 49, 56, 53, 56, 49, 56, 54, 52, 56, 54, 48, 53, 48, 56, 53, 51, 55, 53, 51, 56, 56, 50, 56, 49, 49, 57, 52, 54, 53, 54, 57, 57, 52, 54, 52, 51, 51, 54, 52, 57, 48, 48, 54, 48, 56, 52, 48, 57, 54]
theorem lim_undec : undec limL = LIM := by decide +kernel
theorem lim_plain : plainD limL := ⟨by decide, by decide +kernel, by decide⟩
theorem lim_dec : Lib.decDigits LIM = limL := by rw [← lim_undec]; exact plain_dec limL lim_plain
theorem lim_len : limL.length = 155 := by decide +kernel
/-- Figures without a sign. -/
def amtL : List UInt8 → List UInt8
  | 45 :: r => r
  | l => l
def signL : List UInt8 → Bool
  | 45 :: _ => true
  | _ => false
def rightL (l : List UInt8) : Prop := l ≠ [45, 48] ∧ plainD (amtL l) ∧ undec (amtL l) < LIM
def zL (l : List UInt8) : Int := if signL l = true then -((undec (amtL l) : Nat) : Int) else (undec (amtL l) : Nat)
theorem amt_cases (l : List UInt8) : (∃ r, l = 45 :: r ∧ amtL l = r ∧ signL l = true) ∨ (l.head? ≠ some 45 ∧ amtL l = l ∧ signL l = false) := by
  cases l with
  | nil => exact .inr ⟨by simp, rfl, rfl⟩
  | cons x r =>
    by_cases h : x = 45
    · subst h; exact .inl ⟨r, rfl, rfl, rfl⟩
    · refine .inr ⟨by simpa using h, ?_, ?_⟩
      · unfold amtL
        split
        · rename_i h2; cases h2; exact absurd rfl h
        · rfl
      · unfold signL
        split
        · rename_i h2; cases h2; exact absurd rfl h
        · rfl
theorem right_itoa {l : List UInt8} (h : rightL l) : Lib.itoa (zL l) = l ∧ (zL l).natAbs < LIM := by
  obtain ⟨h1, h2, h3⟩ := h
  unfold zL
  rcases amt_cases l with ⟨r, rfl, ha, hs⟩ | ⟨hh, ha, hs⟩
  · rw [hs, ha, if_pos rfl]
    rw [ha] at h2 h3
    have hp : 0 < undec r := by
      by_cases h48 : r.head? = some 48
      · exact absurd (by rw [h2.2.2 h48]) h1
      · exact undec_pos r h2.2.1 h2.1 h48
    exact ⟨by rw [Lib.itoa_neg _ hp, plain_dec r h2], by omega⟩
  · rw [hs, ha, if_neg (by decide)]
    rw [ha] at h2 h3
    exact ⟨by rw [Lib.itoa_nonneg, plain_dec l h2], by omega⟩
theorem plainD_head {l : List UInt8} (h : plainD l) : l.head? ≠ some 45 := by
  cases l with
  | nil => exact fun e => by cases e
  | cons x r =>
    intro e
    have hx := h.2.1
    rw [List.all_cons, Bool.and_eq_true] at hx
    have hxe : x = 45 := Option.some.inj e
    rw [hxe] at hx
    exact absurd hx.1 (by decide)
theorem itoa_cases (z : Int) : (z < 0 ∧ Lib.itoa z = 45 :: Lib.decDigits z.natAbs) ∨ (0 ≤ z ∧ Lib.itoa z = Lib.decDigits z.natAbs) := by
  by_cases h : z < 0
  · refine .inl ⟨h, ?_⟩
    unfold Lib.itoa
    rw [if_pos h]
  · refine .inr ⟨by omega, ?_⟩
    unfold Lib.itoa
    rw [if_neg h, show z.toNat = z.natAbs by omega]
theorem amt_itoa (z : Int) : amtL (Lib.itoa z) = Lib.decDigits z.natAbs ∧ signL (Lib.itoa z) = decide (z < 0) := by
  rcases itoa_cases z with ⟨h, e⟩ | ⟨h, e⟩
  · rw [e, decide_eq_true h]; exact ⟨rfl, rfl⟩
  · rw [e, decide_eq_false (by omega)]
    rcases amt_cases (Lib.decDigits z.natAbs) with ⟨r, e2, _⟩ | ⟨_, h1, h2⟩
    · exact absurd (by rw [e2]; rfl) (plainD_head (dec_plain z.natAbs))
    · exact ⟨h1, h2⟩
theorem itoa_right {z : Int} (h : z.natAbs < LIM) : rightL (Lib.itoa z) ∧ zL (Lib.itoa z) = z := by
  obtain ⟨ha, hs⟩ := amt_itoa z
  refine ⟨⟨fun e => ?_, ?_, ?_⟩, ?_⟩
  · rcases itoa_cases z with ⟨h0, e2⟩ | ⟨h0, e2⟩
    · rw [e2] at e
      have e3 : Lib.decDigits z.natAbs = [48] := by simpa using e
      have := congrArg undec e3
      rw [undec_dec] at this
      have : z.natAbs = 0 := this
      omega
    · rw [e2] at e
      exact plainD_head (dec_plain z.natAbs) (by rw [e]; rfl)
  · rw [ha]; exact dec_plain _
  · rw [ha, undec_dec]; exact h
  · unfold zL
    rw [ha, hs, undec_dec]
    by_cases h0 : z < 0
    · rw [decide_eq_true h0, if_pos rfl]; omega
    · rw [decide_eq_false h0, if_neg (by decide)]; omega
theorem itoa_inj {a b : Int} (h : Lib.itoa a = Lib.itoa b) : a = b := by
  obtain ⟨ha, hs⟩ := amt_itoa a
  obtain ⟨hb, ht⟩ := amt_itoa b
  rw [h, hb] at ha
  rw [h, ht] at hs
  have h1 := dec_inj ha
  have h2 : decide (b < 0) = decide (a < 0) := hs
  rw [decide_eq_decide] at h2
  omega
open Classical in
/-- What a text is as a number. -/
noncomputable def numZ (l : List UInt8) : Option Int := if rightL l then some (zL l) else none
theorem numZ_iff (l : List UInt8) (z : Int) : numZ l = some z ↔ l = Lib.itoa z ∧ z.natAbs < LIM := by
  unfold numZ
  constructor
  · intro h
    split at h
    · rename_i hr
      cases h
      have := right_itoa hr
      exact ⟨this.1.symm, this.2⟩
    · cases h
  · rintro ⟨rfl, h⟩
    obtain ⟨h1, h2⟩ := itoa_right h
    rw [if_pos h1, h2]
theorem numZ_none (l : List UInt8) : numZ l = none ↔ ¬ rightL l := by
  unfold numZ
  constructor
  · intro h hr
    rw [if_pos hr] at h; cases h
  · intro h; rw [if_neg h]
/-! Amounts compared as texts. -/
def lexC : List UInt8 → List UInt8 → Int
  | [], [] => 0
  | [], _ :: _ => -1
  | _ :: _, [] => 1
  | x :: l, y :: m => if x.toNat < y.toNat then -1 else if y.toNat < x.toNat then 1 else lexC l m
theorem undec_cons (x : UInt8) (l : List UInt8) : undec (x :: l) = (x.toNat - 48) * 10 ^ l.length + undec l := by
  have H : ∀ (l : List UInt8) (a : Nat), l.foldl (fun a b => 10 * a + (b.toNat - 48)) a = a * 10 ^ l.length + undec l := by
    intro l
    induction l with
    | nil => intro a; simp [undec]
    | cons y r ih =>
      intro a
      show r.foldl _ (10 * a + (y.toNat - 48)) = _
      rw [ih]
      have e : undec (y :: r) = r.foldl (fun a b => 10 * a + (b.toNat - 48)) (10 * 0 + (y.toNat - 48)) := rfl
      rw [e, ih, List.length_cons, Nat.pow_succ, Nat.add_mul, Nat.mul_zero, Nat.zero_add]
      have : 10 * a * 10 ^ r.length = a * (10 ^ r.length * 10) := by rw [Nat.mul_comm 10 a, Nat.mul_assoc, Nat.mul_comm 10]
      omega
  show l.foldl _ (10 * 0 + (x.toNat - 48)) = _
  rw [H]
  simp
theorem lex_undec : ∀ (l m : List UInt8), l.length = m.length → l.all isF = true → m.all isF = true → (lexC l m < 0 ↔ undec l < undec m) ∧ (lexC l m = 0 ↔ undec l = undec m) ∧ (0 < lexC l m ↔ undec m < undec l)
  | [], [], _, _, _ => by simp [lexC]
  | x :: l, y :: m, hl, h1, h2 => by
    rw [List.all_cons, Bool.and_eq_true] at h1 h2
    have hlen : l.length = m.length := by simpa using hl
    have ih := lex_undec l m hlen h1.2 h2.2
    have hx := fig_back x h1.1
    have hy := fig_back y h2.1
    have b1 := undec_lt l h1.2
    have b2 := undec_lt m h2.2
    rw [← hlen] at b2
    rw [lexC, undec_cons, undec_cons, ← hlen]
    generalize 10 ^ l.length = P at *
    obtain ⟨a, ha⟩ : ∃ a, x.toNat - 48 = a := ⟨_, rfl⟩
    obtain ⟨b, hb⟩ : ∃ b, y.toNat - 48 = b := ⟨_, rfl⟩
    rw [ha, hb]
    by_cases c1 : x.toNat < y.toNat
    · rw [if_pos c1]
      have : (a + 1) * P ≤ b * P := Nat.mul_le_mul_right P (by omega)
      rw [Nat.add_mul, Nat.one_mul] at this
      omega
    · rw [if_neg c1]
      by_cases c2 : y.toNat < x.toNat
      · rw [if_pos c2]
        have : (b + 1) * P ≤ a * P := Nat.mul_le_mul_right P (by omega)
        rw [Nat.add_mul, Nat.one_mul] at this
        omega
      · rw [if_neg c2]
        have e : a = b := by omega
        rw [e]
        omega
/-- Of plain figures: wider than the limit, or as long and not below it as a text. -/
theorem wide_iff (l : List UInt8) (h : plainD l) : (155 < l.length ∨ (l.length = 155 ∧ 0 ≤ lexC l limL)) ↔ LIM ≤ undec l := by
  have hf := h.2.1
  have hlim : 10 ^ 154 ≤ LIM ∧ LIM < 10 ^ 155 := by decide +kernel
  have hlt := undec_lt l hf
  rcases Nat.lt_trichotomy l.length 155 with hc | hc | hc
  · have h1 : 10 ^ l.length ≤ 10 ^ 154 := Nat.pow_le_pow_right (by omega) (by omega)
    constructor
    · intro hx; omega
    · intro hx; omega
  · have hL := lex_undec l limL (by rw [hc, lim_len]) hf lim_plain.2.1
    rw [lim_undec] at hL
    constructor
    · intro hx
      rcases hx with hx | ⟨_, hx⟩
      · omega
      · by_cases h3 : LIM ≤ undec l
        · exact h3
        · have := hL.1.2 (by omega); omega
    · intro hx
      refine .inr ⟨hc, ?_⟩
      by_cases h3 : lexC l limL < 0
      · have := hL.1.1 h3; omega
      · omega
  · have h48 : l.head? ≠ some 48 := by
      intro e
      have := congrArg List.length (h.2.2 e)
      simp at this
      omega
    have h1 := undec_ge l hf h.1 h48
    have h2 : 10 ^ 155 ≤ 10 ^ (l.length - 1) := Nat.pow_le_pow_right (by omega) (by omega)
    constructor
    · intro _; omega
    · intro _; exact .inl hc
end Go.Proofs.YtgmmmimckdcggaaDoor
