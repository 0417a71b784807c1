import Derived.Test.YtgmmmimckdcggaaDoorBgA
namespace Go.Proofs.YtgmmmimckdcggaaDoor
set_option linter.unusedSimpArgs false
set_option linter.unusedVariables false

/-! Layer 9, plain: a row by a row, place by place. -/
/-- Rows times one another. -/
theorem okI_last {m : List Int} {x : Int} (h : okI (m ++ [x])) : okR m := by unfold okI at h; rwa [List.dropLast_concat] at h
theorem okI_of {l : List Int} (h : okR l) : okI l := by unfold okI; rw [List.dropLast_eq_take]; exact h.take _
/-- A row with all places but the last one right, not below 0 and below a power, is right, and its last place 0. -/
theorem okI_small {m : List Int} {x : Int} (h : okR m) (h0 : 0 ≤ valI (m ++ [x])) (h1 : valI (m ++ [x]) < powB m.length) : x = 0 := by
  rw [valI_app] at h0 h1
  simp only [valI, Int.mul_zero, Int.add_zero] at h0 h1
  have hm := valI_nonneg m h
  have hm2 := valI_lt m h
  have hp := powB_pos m.length
  rcases Int.lt_trichotomy x 0 with hx | hx | hx
  · have : powB m.length * x ≤ powB m.length * (-1) := Int.mul_le_mul_of_nonneg_left (by omega) (by omega)
    omega
  · exact hx
  · have : powB m.length * 1 ≤ powB m.length * x := Int.mul_le_mul_of_nonneg_left (by omega) (by omega)
    omega
theorem okI_sign {m : List Int} {x : Int} (h : okR m) : x < 0 ↔ valI (m ++ [x]) < 0 := by
  rw [valI_app]
  simp only [valI, Int.mul_zero, Int.add_zero]
  have hm := valI_nonneg m h
  have hm2 := valI_lt m h
  have hp := powB_pos m.length
  constructor
  · intro hx
    have : powB m.length * x ≤ powB m.length * (-1) := Int.mul_le_mul_of_nonneg_left (by omega) (by omega)
    omega
  · intro h2
    by_cases hx : x < 0
    · exact hx
    · have : 0 ≤ powB m.length * x := Int.mul_nonneg (by omega) (by omega)
      omega
/-- What is guessed is not too little. V: what is divided, D: by what, p: its two first places, d: the first place of D, P: what they stand over. -/
theorem guess_ge {V D p d P q : Int} (hP : 0 < P) (hd : 0 < d) (hD : d * P ≤ D) (hV : V < (p + 1) * P) (hq : 0 ≤ q) (hqV : q * D ≤ V) : q ≤ p / d := by
  have h1 : q * (d * P) ≤ q * D := Int.mul_le_mul_of_nonneg_left hD hq
  rw [← Int.mul_assoc] at h1
  have h2 : (q * d) * P < (p + 1) * P := by omega
  have h3 : q * d < p + 1 := Int.lt_of_mul_lt_mul_right h2 (by omega)
  exact Int.le_ediv_of_mul_le hd (by omega)
theorem guess_le {V D p1 p0 d P : Int} (hP : 0 < P) (hd : 0 < d) (hdB : d < BB) (hD : D < (d + 1) * P) (hp0 : 0 ≤ p0 ∧ p0 < BB) (hp1 : 0 ≤ p1) (hV : (p1 * BB + p0) * P ≤ V) (hVD : V < D * BB) : p1 ≤ d ∧ (p1 * BB + p0) / d ≤ 2 * BB := by
  have h1 : D * BB ≤ (d + 1) * P * BB := Int.mul_le_mul_of_nonneg_right (by omega) (by decide)
  have h2 : p1 * BB * P ≤ (p1 * BB + p0) * P := Int.mul_le_mul_of_nonneg_right (by omega) (by omega)
  have e1 : p1 * BB * P = p1 * (P * BB) := by rw [Int.mul_assoc, Int.mul_comm BB P]
  have e2 : (d + 1) * P * BB = (d + 1) * (P * BB) := by rw [Int.mul_assoc]
  have h3 : p1 * (P * BB) < (d + 1) * (P * BB) := by omega
  have hPB : 0 < P * BB := Int.mul_pos hP (by decide)
  have h4 : p1 < d + 1 := Int.lt_of_mul_lt_mul_right h3 (by omega)
  refine ⟨by omega, ?_⟩
  apply Int.ediv_le_of_le_mul hd
  have h5 : p1 * BB ≤ d * BB := Int.mul_le_mul_of_nonneg_right (by omega) (by decide)
  have e3 : 2 * BB * d = d * BB + d * BB := by rw [Int.mul_assoc, Int.mul_comm BB d]; omega
  have h6 : 1 * BB ≤ d * BB := Int.mul_le_mul_of_nonneg_right (by omega) (by decide)
  omega
/-- A quotient and a rest tell what was divided. -/
theorem quot_of {A D Q R : Int} (hD : 0 < D) (h : Q * D + R = A) (h0 : 0 ≤ R) (h1 : R < D) : A / D = Q ∧ A % D = R := by
  have e : A = R + Q * D := by omega
  constructor
  · rw [e, Int.add_mul_ediv_right _ _ (by omega), Int.ediv_eq_zero_of_lt h0 h1]; omega
  · rw [e, Int.add_mul_emod_self_right, Int.emod_eq_of_lt h0 h1]
theorem quot_scale {A D f : Int} (hD : 0 < D) (hf : 0 < f) (hA : 0 ≤ A) : (A * f) / (D * f) = A / D := Int.mul_ediv_mul_of_pos_left A D hf
/-- The factor that makes both greater. -/
theorem factor_ok {d : Int} (h0 : 0 < d) (h1 : d < BB) : 1 ≤ BB / (d + 1) ∧ BB / (d + 1) < BB ∧ (d + 1) * (BB / (d + 1)) ≤ BB := by
  refine ⟨Int.le_ediv_of_mul_le (by omega) (by omega), ?_, Int.mul_ediv_self_le (by omega)⟩
  apply Int.ediv_lt_of_lt_mul (by omega)
  have : BB * 1 < BB * (d + 1) := Int.mul_lt_mul_of_pos_left (by omega) (by decide)
  omega
end Go.Proofs.YtgmmmimckdcggaaDoor
