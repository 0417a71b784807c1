import Derived.Lib.ItoaNum
import Derived.Lib.ItoaMem
namespace Go.Proofs.YtgoaakdopbielaaDoor
set_option linter.unusedSimpArgs false
set_option linter.unusedVariables false

/-! Layer 9, plain: rows of places. -/
def BB : Int := 1000000000
def valI : List Int → Int
  | [] => 0
  | x :: r => x + BB * valI r
def okP (x : Int) : Prop := 0 ≤ x ∧ x < BB
def okR (l : List Int) : Prop := ∀ x ∈ l, okP x
theorem okR.cons {x : Int} {l : List Int} (h : okR (x :: l)) : okP x ∧ okR l := ⟨h x (by simp), fun y hy => h y (by simp [hy])⟩
theorem okR.mk {x : Int} {l : List Int} (h : okP x) (h2 : okR l) : okR (x :: l) := by
  intro y hy
  rcases List.mem_cons.1 hy with rfl | hy
  · exact h
  · exact h2 y hy
theorem okR.nil : okR [] := fun x h => by cases h
theorem okR.app {a b : List Int} (h : okR a) (h2 : okR b) : okR (a ++ b) := by
  intro x hx
  rcases List.mem_append.1 hx with h' | h'
  · exact h x h'
  · exact h2 x h'
theorem okR.left {a b : List Int} (h : okR (a ++ b)) : okR a := fun x hx => h x (by simp [hx])
theorem okR.right {a b : List Int} (h : okR (a ++ b)) : okR b := fun x hx => h x (by simp [hx])
theorem okR.take {a : List Int} (h : okR a) (n : Nat) : okR (a.take n) := fun x hx => h x (List.mem_of_mem_take hx)
theorem okR.drop {a : List Int} (h : okR a) (n : Nat) : okR (a.drop n) := fun x hx => h x (List.mem_of_mem_drop hx)
theorem okR.zeros (n : Nat) : okR (List.replicate n 0) := fun x hx => by rw [(List.mem_replicate.1 hx).2]; exact ⟨by decide, by decide⟩
def powB (n : Nat) : Int := BB ^ n
theorem powB_zero : powB 0 = 1 := rfl
theorem powB_succ (n : Nat) : powB (n + 1) = BB * powB n := by unfold powB; rw [Int.pow_succ, Int.mul_comm]
theorem powB_pos : ∀ n, 0 < powB n
  | 0 => by decide
  | n + 1 => by rw [powB_succ]; exact Int.mul_pos (by decide) (powB_pos n)
theorem powB_add (m n : Nat) : powB (m + n) = powB m * powB n := by unfold powB; exact Int.pow_add BB m n
theorem valI_app : ∀ (a b : List Int), valI (a ++ b) = valI a + powB a.length * valI b
  | [], b => by simp [valI, powB_zero]
  | x :: a, b => by
    rw [List.cons_append, valI, valI, valI_app a b, List.length_cons, powB_succ, Int.mul_add, Int.mul_assoc, Int.add_assoc]
theorem valI_nonneg : ∀ (l : List Int), okR l → 0 ≤ valI l
  | [], _ => by decide
  | x :: r, h => by
    have h1 := h.cons
    have := valI_nonneg r h1.2
    rw [valI]
    have h2 : 0 ≤ BB * valI r := Int.mul_nonneg (by decide) this
    have := h1.1.1
    omega
theorem valI_lt : ∀ (l : List Int), okR l → valI l < powB l.length
  | [], _ => by decide
  | x :: r, h => by
    have h1 := h.cons
    have h2 := valI_lt r h1.2
    rw [valI, List.length_cons, powB_succ]
    have h3 : BB * (valI r + 1) ≤ BB * powB r.length := Int.mul_le_mul_of_nonneg_left (by omega) (by decide)
    rw [Int.mul_add, Int.mul_one] at h3
    have := h1.1.2
    omega
theorem valI_zeros : ∀ n, valI (List.replicate n 0) = 0
  | 0 => rfl
  | n + 1 => by rw [List.replicate_succ, valI, valI_zeros n]; rfl
/-! Trimmed. -/
def trimL (l : List Int) : List Int := (l.reverse.dropWhile (fun x => x == 0)).reverse
def canon (l : List Int) : Prop := okR l ∧ ∀ x, l.getLast? = some x → x ≠ 0
theorem trim_snoc (l : List Int) (x : Int) : trimL (l ++ [x]) = if x = 0 then trimL l else l ++ [x] := by
  unfold trimL
  rw [List.reverse_append, List.reverse_cons, List.reverse_nil, List.nil_append, List.singleton_append, List.dropWhile_cons]
  by_cases h : x = 0
  · rw [if_pos (by simpa using h), if_pos h]
  · rw [if_neg (by simpa using h), if_neg h, List.reverse_cons, List.reverse_reverse]
theorem trim_nil : trimL [] = [] := rfl
theorem trim_rec {P : List Int → List Int → Prop} (h0 : P [] []) (hz : ∀ l t, P l t → P (l ++ [0]) t) (hn : ∀ l x, x ≠ 0 → P (l ++ [x]) (l ++ [x])) : ∀ l, P l (trimL l) := by
  have H : ∀ n l, l.length = n → P l (trimL l) := by
    intro n
    induction n with
    | zero => intro l h; rw [List.eq_nil_of_length_eq_zero h]; exact h0
    | succ n ih =>
      intro l h
      obtain ⟨m, x, rfl⟩ : ∃ m x, l = m ++ [x] := ⟨l.dropLast, l.getLast (by intro e; rw [e] at h; cases h), (List.dropLast_concat_getLast _).symm⟩
      rw [trim_snoc]
      by_cases hx : x = 0
      · rw [if_pos hx, hx]; exact hz m _ (ih m (by simpa using h))
      · rw [if_neg hx]; exact hn m x hx
  intro l
  exact H _ l rfl
theorem trim_val (l : List Int) : valI (trimL l) = valI l := by
  refine trim_rec (P := fun l t => valI t = valI l) rfl (fun l t h => ?_) (fun l x _ => rfl) l
  rw [h, valI_app]; simp [valI]
theorem trim_take (l : List Int) : trimL l = l.take (trimL l).length := by
  have : ∃ k, l = trimL l ++ List.replicate k 0 := by
    refine trim_rec (P := fun l t => ∃ k, l = t ++ List.replicate k 0) ⟨0, rfl⟩ (fun l t ⟨k, h⟩ => ⟨k + 1, ?_⟩) (fun l x _ => ⟨0, by simp⟩) l
    rw [List.replicate_succ', ← List.append_assoc, ← h]
  obtain ⟨k, hk⟩ := this
  generalize trimL l = t at hk ⊢
  subst hk
  rw [List.take_left]
theorem trim_ok (l : List Int) (h : okR l) : canon (trimL l) := by
  refine ⟨by rw [trim_take]; exact h.take _, ?_⟩
  refine trim_rec (P := fun l t => ∀ x, t.getLast? = some x → x ≠ 0) (fun x h => by cases h) (fun l t h => h) (fun l x hx y hy => ?_) l
  rw [List.getLast?_append] at hy
  simp at hy
  omega
theorem trim_le (l : List Int) : (trimL l).length ≤ l.length := by
  have := congrArg List.length (trim_take l)
  rw [List.length_take] at this
  omega
theorem canon_zero {l : List Int} (h : canon l) (h0 : valI l = 0) : l = [] := by
  by_cases hl : l = []
  · exact hl
  · obtain ⟨m, x, rfl⟩ : ∃ m x, l = m ++ [x] := ⟨l.dropLast, l.getLast hl, (List.dropLast_concat_getLast _).symm⟩
    rw [valI_app] at h0
    have hx : x ≠ 0 := h.2 x (by simp)
    have hx2 : 0 ≤ x := (h.1 x (by simp)).1
    have hm := valI_nonneg m h.1.left
    have hp := powB_pos m.length
    have : 0 < powB m.length * valI [x] := Int.mul_pos hp (by simp only [valI]; omega)
    omega
theorem canon_low {m : List Int} {x : Int} (h : canon (m ++ [x])) : powB m.length ≤ valI (m ++ [x]) := by
  rw [valI_app]
  have hx : x ≠ 0 := h.2 x (by simp)
  have hx2 : 0 ≤ x := (h.1 x (by simp)).1
  have hm := valI_nonneg m h.1.left
  have hp := powB_pos m.length
  have h2 : powB m.length * 1 ≤ powB m.length * valI [x] := Int.mul_le_mul_of_nonneg_left (by simp only [valI]; omega) (by omega)
  rw [Int.mul_one] at h2
  omega
theorem val_inj : ∀ (a b : List Int), okR a → okR b → a.length = b.length → valI a = valI b → a = b
  | [], [], _, _, _, _ => rfl
  | x :: a, y :: b, ha, hb, hl, h => by
    have h1 := ha.cons
    have h2 := hb.cons
    rw [valI, valI] at h
    have hx := h1.1
    have hy := h2.1
    unfold okP BB at hx hy
    unfold BB at h
    have e : x = y ∧ valI a = valI b := by omega
    rw [e.1, val_inj a b h1.2 h2.2 (by simpa using hl) e.2]
theorem powB_mono {m n : Nat} (h : m ≤ n) : powB m ≤ powB n := by
  obtain ⟨k, rfl⟩ := Nat.exists_eq_add_of_le h
  rw [powB_add]
  have h1 := powB_pos m
  have h2 := powB_pos k
  have h3 := Int.mul_le_mul_of_nonneg_left (show (1 : Int) ≤ powB k by omega) (show 0 ≤ powB m by omega)
  rw [Int.mul_one] at h3
  exact h3
theorem canon_len {a b : List Int} (ha : canon a) (hb : canon b) (h : a.length < b.length) : valI a < valI b := by
  obtain ⟨m, x, rfl⟩ : ∃ m x, b = m ++ [x] := ⟨b.dropLast, b.getLast (by intro e; rw [e] at h; simp at h), (List.dropLast_concat_getLast _).symm⟩
  have h1 := valI_lt a ha.1
  have h2 := canon_low hb
  have h3 : powB a.length ≤ powB m.length := powB_mono (by simp at h; omega)
  omega
theorem canon_inj {a b : List Int} (ha : canon a) (hb : canon b) (h : valI a = valI b) : a = b := by
  have hl : a.length = b.length := by
    rcases Nat.lt_trichotomy a.length b.length with h1 | h1 | h1
    · have := canon_len ha hb h1; omega
    · exact h1
    · have := canon_len hb ha h1; omega
  exact val_inj a b ha.1 hb.1 hl h
/-! Adding and taking in place. -/
def addL (o : Int) : List Int → List Int → Int → List Int
  | [], _, _ => []
  | [x], _, _ => [x + o]
  | x :: y :: r, b, f => ((o + f * b.headD 0 + x) % BB) :: addL ((o + f * b.headD 0 + x) / BB) (y :: r) b.tail f
def takL (u : Int) : List Int → List Int → Int → List Int
  | [], _, _ => []
  | [x], _, _ => [x - u]
  | x :: y :: r, b, f =>
    if x - (u + f * b.headD 0) % BB < 0 then (x - (u + f * b.headD 0) % BB + BB) :: takL ((u + f * b.headD 0) / BB + 1) (y :: r) b.tail f
    else (x - (u + f * b.headD 0) % BB) :: takL ((u + f * b.headD 0) / BB) (y :: r) b.tail f
theorem addL_len : ∀ (a b : List Int) (o f : Int), (addL o a b f).length = a.length
  | [], _, _, _ => rfl
  | [x], _, _, _ => rfl
  | x :: y :: r, b, o, f => by rw [addL, List.length_cons, addL_len (y :: r)]; rfl
theorem takL_len : ∀ (a b : List Int) (o f : Int), (takL o a b f).length = a.length
  | [], _, _, _ => rfl
  | [x], _, _, _ => rfl
  | x :: y :: r, b, o, f => by
    rw [takL]
    split
    · rw [List.length_cons, takL_len (y :: r)]; rfl
    · rw [List.length_cons, takL_len (y :: r)]; rfl
theorem val_headTail (b : List Int) : valI b = b.headD 0 + BB * valI b.tail := by
  cases b with
  | nil => rfl
  | cons x r => rfl
theorem addL_val : ∀ (a b : List Int) (o f : Int), b.length < a.length → valI (addL o a b f) = valI a + f * valI b + o
  | [], b, _, _, h => by simp at h
  | [x], b, o, f, h => by
    have : b = [] := List.eq_nil_of_length_eq_zero (by simp at h; simpa using h)
    rw [this]; simp [addL, valI]
  | x :: y :: r, b, o, f, h => by
    have hb : b.tail.length < (y :: r).length := by rw [List.length_tail]; simp at h ⊢; omega
    have hv := val_headTail b
    have ea : valI (x :: y :: r) = x + BB * valI (y :: r) := rfl
    rw [addL, valI, addL_val (y :: r) b.tail _ f hb, ea]
    have e := Int.emod_add_mul_ediv (o + f * b.headD 0 + x) BB
    generalize (o + f * b.headD 0 + x) % BB = m at *
    generalize (o + f * b.headD 0 + x) / BB = q at *
    rw [hv]
    generalize valI (y :: r) = v at *
    generalize valI b.tail = t at *
    generalize b.headD 0 = d at *
    rw [Int.mul_add, Int.mul_add, Int.mul_add]
    have e2 : f * (BB * t) = BB * (f * t) := by rw [← Int.mul_assoc, Int.mul_comm f, Int.mul_assoc]
    rw [e2]
    omega
theorem takL_val : ∀ (a b : List Int) (o f : Int), b.length < a.length → valI (takL o a b f) = valI a - f * valI b - o
  | [], b, _, _, h => by simp at h
  | [x], b, o, f, h => by
    have : b = [] := List.eq_nil_of_length_eq_zero (by simp at h; simpa using h)
    rw [this]; simp [takL, valI]
  | x :: y :: r, b, o, f, h => by
    have hb : b.tail.length < (y :: r).length := by rw [List.length_tail]; simp at h ⊢; omega
    have hv := val_headTail b
    have e := Int.emod_add_mul_ediv (o + f * b.headD 0) BB
    have e2 : f * (BB * valI b.tail) = BB * (f * valI b.tail) := by rw [← Int.mul_assoc, Int.mul_comm f, Int.mul_assoc]
    have ea : valI (x :: y :: r) = x + BB * valI (y :: r) := rfl
    have eb : f * valI b = f * b.headD 0 + BB * (f * valI b.tail) := by rw [hv, Int.mul_add, e2]
    rw [takL, ea, eb]
    split
    · rw [valI, takL_val (y :: r) b.tail _ f hb, Int.mul_sub, Int.mul_sub, Int.mul_add, Int.mul_one]
      omega
    · rw [valI, takL_val (y :: r) b.tail _ f hb, Int.mul_sub, Int.mul_sub]
      omega
/-- All places but the last one are right. -/
def okI (l : List Int) : Prop := okR l.dropLast
theorem addL_ok : ∀ (a b : List Int) (o f : Int), okI (addL o a b f)
  | [], _, _, _ => okR.nil
  | [x], _, _, _ => okR.nil
  | x :: y :: r, b, o, f => by
    have ih := addL_ok (y :: r) b.tail ((o + f * b.headD 0 + x) / BB) f
    rw [addL]
    unfold okI at ih ⊢
    have hne : addL ((o + f * b.headD 0 + x) / BB) (y :: r) b.tail f ≠ [] := by
      intro e; have := congrArg List.length e; rw [addL_len] at this; simp at this
    rw [List.dropLast_cons_of_ne_nil hne]
    exact okR.mk ⟨Int.emod_nonneg _ (by decide), Int.emod_lt_of_pos _ (by decide)⟩ ih
theorem takL_ok : ∀ (a b : List Int) (o f : Int), okI a → okI (takL o a b f)
  | [], _, _, _, _ => okR.nil
  | [x], _, _, _, _ => okR.nil
  | x :: y :: r, b, o, f, h => by
    unfold okI at h
    rw [List.dropLast_cons_of_ne_nil (by simp)] at h
    have hx := h.cons.1
    unfold okP at hx
    have h1 := Int.emod_nonneg (o + f * b.headD 0) (show BB ≠ 0 by decide)
    have h2 := Int.emod_lt_of_pos (o + f * b.headD 0) (show (0 : Int) < BB by decide)
    rw [takL]
    split
    · unfold okI
      have hne : takL ((o + f * b.headD 0) / BB + 1) (y :: r) b.tail f ≠ [] := by
        intro e; have := congrArg List.length e; rw [takL_len] at this; simp at this
      rw [List.dropLast_cons_of_ne_nil hne]
      exact okR.mk ⟨by omega, by omega⟩ (takL_ok (y :: r) b.tail _ f h.cons.2)
    · unfold okI
      have hne : takL ((o + f * b.headD 0) / BB) (y :: r) b.tail f ≠ [] := by
        intro e; have := congrArg List.length e; rw [takL_len] at this; simp at this
      rw [List.dropLast_cons_of_ne_nil hne]
      exact okR.mk ⟨by omega, by omega⟩ (takL_ok (y :: r) b.tail _ f h.cons.2)
end Go.Proofs.YtgoaakdopbielaaDoor
namespace Go.Proofs.YtgoaakdopbielaaDoor
set_option linter.unusedSimpArgs false
set_option linter.unusedVariables false

/-! Layer 9, plain: a row by a row, place by place. -/
/-- Rows times one another. -/
theorem okI_last {m : List Int} {x : Int} (h : okI (m ++ [x])) : okR m := by unfold okI at h; rwa [List.dropLast_concat] at h
theorem okI_of {l : List Int} (h : okR l) : okI l := by unfold okI; rw [List.dropLast_eq_take]; exact h.take _
/-- A row with all places but the last one right, not below 0 and below a power, is right, and its last place 0. -/
theorem okI_small {m : List Int} {x : Int} (h : okR m) (h0 : 0 ≤ valI (m ++ [x])) (h1 : valI (m ++ [x]) < powB m.length) : x = 0 := by
  rw [valI_app] at h0 h1
  simp only [valI, Int.mul_zero, Int.add_zero] at h0 h1
  have hm := valI_nonneg m h
  have hm2 := valI_lt m h
  have hp := powB_pos m.length
  rcases Int.lt_trichotomy x 0 with hx | hx | hx
  · have : powB m.length * x ≤ powB m.length * (-1) := Int.mul_le_mul_of_nonneg_left (by omega) (by omega)
    omega
  · exact hx
  · have : powB m.length * 1 ≤ powB m.length * x := Int.mul_le_mul_of_nonneg_left (by omega) (by omega)
    omega
theorem okI_sign {m : List Int} {x : Int} (h : okR m) : x < 0 ↔ valI (m ++ [x]) < 0 := by
  rw [valI_app]
  simp only [valI, Int.mul_zero, Int.add_zero]
  have hm := valI_nonneg m h
  have hm2 := valI_lt m h
  have hp := powB_pos m.length
  constructor
  · intro hx
    have : powB m.length * x ≤ powB m.length * (-1) := Int.mul_le_mul_of_nonneg_left (by omega) (by omega)
    omega
  · intro h2
    by_cases hx : x < 0
    · exact hx
    · have : 0 ≤ powB m.length * x := Int.mul_nonneg (by omega) (by omega)
      omega
/-- What is guessed is not too little. V: what is divided, D: by what, p: its two first places, d: the first place of D, P: what they stand over. -/
theorem guess_ge {V D p d P q : Int} (hP : 0 < P) (hd : 0 < d) (hD : d * P ≤ D) (hV : V < (p + 1) * P) (hq : 0 ≤ q) (hqV : q * D ≤ V) : q ≤ p / d := by
  have h1 : q * (d * P) ≤ q * D := Int.mul_le_mul_of_nonneg_left hD hq
  rw [← Int.mul_assoc] at h1
  have h2 : (q * d) * P < (p + 1) * P := by omega
  have h3 : q * d < p + 1 := Int.lt_of_mul_lt_mul_right h2 (by omega)
  exact Int.le_ediv_of_mul_le hd (by omega)
theorem guess_le {V D p1 p0 d P : Int} (hP : 0 < P) (hd : 0 < d) (hdB : d < BB) (hD : D < (d + 1) * P) (hp0 : 0 ≤ p0 ∧ p0 < BB) (hp1 : 0 ≤ p1) (hV : (p1 * BB + p0) * P ≤ V) (hVD : V < D * BB) : p1 ≤ d ∧ (p1 * BB + p0) / d ≤ 2 * BB := by
  have h1 : D * BB ≤ (d + 1) * P * BB := Int.mul_le_mul_of_nonneg_right (by omega) (by decide)
  have h2 : p1 * BB * P ≤ (p1 * BB + p0) * P := Int.mul_le_mul_of_nonneg_right (by omega) (by omega)
  have e1 : p1 * BB * P = p1 * (P * BB) := by rw [Int.mul_assoc, Int.mul_comm BB P]
  have e2 : (d + 1) * P * BB = (d + 1) * (P * BB) := by rw [Int.mul_assoc]
  have h3 : p1 * (P * BB) < (d + 1) * (P * BB) := by omega
  have hPB : 0 < P * BB := Int.mul_pos hP (by decide)
  have h4 : p1 < d + 1 := Int.lt_of_mul_lt_mul_right h3 (by omega)
  refine ⟨by omega, ?_⟩
  apply Int.ediv_le_of_le_mul hd
  have h5 : p1 * BB ≤ d * BB := Int.mul_le_mul_of_nonneg_right (by omega) (by decide)
  have e3 : 2 * BB * d = d * BB + d * BB := by rw [Int.mul_assoc, Int.mul_comm BB d]; omega
  have h6 : 1 * BB ≤ d * BB := Int.mul_le_mul_of_nonneg_right (by omega) (by decide)
  omega
/-- A quotient and a rest tell what was divided. -/
theorem quot_of {A D Q R : Int} (hD : 0 < D) (h : Q * D + R = A) (h0 : 0 ≤ R) (h1 : R < D) : A / D = Q ∧ A % D = R := by
  have e : A = R + Q * D := by omega
  constructor
  · rw [e, Int.add_mul_ediv_right _ _ (by omega), Int.ediv_eq_zero_of_lt h0 h1]; omega
  · rw [e, Int.add_mul_emod_self_right, Int.emod_eq_of_lt h0 h1]
theorem quot_scale {A D f : Int} (hD : 0 < D) (hf : 0 < f) (hA : 0 ≤ A) : (A * f) / (D * f) = A / D := Int.mul_ediv_mul_of_pos_left A D hf
/-- The factor that makes both greater. -/
theorem factor_ok {d : Int} (h0 : 0 < d) (h1 : d < BB) : 1 ≤ BB / (d + 1) ∧ BB / (d + 1) < BB ∧ (d + 1) * (BB / (d + 1)) ≤ BB := by
  refine ⟨Int.le_ediv_of_mul_le (by omega) (by omega), ?_, Int.mul_ediv_self_le (by omega)⟩
  apply Int.ediv_lt_of_lt_mul (by omega)
  have : BB * 1 < BB * (d + 1) := Int.mul_lt_mul_of_pos_left (by omega) (by decide)
  omega
end Go.Proofs.YtgoaakdopbielaaDoor
namespace Go.Proofs.YtgoaakdopbielaaDoor
set_option linter.unusedSimpArgs false
set_option linter.unusedVariables false

/-! Layer 9, plain: figures. -/
def isF (b : UInt8) : Bool := decide (48 ≤ b.toNat) && decide (b.toNat ≤ 57)
def undec (l : List UInt8) : Nat := l.foldl (fun a b => 10 * a + (b.toNat - 48)) 0
theorem undec_snoc (l : List UInt8) (b : UInt8) : undec (l ++ [b]) = 10 * undec l + (b.toNat - 48) := by unfold undec; rw [List.foldl_append]; rfl
theorem dig_nat {u : Nat} (h : u < 10) : (UInt8.ofNat (48 + u)).toNat = 48 + u := by rw [UInt8.toNat_ofNat']; omega
theorem dec_undec : ∀ (n u : Nat), u ≤ n → undec (Lib.decDigits u) = u
  | 0, u, h => by
    have : u = 0 := by omega
    rw [this, Lib.decDigits_one (by omega)]; rfl
  | n + 1, u, h => by
    by_cases h10 : u < 10
    · rw [Lib.decDigits_one h10]
      show 10 * 0 + ((UInt8.ofNat (48 + u)).toNat - 48) = u
      rw [dig_nat h10]; omega
    · rw [Lib.decDigits, dif_neg h10, undec_snoc, dec_undec n (u / 10) (by omega), dig_nat (by omega)]
      omega
theorem undec_dec (u : Nat) : undec (Lib.decDigits u) = u := dec_undec u u (Nat.le_refl _)
theorem dec_inj {a b : Nat} (h : Lib.decDigits a = Lib.decDigits b) : a = b := by
  have := congrArg undec h
  rwa [undec_dec, undec_dec] at this
theorem dec_figs : ∀ (n u : Nat), u ≤ n → (Lib.decDigits u).all isF = true
  | 0, u, h => by
    have : u = 0 := by omega
    rw [this, Lib.decDigits_one (by omega)]; rfl
  | n + 1, u, h => by
    have hf : ∀ v, v < 10 → isF (UInt8.ofNat (48 + v)) = true := fun v hv => by unfold isF; rw [dig_nat hv]; simp; omega
    by_cases h10 : u < 10
    · rw [Lib.decDigits_one h10, List.all_cons, hf u h10]; rfl
    · rw [Lib.decDigits, dif_neg h10, List.all_append, dec_figs n (u / 10) (by omega), List.all_cons, hf (u % 10) (by omega)]
      rfl
theorem dec_ne (u : Nat) : Lib.decDigits u ≠ [] := by
  rw [Lib.decDigits]
  split <;> simp
theorem dec_head : ∀ (n u : Nat), u ≤ n → 0 < u → (Lib.decDigits u).head? ≠ some 48
  | 0, u, h, h0 => by omega
  | n + 1, u, h, h0 => by
    by_cases h10 : u < 10
    · rw [Lib.decDigits_one h10]
      intro e
      have e2 := congrArg UInt8.toNat (Option.some.inj e)
      rw [dig_nat h10] at e2
      have : (48 : UInt8).toNat = 48 := rfl
      omega
    · rw [Lib.decDigits, dif_neg h10]
      have ih := dec_head n (u / 10) (by omega) (by omega)
      cases hd : Lib.decDigits (u / 10) with
      | nil => exact absurd hd (dec_ne _)
      | cons x r => rw [hd] at ih; exact ih
/-- Written plainly: figures, no nought ahead. -/
def plainD (l : List UInt8) : Prop := l ≠ [] ∧ l.all isF = true ∧ (l.head? = some 48 → l = [48])
theorem dec_plain (u : Nat) : plainD (Lib.decDigits u) := by
  refine ⟨dec_ne u, dec_figs u u (Nat.le_refl _), fun h => ?_⟩
  by_cases h0 : u = 0
  · rw [h0, Lib.decDigits_one (by omega)]; rfl
  · exact absurd h (dec_head u u (Nat.le_refl _) (by omega))
theorem fig_back (b : UInt8) (h : isF b = true) : UInt8.ofNat (48 + (b.toNat - 48)) = b ∧ b.toNat - 48 < 10 ∧ 48 ≤ b.toNat ∧ b.toNat ≤ 57 := by
  unfold isF at h
  simp only [Bool.and_eq_true, decide_eq_true_eq] at h
  refine ⟨?_, by omega, h.1, h.2⟩
  rw [show 48 + (b.toNat - 48) = b.toNat by omega, UInt8.ofNat_toNat]
theorem undec_pos : ∀ (l : List UInt8), l.all isF = true → l ≠ [] → l.head? ≠ some 48 → 0 < undec l := by
  have H : ∀ n (l : List UInt8), l.length = n → l.all isF = true → l ≠ [] → l.head? ≠ some 48 → 0 < undec l := by
    intro n
    induction n with
    | zero => intro l hl _ h; exact absurd (List.eq_nil_of_length_eq_zero hl) h
    | succ n ih =>
      intro l hl hf hne hh
      obtain ⟨m, x, rfl⟩ : ∃ m x, l = m ++ [x] := ⟨l.dropLast, l.getLast hne, (List.dropLast_concat_getLast _).symm⟩
      rw [List.all_append, Bool.and_eq_true] at hf
      have hx : isF x = true := by simpa using hf.2
      have hb := fig_back x hx
      rw [undec_snoc]
      cases m with
      | nil =>
        have : x ≠ 48 := fun e => hh (by rw [e]; rfl)
        have h2 : x.toNat ≠ 48 := fun e => this (UInt8.toNat_inj.1 (by rw [e]; rfl))
        show 0 < 10 * 0 + (x.toNat - 48)
        omega
      | cons y r =>
        have := ih (y :: r) (by simpa using hl) hf.1 (by simp) hh
        omega
  intro l
  exact H _ l rfl
theorem plain_dec (l : List UInt8) (h : plainD l) : Lib.decDigits (undec l) = l := by
  have H : ∀ n (l : List UInt8), l.length = n → plainD l → Lib.decDigits (undec l) = l := by
    intro n
    induction n with
    | zero => intro l hl h; exact absurd (List.eq_nil_of_length_eq_zero hl) h.1
    | succ n ih =>
      intro l hl ⟨hne, hf, hh⟩
      obtain ⟨m, x, rfl⟩ : ∃ m x, l = m ++ [x] := ⟨l.dropLast, l.getLast hne, (List.dropLast_concat_getLast _).symm⟩
      rw [List.all_append, Bool.and_eq_true] at hf
      have hx : isF x = true := by simpa using hf.2
      have hb := fig_back x hx
      rw [undec_snoc]
      cases m with
      | nil =>
        show Lib.decDigits (10 * 0 + (x.toNat - 48)) = [x]
        rw [Nat.mul_zero, Nat.zero_add, Lib.decDigits_one hb.2.1, hb.1]
      | cons y r =>
        have hy : (y :: r).head? ≠ some 48 := by
          intro e
          have := hh e
          simp at this
        have hp := undec_pos (y :: r) hf.1 (by simp) hy
        have ihm := ih (y :: r) (by simpa using hl) ⟨by simp, hf.1, fun e => absurd e hy⟩
        rw [Lib.decDigits, dif_neg (by omega)]
        rw [show (10 * undec (y :: r) + (x.toNat - 48)) / 10 = undec (y :: r) by omega, show (10 * undec (y :: r) + (x.toNat - 48)) % 10 = x.toNat - 48 by omega, ihm, hb.1]
  exact H _ l rfl h
theorem undec_lt (l : List UInt8) (h : l.all isF = true) : undec l < 10 ^ l.length := by
  have H : ∀ n (l : List UInt8), l.length = n → l.all isF = true → undec l < 10 ^ n := by
    intro n
    induction n with
    | zero => intro l hl _; rw [List.eq_nil_of_length_eq_zero hl]; decide
    | succ n ih =>
      intro l hl hf
      obtain ⟨m, x, rfl⟩ : ∃ m x, l = m ++ [x] := ⟨l.dropLast, l.getLast (by intro e; rw [e] at hl; cases hl), (List.dropLast_concat_getLast _).symm⟩
      rw [List.all_append, Bool.and_eq_true] at hf
      have hx : isF x = true := by simpa using hf.2
      have hb := fig_back x hx
      have := ih m (by simpa using hl) hf.1
      rw [undec_snoc, Nat.pow_succ]
      omega
  exact H _ l rfl h
theorem undec_ge (l : List UInt8) (h : l.all isF = true) (hn : l ≠ []) (hh : l.head? ≠ some 48) : 10 ^ (l.length - 1) ≤ undec l := by
  have H : ∀ n (l : List UInt8), l.length = n + 1 → l.all isF = true → l.head? ≠ some 48 → 10 ^ n ≤ undec l := by
    intro n
    induction n with
    | zero =>
      intro l hl hf hh
      exact undec_pos l hf (by intro e; rw [e] at hl; cases hl) hh
    | succ n ih =>
      intro l hl hf hh
      obtain ⟨m, x, rfl⟩ : ∃ m x, l = m ++ [x] := ⟨l.dropLast, l.getLast (by intro e; rw [e] at hl; cases hl), (List.dropLast_concat_getLast _).symm⟩
      rw [List.all_append, Bool.and_eq_true] at hf
      cases m with
      | nil => simp at hl
      | cons y r =>
        have := ih (y :: r) (by simpa using hl) hf.1 hh
        rw [undec_snoc, Nat.pow_succ]
        omega
  obtain ⟨k, hk⟩ : ∃ k, l.length = k + 1 := ⟨l.length - 1, by have := List.length_pos_iff.2 hn; omega⟩
  rw [hk, Nat.add_sub_cancel]
  exact H k l hk h hh
/-! Places as figures. -/
def padk : Nat → Nat → List UInt8
  | 0, _ => []
  | k + 1, x => padk k (x / 10) ++ [UInt8.ofNat (48 + x % 10)]
theorem padk_zero : ∀ k, padk k 0 = List.replicate k 48
  | 0 => rfl
  | k + 1 => by rw [padk, Nat.zero_div, padk_zero k, List.replicate_succ']; rfl
theorem padk_dec : ∀ (k x : Nat), x < 10 ^ (k + 1) → padk (k + 1) x = List.replicate (k + 1 - (Lib.decDigits x).length) 48 ++ Lib.decDigits x
  | 0, x, h => by
    have h10 : x < 10 := by simpa using h
    rw [Lib.decDigits_one h10]
    show [] ++ [UInt8.ofNat (48 + x % 10)] = _
    rw [Nat.mod_eq_of_lt h10]; rfl
  | k + 1, x, h => by
    rw [padk]
    by_cases h10 : x < 10
    · rw [Nat.div_eq_of_lt h10, padk_zero, Lib.decDigits_one h10, Nat.mod_eq_of_lt h10]
      rfl
    · rw [padk_dec k (x / 10) (by rw [Nat.pow_succ] at h; omega)]
      have e : Lib.decDigits x = Lib.decDigits (x / 10) ++ [UInt8.ofNat (48 + x % 10)] := by rw [Lib.decDigits, dif_neg h10]
      rw [e, List.length_append, List.length_singleton, List.append_assoc]
      congr 2
      omega
theorem dec_len_le : ∀ (k x : Nat), x < 10 ^ (k + 1) → (Lib.decDigits x).length ≤ k + 1
  | 0, x, h => by rw [Lib.decDigits_one (by simpa using h)]; simp
  | k + 1, x, h => by
    by_cases h10 : x < 10
    · rw [Lib.decDigits_one h10]; simp
    · rw [Lib.decDigits, dif_neg h10, List.length_append]
      have := dec_len_le k (x / 10) (by rw [Nat.pow_succ] at h; omega)
      simp; omega
theorem dec_pad : ∀ (k x u : Nat), 0 < u → x < 10 ^ k → Lib.decDigits (x + 10 ^ k * u) = Lib.decDigits u ++ padk k x
  | 0, x, u, hu, hx => by
    have : x = 0 := by simpa using hx
    rw [this]; simp [padk]
  | k + 1, x, u, hu, hx => by
    rw [Nat.pow_succ] at hx
    have hp : 0 < 10 ^ k := Nat.pow_pos (by omega)
    have e1 : 10 ^ (k + 1) * u = 10 * (10 ^ k * u) := by rw [Nat.pow_succ, Nat.mul_comm (10 ^ k) 10, Nat.mul_assoc]
    have h1 : 1 ≤ 10 ^ k * u := Nat.mul_pos hp hu
    have e : (x + 10 ^ (k + 1) * u) / 10 = x / 10 + 10 ^ k * u := by rw [e1]; omega
    have e2 : (x + 10 ^ (k + 1) * u) % 10 = x % 10 := by rw [e1]; omega
    rw [Lib.decDigits, dif_neg (by rw [e1]; omega), e, e2, dec_pad k (x / 10) u hu (by omega), padk, List.append_assoc]
/-- A row's text, from its first place on (the list is turned). -/
def rowT : List Int → List UInt8
  | [] => []
  | [x] => Lib.decDigits x.toNat
  | x :: r => rowT r ++ padk 9 x.toNat
theorem rowT_val : ∀ (l : List Int), canon l → l ≠ [] → rowT l = Lib.decDigits (valI l).toNat
  | [], _, h => absurd rfl h
  | [x], h, _ => by simp [rowT, valI]
  | x :: y :: r, h, _ => by
    have hr : canon (y :: r) := ⟨h.1.cons.2, fun z hz => h.2 z (by rw [List.getLast?_cons_cons]; exact hz)⟩
    have ih := rowT_val (y :: r) hr (by simp)
    have hx := h.1.cons.1
    have hv := valI_nonneg (y :: r) hr.1
    have hpos : 0 < valI (y :: r) := by
      have h0 : valI (y :: r) ≠ 0 := fun e => by have := canon_zero hr e; cases this
      omega
    have ea : valI (x :: y :: r) = x + BB * valI (y :: r) := rfl
    unfold okP BB at hx
    obtain ⟨xn, rfl⟩ := Int.eq_ofNat_of_zero_le hx.1
    obtain ⟨u, hu⟩ := Int.eq_ofNat_of_zero_le hv
    rw [show rowT ((xn : Int) :: y :: r) = rowT (y :: r) ++ padk 9 (xn : Int).toNat from rfl, ih, ea, hu]
    have e3 : ((xn : Int) + BB * (u : Int)).toNat = xn + 10 ^ 9 * u := by unfold BB; omega
    rw [e3, Int.toNat_natCast, Int.toNat_natCast, dec_pad 9 xn u (by omega) (by omega)]
end Go.Proofs.YtgoaakdopbielaaDoor
namespace Go.Proofs.YtgoaakdopbielaaDoor
set_option linter.unusedSimpArgs false
set_option linter.unusedVariables false

/-! Layer 9, plain: numbers as texts. -/
def LIM : Nat := 2 ^ 512
def limL : List UInt8 := [49, 51, 52, 48, 55, 56, 48, 55, 57, 50, 57, 57, 52, 50, 53, 57, 55, 48, 57, 57, 53, 55, 52, 48, 50, 52, 57, 57, 56, 50, 48, 53, 56, 52, 54, 49, 50, 55, 52, 55, 57, 51, 54, 53, 56, 50, 48, 53, 57, 50, 51, 57, 51, 51, 55, 55, 55, 50, 51, 53, 54, 49, 52, 52, 51, 55, 50, 49, 55, 54, 52, 48, 51, 48, 48, 55, 51, 53, 52, 54, 57, 55, 54, 56, 48, 49, 56, 55, 52, 50, 57, 56, 49, 54, 54, 57, 48, 51, 52, 50, 55, 54, 57, 48, 48, 51, 49, 56, 53, 56, 49, 56, 54, 52, 56, 54, 48, 53, 48, 56, 53, 51, 55, 53, 51, 56, 56, 50, 56, 49, 49, 57, 52, 54, 53, 54, 57, 57, 52, 54, 52, 51, 51, 54, 52, 57, 48, 48, 54, 48, 56, 52, 48, 57, 54]
theorem lim_undec : undec limL = LIM := by decide +kernel
theorem lim_plain : plainD limL := ⟨by decide, by decide +kernel, by decide⟩
theorem lim_dec : Lib.decDigits LIM = limL := by rw [← lim_undec]; exact plain_dec limL lim_plain
theorem lim_len : limL.length = 155 := by decide +kernel
/-- Figures without a sign. -/
def amtL : List UInt8 → List UInt8
  | 45 :: r => r
  | l => l
def signL : List UInt8 → Bool
  | 45 :: _ => true
  | _ => false
def rightL (l : List UInt8) : Prop := l ≠ [45, 48] ∧ plainD (amtL l) ∧ undec (amtL l) < LIM
def zL (l : List UInt8) : Int := if signL l = true then -((undec (amtL l) : Nat) : Int) else (undec (amtL l) : Nat)
theorem amt_cases (l : List UInt8) : (∃ r, l = 45 :: r ∧ amtL l = r ∧ signL l = true) ∨ (l.head? ≠ some 45 ∧ amtL l = l ∧ signL l = false) := by
  cases l with
  | nil => exact .inr ⟨by simp, rfl, rfl⟩
  | cons x r =>
    by_cases h : x = 45
    · subst h; exact .inl ⟨r, rfl, rfl, rfl⟩
    · refine .inr ⟨by simpa using h, ?_, ?_⟩
      · unfold amtL
        split
        · rename_i h2; cases h2; exact absurd rfl h
        · rfl
      · unfold signL
        split
        · rename_i h2; cases h2; exact absurd rfl h
        · rfl
theorem right_itoa {l : List UInt8} (h : rightL l) : Lib.itoa (zL l) = l ∧ (zL l).natAbs < LIM := by
  obtain ⟨h1, h2, h3⟩ := h
  unfold zL
  rcases amt_cases l with ⟨r, rfl, ha, hs⟩ | ⟨hh, ha, hs⟩
  · rw [hs, ha, if_pos rfl]
    rw [ha] at h2 h3
    have hp : 0 < undec r := by
      by_cases h48 : r.head? = some 48
      · exact absurd (by rw [h2.2.2 h48]) h1
      · exact undec_pos r h2.2.1 h2.1 h48
    exact ⟨by rw [Lib.itoa_neg _ hp, plain_dec r h2], by omega⟩
  · rw [hs, ha, if_neg (by decide)]
    rw [ha] at h2 h3
    exact ⟨by rw [Lib.itoa_nonneg, plain_dec l h2], by omega⟩
theorem plainD_head {l : List UInt8} (h : plainD l) : l.head? ≠ some 45 := by
  cases l with
  | nil => exact fun e => by cases e
  | cons x r =>
    intro e
    have hx := h.2.1
    rw [List.all_cons, Bool.and_eq_true] at hx
    have hxe : x = 45 := Option.some.inj e
    rw [hxe] at hx
    exact absurd hx.1 (by decide)
theorem itoa_cases (z : Int) : (z < 0 ∧ Lib.itoa z = 45 :: Lib.decDigits z.natAbs) ∨ (0 ≤ z ∧ Lib.itoa z = Lib.decDigits z.natAbs) := by
  by_cases h : z < 0
  · refine .inl ⟨h, ?_⟩
    unfold Lib.itoa
    rw [if_pos h]
  · refine .inr ⟨by omega, ?_⟩
    unfold Lib.itoa
    rw [if_neg h, show z.toNat = z.natAbs by omega]
theorem amt_itoa (z : Int) : amtL (Lib.itoa z) = Lib.decDigits z.natAbs ∧ signL (Lib.itoa z) = decide (z < 0) := by
  rcases itoa_cases z with ⟨h, e⟩ | ⟨h, e⟩
  · rw [e, decide_eq_true h]; exact ⟨rfl, rfl⟩
  · rw [e, decide_eq_false (by omega)]
    rcases amt_cases (Lib.decDigits z.natAbs) with ⟨r, e2, _⟩ | ⟨_, h1, h2⟩
    · exact absurd (by rw [e2]; rfl) (plainD_head (dec_plain z.natAbs))
    · exact ⟨h1, h2⟩
theorem itoa_right {z : Int} (h : z.natAbs < LIM) : rightL (Lib.itoa z) ∧ zL (Lib.itoa z) = z := by
  obtain ⟨ha, hs⟩ := amt_itoa z
  refine ⟨⟨fun e => ?_, ?_, ?_⟩, ?_⟩
  · rcases itoa_cases z with ⟨h0, e2⟩ | ⟨h0, e2⟩
    · rw [e2] at e
      have e3 : Lib.decDigits z.natAbs = [48] := by simpa using e
      have := congrArg undec e3
      rw [undec_dec] at this
      have : z.natAbs = 0 := this
      omega
    · rw [e2] at e
      exact plainD_head (dec_plain z.natAbs) (by rw [e]; rfl)
  · rw [ha]; exact dec_plain _
  · rw [ha, undec_dec]; exact h
  · unfold zL
    rw [ha, hs, undec_dec]
    by_cases h0 : z < 0
    · rw [decide_eq_true h0, if_pos rfl]; omega
    · rw [decide_eq_false h0, if_neg (by decide)]; omega
theorem itoa_inj {a b : Int} (h : Lib.itoa a = Lib.itoa b) : a = b := by
  obtain ⟨ha, hs⟩ := amt_itoa a
  obtain ⟨hb, ht⟩ := amt_itoa b
  rw [h, hb] at ha
  rw [h, ht] at hs
  have h1 := dec_inj ha
  have h2 : decide (b < 0) = decide (a < 0) := hs
  rw [decide_eq_decide] at h2
  omega
open Classical in
/-- What a text is as a number. -/
noncomputable def numZ (l : List UInt8) : Option Int := if rightL l then some (zL l) else none
theorem numZ_iff (l : List UInt8) (z : Int) : numZ l = some z ↔ l = Lib.itoa z ∧ z.natAbs < LIM := by
  unfold numZ
  constructor
  · intro h
    split at h
    · rename_i hr
      cases h
      have := right_itoa hr
      exact ⟨this.1.symm, this.2⟩
    · cases h
  · rintro ⟨rfl, h⟩
    obtain ⟨h1, h2⟩ := itoa_right h
    rw [if_pos h1, h2]
theorem numZ_none (l : List UInt8) : numZ l = none ↔ ¬ rightL l := by
  unfold numZ
  constructor
  · intro h hr
    rw [if_pos hr] at h; cases h
  · intro h; rw [if_neg h]
/-! Amounts compared as texts. -/
def lexC : List UInt8 → List UInt8 → Int
  | [], [] => 0
  | [], _ :: _ => -1
  | _ :: _, [] => 1
  | x :: l, y :: m => if x.toNat < y.toNat then -1 else if y.toNat < x.toNat then 1 else lexC l m
theorem undec_cons (x : UInt8) (l : List UInt8) : undec (x :: l) = (x.toNat - 48) * 10 ^ l.length + undec l := by
  have H : ∀ (l : List UInt8) (a : Nat), l.foldl (fun a b => 10 * a + (b.toNat - 48)) a = a * 10 ^ l.length + undec l := by
    intro l
    induction l with
    | nil => intro a; simp [undec]
    | cons y r ih =>
      intro a
      show r.foldl _ (10 * a + (y.toNat - 48)) = _
      rw [ih]
      have e : undec (y :: r) = r.foldl (fun a b => 10 * a + (b.toNat - 48)) (10 * 0 + (y.toNat - 48)) := rfl
      rw [e, ih, List.length_cons, Nat.pow_succ, Nat.add_mul, Nat.mul_zero, Nat.zero_add]
      have : 10 * a * 10 ^ r.length = a * (10 ^ r.length * 10) := by rw [Nat.mul_comm 10 a, Nat.mul_assoc, Nat.mul_comm 10]
      omega
  show l.foldl _ (10 * 0 + (x.toNat - 48)) = _
  rw [H]
  simp
theorem lex_undec : ∀ (l m : List UInt8), l.length = m.length → l.all isF = true → m.all isF = true → (lexC l m < 0 ↔ undec l < undec m) ∧ (lexC l m = 0 ↔ undec l = undec m) ∧ (0 < lexC l m ↔ undec m < undec l)
  | [], [], _, _, _ => by simp [lexC]
  | x :: l, y :: m, hl, h1, h2 => by
    rw [List.all_cons, Bool.and_eq_true] at h1 h2
    have hlen : l.length = m.length := by simpa using hl
    have ih := lex_undec l m hlen h1.2 h2.2
    have hx := fig_back x h1.1
    have hy := fig_back y h2.1
    have b1 := undec_lt l h1.2
    have b2 := undec_lt m h2.2
    rw [← hlen] at b2
    rw [lexC, undec_cons, undec_cons, ← hlen]
    generalize 10 ^ l.length = P at *
    obtain ⟨a, ha⟩ : ∃ a, x.toNat - 48 = a := ⟨_, rfl⟩
    obtain ⟨b, hb⟩ : ∃ b, y.toNat - 48 = b := ⟨_, rfl⟩
    rw [ha, hb]
    by_cases c1 : x.toNat < y.toNat
    · rw [if_pos c1]
      have : (a + 1) * P ≤ b * P := Nat.mul_le_mul_right P (by omega)
      rw [Nat.add_mul, Nat.one_mul] at this
      omega
    · rw [if_neg c1]
      by_cases c2 : y.toNat < x.toNat
      · rw [if_pos c2]
        have : (b + 1) * P ≤ a * P := Nat.mul_le_mul_right P (by omega)
        rw [Nat.add_mul, Nat.one_mul] at this
        omega
      · rw [if_neg c2]
        have e : a = b := by omega
        rw [e]
        omega
/-- Of plain figures: wider than the limit, or as long and not below it as a text. -/
theorem wide_iff (l : List UInt8) (h : plainD l) : (155 < l.length ∨ (l.length = 155 ∧ 0 ≤ lexC l limL)) ↔ LIM ≤ undec l := by
  have hf := h.2.1
  have hlim : 10 ^ 154 ≤ LIM ∧ LIM < 10 ^ 155 := by decide +kernel
  have hlt := undec_lt l hf
  rcases Nat.lt_trichotomy l.length 155 with hc | hc | hc
  · have h1 : 10 ^ l.length ≤ 10 ^ 154 := Nat.pow_le_pow_right (by omega) (by omega)
    constructor
    · intro hx; omega
    · intro hx; omega
  · have hL := lex_undec l limL (by rw [hc, lim_len]) hf lim_plain.2.1
    rw [lim_undec] at hL
    constructor
    · intro hx
      rcases hx with hx | ⟨_, hx⟩
      · omega
      · by_cases h3 : LIM ≤ undec l
        · exact h3
        · have := hL.1.2 (by omega); omega
    · intro hx
      refine .inr ⟨hc, ?_⟩
      by_cases h3 : lexC l limL < 0
      · have := hL.1.1 h3; omega
      · omega
  · have h48 : l.head? ≠ some 48 := by
      intro e
      have := congrArg List.length (h.2.2 e)
      simp at this
      omega
    have h1 := undec_ge l hf h.1 h48
    have h2 : 10 ^ 155 ≤ 10 ^ (l.length - 1) := Nat.pow_le_pow_right (by omega) (by omega)
    constructor
    · intro _; omega
    · intro _; exact .inl hc
end Go.Proofs.YtgoaakdopbielaaDoor
namespace Go.Proofs.YtgoaakdopbielaaDoor
set_option linter.unusedSimpArgs false
set_option linter.unusedVariables false

/-! Layer 9, plain: windows; products; quotients; what is read. -/
def winL (l : List Int) (i n : Nat) : List Int := (l.drop i).take n
def putL (l : List Int) (i : Nat) (m : List Int) : List Int := l.take i ++ (m ++ l.drop (i + m.length))
theorem win_len (l : List Int) (i n : Nat) (h : i + n ≤ l.length) : (winL l i n).length = n := by unfold winL; rw [List.length_take, List.length_drop]; omega
theorem put_len (l : List Int) (i : Nat) (m : List Int) (h : i + m.length ≤ l.length) : (putL l i m).length = l.length := by
  unfold putL
  rw [List.length_append, List.length_append, List.length_take, List.length_drop]; omega
theorem put_win (l : List Int) (i n : Nat) (h : i + n ≤ l.length) : putL l i (winL l i n) = l := by
  unfold putL
  rw [win_len l i n h]
  unfold winL
  rw [← List.drop_drop, List.take_append_drop, List.take_append_drop]
theorem put_val (l : List Int) (i : Nat) (m : List Int) (h : i + m.length ≤ l.length) : valI (putL l i m) = valI (l.take i) + powB i * (valI m + powB m.length * valI (l.drop (i + m.length))) := by
  unfold putL
  rw [valI_app, valI_app, List.length_take, Nat.min_eq_left (by omega)]
theorem win_val (l : List Int) (i n : Nat) (h : i + n ≤ l.length) : valI l = valI (l.take i) + powB i * (valI (winL l i n) + powB n * valI (l.drop (i + n))) := by
  conv => lhs; rw [← put_win l i n h]
  rw [put_val l i _ (by rw [win_len l i n h]; omega), win_len l i n h]
theorem put_more (l : List Int) (i : Nat) (m : List Int) (h : i + m.length ≤ l.length) : valI (putL l i m) = valI l + powB i * (valI m - valI (winL l i m.length)) := by
  rw [put_val l i m h, win_val l i m.length h, Int.mul_add, Int.mul_add, Int.mul_sub]
  omega
theorem put_drop (l : List Int) (i : Nat) (m : List Int) (h : i + m.length ≤ l.length) (k : Nat) (hk : i + m.length ≤ k) : (putL l i m).drop k = l.drop k := by
  unfold putL
  rw [← List.append_assoc, List.drop_append, List.drop_eq_nil_of_le (by rw [List.length_append, List.length_take]; omega), List.nil_append, List.drop_drop, List.length_append, List.length_take, Nat.min_eq_left (by omega)]
  congr 1
  omega
theorem put_take (l : List Int) (i : Nat) (m : List Int) (h : i ≤ l.length) : (putL l i m).take i = l.take i := by
  unfold putL
  rw [List.take_append_of_le_length (by rw [List.length_take]; omega), List.take_take, Nat.min_self]
theorem put_winS (l : List Int) (i : Nat) (m : List Int) (h : i ≤ l.length) : winL (putL l i m) i m.length = m := by
  unfold winL putL
  have hl : (l.take i).length = i := by rw [List.length_take]; omega
  rw [List.drop_append, List.drop_eq_nil_of_le (by omega), List.nil_append, hl, Nat.sub_self, List.drop_zero, List.take_left]
theorem put_ok (l : List Int) (i : Nat) (m : List Int) (hl : okR l) (hm : okR m) : okR (putL l i m) := (hl.take i).app (hm.app (hl.drop _))
theorem okI_all {l : List Int} (h : okI l) (h0 : 0 ≤ valI l) (h1 : valI l < powB l.length) : okR l := by
  by_cases hl : l = []
  · rw [hl]; exact okR.nil
  · obtain ⟨m, x, rfl⟩ : ∃ m x, l = m ++ [x] := ⟨l.dropLast, l.getLast hl, (List.dropLast_concat_getLast _).symm⟩
    have hm := okI_last h
    refine hm.app (okR.mk ?_ okR.nil)
    rw [List.length_append, List.length_singleton, powB_succ] at h1
    rw [valI_app] at h0 h1
    simp only [valI, Int.mul_zero, Int.add_zero] at h0 h1
    have a1 := valI_nonneg m hm
    have a2 := valI_lt m hm
    have hp := powB_pos m.length
    constructor
    · by_cases hx : 0 ≤ x
      · exact hx
      · have : powB m.length * x ≤ powB m.length * (-1) := Int.mul_le_mul_of_nonneg_left (by omega) (by omega)
        omega
    · by_cases hx : x < BB
      · exact hx
      · have : powB m.length * BB ≤ powB m.length * x := Int.mul_le_mul_of_nonneg_left (by omega) (by omega)
        rw [Int.mul_comm] at this
        omega
/-- A product so far: i places of a are done. -/
def timesS (a b o : List Int) (i : Nat) : Prop := o.length = a.length + b.length ∧ okR o ∧ valI o = valI (a.take i) * valI b ∧ o.drop (i + b.length) = List.replicate (a.length - i) 0
theorem take_val (a : List Int) (i : Nat) (h : i < a.length) : valI (a.take (i + 1)) = valI (a.take i) + powB i * a[i] := by
  rw [List.take_add_one, List.getElem?_eq_getElem h, Option.toList_some, valI_app, List.length_take, Nat.min_eq_left (by omega)]
  simp [valI]
theorem times_step {a b o : List Int} {i : Nat} (ha : okR a) (hb : okR b) (hi : i < a.length) (h : timesS a b o i) :
    timesS a b (putL o i (addL 0 (winL o i (b.length + 1)) b a[i])) (i + 1) ∧ okR (winL o i (b.length + 1)) := by
  obtain ⟨h1, h2, h3, h4⟩ := h
  have hw : i + (b.length + 1) ≤ o.length := by omega
  have hwl := win_len o i (b.length + 1) hw
  have hwo : okR (winL o i (b.length + 1)) := (h2.drop i).take _
  have hal : (addL 0 (winL o i (b.length + 1)) b a[i]).length = b.length + 1 := by rw [addL_len, hwl]
  have hav : valI (addL 0 (winL o i (b.length + 1)) b a[i]) = valI (winL o i (b.length + 1)) + a[i] * valI b := by rw [addL_val _ _ _ _ (by omega)]; omega
  have hai := ha a[i] (List.getElem_mem hi)
  have hbv := valI_nonneg b hb
  have hbl := valI_lt b hb
  have hwv := valI_nonneg _ hwo
  -- the window's last place is 0
  have hz : valI (winL o i (b.length + 1)) < powB b.length := by
    have e : winL o i (b.length + 1) = winL o i b.length ++ [0] := by
      unfold winL
      have h5 : (o.drop i)[b.length]? = some 0 := by
        rw [List.getElem?_drop]
        have := congrArg (fun l => l[0]?) h4
        simp only [List.getElem?_drop, Nat.add_zero] at this
        rw [this, List.getElem?_replicate, if_pos (by omega)]
      rw [List.take_add_one, h5]; rfl
    rw [e, valI_app]
    have h6 := valI_lt (winL o i b.length) ((h2.drop i).take _)
    rw [win_len o i b.length (by omega)] at h6
    simp only [valI, Int.mul_zero, Int.add_zero]
    exact h6
  have hfb : a[i] * valI b ≤ (BB - 1) * valI b := Int.mul_le_mul_of_nonneg_right (by have := hai.2; omega) hbv
  have hfb0 : 0 ≤ a[i] * valI b := Int.mul_nonneg hai.1 hbv
  have e7 : (BB - 1) * valI b = BB * valI b - valI b := by rw [Int.sub_mul, Int.one_mul]
  have hb1 : 0 ≤ (BB - 1) * (powB b.length - valI b) := Int.mul_nonneg (by decide) (by omega)
  rw [Int.sub_mul, Int.one_mul, Int.mul_sub] at hb1
  have hao : okR (addL 0 (winL o i (b.length + 1)) b a[i]) := by
    refine okI_all (addL_ok _ _ _ _) (by omega) ?_
    rw [hal, powB_succ, hav]
    omega
  refine ⟨⟨?_, put_ok _ _ _ h2 hao, ?_, ?_⟩, hwo⟩
  · rw [put_len _ _ _ (by omega), h1]
  · rw [put_more _ _ _ (by omega), hal, hav, h3, take_val a i hi, Int.add_mul]
    rw [show valI (winL o i (b.length + 1)) + a[i] * valI b - valI (winL o i (b.length + 1)) = a[i] * valI b by omega, Int.mul_assoc]
  · rw [put_drop _ _ _ (by omega) _ (by omega)]
    have := congrArg (List.drop 1) h4
    rw [List.drop_drop, List.drop_replicate] at this
    rw [show i + 1 + b.length = i + b.length + 1 by omega, this, show a.length - i - 1 = a.length - (i + 1) by omega]
theorem times_start (a b : List Int) : timesS a b (List.replicate (a.length + b.length) 0) 0 := by
  refine ⟨List.length_replicate, okR.zeros _, ?_, ?_⟩
  · rw [valI_zeros, List.take_zero]; simp [valI]
  · rw [List.drop_replicate]; congr 1; omega
theorem times_end {a b o : List Int} (h : timesS a b o a.length) : valI o = valI a * valI b := by
  have := h.2.2.1
  rwa [List.take_length] at this
end Go.Proofs.YtgoaakdopbielaaDoor
