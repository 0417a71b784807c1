namespace Go.Proofs.YtgmmmimckdcggaaDoor
set_option linter.unusedSimpArgs false
set_option linter.unusedVariables false

/-! Layer 9, plain: rows of places. -/
def BB : Int := 1000000000
def valI : List Int → Int
  | [] => 0
  | x :: r => x + BB * valI r
def okP (x : Int) : Prop := 0 ≤ x ∧ x < BB
def okR (l : List Int) : Prop := ∀ x ∈ l, okP x
theorem okR.cons {x : Int} {l : List Int} (h : okR (x :: l)) : okP x ∧ okR l := ⟨h x (by simp), fun y hy => h y (by simp [hy])⟩
theorem okR.mk {x : Int} {l : List Int} (h : okP x) (h2 : okR l) : okR (x :: l) := by
  intro y hy
  rcases List.mem_cons.1 hy with rfl | hy
  · exact h
  · exact h2 y hy
theorem okR.nil : okR [] := fun x h => by cases h
theorem okR.app {a b : List Int} (h : okR a) (h2 : okR b) : okR (a ++ b) := by
  intro x hx
  rcases List.mem_append.1 hx with h' | h'
  · exact h x h'
  · exact h2 x h'
theorem okR.left {a b : List Int} (h : okR (a ++ b)) : okR a := fun x hx => h x (by simp [hx])
theorem okR.right {a b : List Int} (h : okR (a ++ b)) : okR b := fun x hx => h x (by simp [hx])
theorem okR.take {a : List Int} (h : okR a) (n : Nat) : okR (a.take n) := fun x hx => h x (List.mem_of_mem_take hx)
theorem okR.drop {a : List Int} (h : okR a) (n : Nat) : okR (a.drop n) := fun x hx => h x (List.mem_of_mem_drop hx)
theorem okR.zeros (n : Nat) : okR (List.replicate n 0) := fun x hx => by rw [(List.mem_replicate.1 hx).2]; exact ⟨by decide, by decide⟩
def powB (n : Nat) : Int := BB ^ n
theorem powB_zero : powB 0 = 1 := rfl
theorem powB_succ (n : Nat) : powB (n + 1) = BB * powB n := by unfold powB; rw [Int.pow_succ, Int.mul_comm]
theorem powB_pos : ∀ n, 0 < powB n
  | 0 => by decide
  | n + 1 => by rw [powB_succ]; exact Int.mul_pos (by decide) (powB_pos n)
theorem powB_add (m n : Nat) : powB (m + n) = powB m * powB n := by unfold powB; exact Int.pow_add BB m n
theorem valI_app : ∀ (a b : List Int), valI (a ++ b) = valI a + powB a.length * valI b
  | [], b => by simp [valI, powB_zero]
  | x :: a, b => by
    rw [List.cons_append, valI, valI, valI_app a b, List.length_cons, powB_succ, Int.mul_add, Int.mul_assoc, Int.add_assoc]
theorem valI_nonneg : ∀ (l : List Int), okR l → 0 ≤ valI l
  | [], _ => by decide
  | x :: r, h => by
    have h1 := h.cons
    have := valI_nonneg r h1.2
    rw [valI]
    have h2 : 0 ≤ BB * valI r := Int.mul_nonneg (by decide) this
    have := h1.1.1
    omega
theorem valI_lt : ∀ (l : List Int), okR l → valI l < powB l.length
  | [], _ => by decide
  | x :: r, h => by
    have h1 := h.cons
    have h2 := valI_lt r h1.2
    rw [valI, List.length_cons, powB_succ]
    have h3 : BB * (valI r + 1) ≤ BB * powB r.length := Int.mul_le_mul_of_nonneg_left (by omega) (by decide)
    rw [Int.mul_add, Int.mul_one] at h3
    have := h1.1.2
    omega
theorem valI_zeros : ∀ n, valI (List.replicate n 0) = 0
  | 0 => rfl
  | n + 1 => by rw [List.replicate_succ, valI, valI_zeros n]; rfl
/-! Trimmed. -/
def trimL (l : List Int) : List Int := (l.reverse.dropWhile (fun x => x == 0)).reverse
def canon (l : List Int) : Prop := okR l ∧ ∀ x, l.getLast? = some x → x ≠ 0
theorem trim_snoc (l : List Int) (x : Int) : trimL (l ++ [x]) = if x = 0 then trimL l else l ++ [x] := by
  unfold trimL
  rw [List.reverse_append, List.reverse_cons, List.reverse_nil, List.nil_append, List.singleton_append, List.dropWhile_cons]
  by_cases h : x = 0
  · rw [if_pos (by simpa using h), if_pos h]
  · rw [if_neg (by simpa using h), if_neg h, List.reverse_cons, List.reverse_reverse]
theorem trim_nil : trimL [] = [] := rfl
theorem trim_rec {P : List Int → List Int → Prop} (h0 : P [] []) (hz : ∀ l t, P l t → P (l ++ [0]) t) (hn : ∀ l x, x ≠ 0 → P (l ++ [x]) (l ++ [x])) : ∀ l, P l (trimL l) := by
  have H : ∀ n l, l.length = n → P l (trimL l) := by
    intro n
    induction n with
    | zero => intro l h; rw [List.eq_nil_of_length_eq_zero h]; exact h0
    | succ n ih =>
      intro l h
      obtain ⟨m, x, rfl⟩ : ∃ m x, l = m ++ [x] := ⟨l.dropLast, l.getLast (by intro e; rw [e] at h; cases h), (List.dropLast_concat_getLast _).symm⟩
      rw [trim_snoc]
      by_cases hx : x = 0
      · rw [if_pos hx, hx]; exact hz m _ (ih m (by simpa using h))
      · rw [if_neg hx]; exact hn m x hx
  intro l
  exact H _ l rfl
theorem trim_val (l : List Int) : valI (trimL l) = valI l := by
  refine trim_rec (P := fun l t => valI t = valI l) rfl (fun l t h => ?_) (fun l x _ => rfl) l
  rw [h, valI_app]; simp [valI]
theorem trim_take (l : List Int) : trimL l = l.take (trimL l).length := by
  have : ∃ k, l = trimL l ++ List.replicate k 0 := by
    refine trim_rec (P := fun l t => ∃ k, l = t ++ List.replicate k 0) ⟨0, rfl⟩ (fun l t ⟨k, h⟩ => ⟨k + 1, ?_⟩) (fun l x _ => ⟨0, by simp⟩) l
    rw [List.replicate_succ', ← List.append_assoc, ← h]
  obtain ⟨k, hk⟩ := this
  generalize trimL l = t at hk ⊢
  subst hk
  rw [List.take_left]
theorem trim_ok (l : List Int) (h : okR l) : canon (trimL l) := by
  refine ⟨by rw [trim_take]; exact h.take _, ?_⟩
  refine trim_rec (P := fun l t => ∀ x, t.getLast? = some x → x ≠ 0) (fun x h => by cases h) (fun l t h => h) (fun l x hx y hy => ?_) l
  rw [List.getLast?_append] at hy
  simp at hy
  omega
theorem trim_le (l : List Int) : (trimL l).length ≤ l.length := by
  have := congrArg List.length (trim_take l)
  rw [List.length_take] at this
  omega
theorem canon_zero {l : List Int} (h : canon l) (h0 : valI l = 0) : l = [] := by
  by_cases hl : l = []
  · exact hl
  · obtain ⟨m, x, rfl⟩ : ∃ m x, l = m ++ [x] := ⟨l.dropLast, l.getLast hl, (List.dropLast_concat_getLast _).symm⟩
    rw [valI_app] at h0
    have hx : x ≠ 0 := h.2 x (by simp)
    have hx2 : 0 ≤ x := (h.1 x (by simp)).1
    have hm := valI_nonneg m h.1.left
    have hp := powB_pos m.length
    have : 0 < powB m.length * valI [x] := Int.mul_pos hp (by simp only [valI]; omega)
    omega
theorem canon_low {m : List Int} {x : Int} (h : canon (m ++ [x])) : powB m.length ≤ valI (m ++ [x]) := by
  rw [valI_app]
  have hx : x ≠ 0 := h.2 x (by simp)
  have hx2 : 0 ≤ x := (h.1 x (by simp)).1
  have hm := valI_nonneg m h.1.left
  have hp := powB_pos m.length
  have h2 : powB m.length * 1 ≤ powB m.length * valI [x] := Int.mul_le_mul_of_nonneg_left (by simp only [valI]; omega) (by omega)
  rw [Int.mul_one] at h2
  omega
theorem val_inj : ∀ (a b : List Int), okR a → okR b → a.length = b.length → valI a = valI b → a = b
  | [], [], _, _, _, _ => rfl
  | x :: a, y :: b, ha, hb, hl, h => by
    have h1 := ha.cons
    have h2 := hb.cons
    rw [valI, valI] at h
    have hx := h1.1
    have hy := h2.1
    unfold okP BB at hx hy
    unfold BB at h
    have e : x = y ∧ valI a = valI b := by omega
    rw [e.1, val_inj a b h1.2 h2.2 (by simpa using hl) e.2]
theorem powB_mono {m n : Nat} (h : m ≤ n) : powB m ≤ powB n := by
  obtain ⟨k, rfl⟩ := Nat.exists_eq_add_of_le h
  rw [powB_add]
  have h1 := powB_pos m
  have h2 := powB_pos k
  have h3 := Int.mul_le_mul_of_nonneg_left (show (1 : Int) ≤ powB k by omega) (show 0 ≤ powB m by omega)
  rw [Int.mul_one] at h3
  exact h3
theorem canon_len {a b : List Int} (ha : canon a) (hb : canon b) (h : a.length < b.length) : valI a < valI b := by
  obtain ⟨m, x, rfl⟩ : ∃ m x, b = m ++ [x] := ⟨b.dropLast, b.getLast (by intro e; rw [e] at h; simp at h), (List.dropLast_concat_getLast _).symm⟩
  have h1 := valI_lt a ha.1
  have h2 := canon_low hb
  have h3 : powB a.length ≤ powB m.length := powB_mono (by simp at h; omega)
  omega
theorem canon_inj {a b : List Int} (ha : canon a) (hb : canon b) (h : valI a = valI b) : a = b := by
  have hl : a.length = b.length := by
    rcases Nat.lt_trichotomy a.length b.length with h1 | h1 | h1
    · have := canon_len ha hb h1; omega
    · exact h1
    · have := canon_len hb ha h1; omega
  exact val_inj a b ha.1 hb.1 hl h
/-! Adding and taking in place. -/
def addL (o : Int) : List Int → List Int → Int → List Int
  | [], _, _ => []
  | [x], _, _ => [x + o]
  | x :: y :: r, b, f => ((o + f * b.headD 0 + x) % BB) :: addL ((o + f * b.headD 0 + x) / BB) (y :: r) b.tail f
def takL (u : Int) : List Int → List Int → Int → List Int
  | [], _, _ => []
  | [x], _, _ => [x - u]
  | x :: y :: r, b, f =>
    if x - (u + f * b.headD 0) % BB < 0 then (x - (u + f * b.headD 0) % BB + BB) :: takL ((u + f * b.headD 0) / BB + 1) (y :: r) b.tail f
    else (x - (u + f * b.headD 0) % BB) :: takL ((u + f * b.headD 0) / BB) (y :: r) b.tail f
theorem addL_len : ∀ (a b : List Int) (o f : Int), (addL o a b f).length = a.length
  | [], _, _, _ => rfl
  | [x], _, _, _ => rfl
  | x :: y :: r, b, o, f => by rw [addL, List.length_cons, addL_len (y :: r)]; rfl
theorem takL_len : ∀ (a b : List Int) (o f : Int), (takL o a b f).length = a.length
  | [], _, _, _ => rfl
  | [x], _, _, _ => rfl
  | x :: y :: r, b, o, f => by
    rw [takL]
    split
    · rw [List.length_cons, takL_len (y :: r)]; rfl
    · rw [List.length_cons, takL_len (y :: r)]; rfl
theorem val_headTail (b : List Int) : valI b = b.headD 0 + BB * valI b.tail := by
  cases b with
  | nil => rfl
  | cons x r => rfl
theorem addL_val : ∀ (a b : List Int) (o f : Int), b.length < a.length → valI (addL o a b f) = valI a + f * valI b + o
  | [], b, _, _, h => by simp at h
  | [x], b, o, f, h => by
    have : b = [] := List.eq_nil_of_length_eq_zero (by simp at h; simpa using h)
    rw [this]; simp [addL, valI]
  | x :: y :: r, b, o, f, h => by
    have hb : b.tail.length < (y :: r).length := by rw [List.length_tail]; simp at h ⊢; omega
    have hv := val_headTail b
    have ea : valI (x :: y :: r) = x + BB * valI (y :: r) := rfl
    rw [addL, valI, addL_val (y :: r) b.tail _ f hb, ea]
    have e := Int.emod_add_mul_ediv (o + f * b.headD 0 + x) BB
    generalize (o + f * b.headD 0 + x) % BB = m at *
    generalize (o + f * b.headD 0 + x) / BB = q at *
    rw [hv]
    generalize valI (y :: r) = v at *
    generalize valI b.tail = t at *
    generalize b.headD 0 = d at *
    rw [Int.mul_add, Int.mul_add, Int.mul_add]
    have e2 : f * (BB * t) = BB * (f * t) := by rw [← Int.mul_assoc, Int.mul_comm f, Int.mul_assoc]
    rw [e2]
    omega
theorem takL_val : ∀ (a b : List Int) (o f : Int), b.length < a.length → valI (takL o a b f) = valI a - f * valI b - o
  | [], b, _, _, h => by simp at h
  | [x], b, o, f, h => by
    have : b = [] := List.eq_nil_of_length_eq_zero (by simp at h; simpa using h)
    rw [this]; simp [takL, valI]
  | x :: y :: r, b, o, f, h => by
    have hb : b.tail.length < (y :: r).length := by rw [List.length_tail]; simp at h ⊢; omega
    have hv := val_headTail b
    have e := Int.emod_add_mul_ediv (o + f * b.headD 0) BB
    have e2 : f * (BB * valI b.tail) = BB * (f * valI b.tail) := by rw [← Int.mul_assoc, Int.mul_comm f, Int.mul_assoc]
    have ea : valI (x :: y :: r) = x + BB * valI (y :: r) := rfl
    have eb : f * valI b = f * b.headD 0 + BB * (f * valI b.tail) := by rw [hv, Int.mul_add, e2]
    rw [takL, ea, eb]
    split
    · rw [valI, takL_val (y :: r) b.tail _ f hb, Int.mul_sub, Int.mul_sub, Int.mul_add, Int.mul_one]
      omega
    · rw [valI, takL_val (y :: r) b.tail _ f hb, Int.mul_sub, Int.mul_sub]
      omega
/-- All places but the last one are right. -/
def okI (l : List Int) : Prop := okR l.dropLast
theorem addL_ok : ∀ (a b : List Int) (o f : Int), okI (addL o a b f)
  | [], _, _, _ => okR.nil
  | [x], _, _, _ => okR.nil
  | x :: y :: r, b, o, f => by
    have ih := addL_ok (y :: r) b.tail ((o + f * b.headD 0 + x) / BB) f
    rw [addL]
    unfold okI at ih ⊢
    have hne : addL ((o + f * b.headD 0 + x) / BB) (y :: r) b.tail f ≠ [] := by
      intro e; have := congrArg List.length e; rw [addL_len] at this; simp at this
    rw [List.dropLast_cons_of_ne_nil hne]
    exact okR.mk ⟨Int.emod_nonneg _ (by decide), Int.emod_lt_of_pos _ (by decide)⟩ ih
theorem takL_ok : ∀ (a b : List Int) (o f : Int), okI a → okI (takL o a b f)
  | [], _, _, _, _ => okR.nil
  | [x], _, _, _, _ => okR.nil
  | x :: y :: r, b, o, f, h => by
    unfold okI at h
    rw [List.dropLast_cons_of_ne_nil (by simp)] at h
    have hx := h.cons.1
    unfold okP at hx
    have h1 := Int.emod_nonneg (o + f * b.headD 0) (show BB ≠ 0 by decide)
    have h2 := Int.emod_lt_of_pos (o + f * b.headD 0) (show (0 : Int) < BB by decide)
    rw [takL]
    split
    · unfold okI
      have hne : takL ((o + f * b.headD 0) / BB + 1) (y :: r) b.tail f ≠ [] := by
        intro e; have := congrArg List.length e; rw [takL_len] at this; simp at this
      rw [List.dropLast_cons_of_ne_nil hne]
      exact okR.mk ⟨by omega, by omega⟩ (takL_ok (y :: r) b.tail _ f h.cons.2)
    · unfold okI
      have hne : takL ((o + f * b.headD 0) / BB) (y :: r) b.tail f ≠ [] := by
        intro e; have := congrArg List.length e; rw [takL_len] at this; simp at this
      rw [List.dropLast_cons_of_ne_nil hne]
      exact okR.mk ⟨by omega, by omega⟩ (takL_ok (y :: r) b.tail _ f h.cons.2)
end Go.Proofs.YtgmmmimckdcggaaDoor
