import Derived.Test.YtppnjliamfnlkaaLtX
namespace Go.Proofs.Ytppnjliamfnlkaa
open Go.RowKit
set_option linter.unusedSimpArgs false
set_option linter.unusedVariables false
set_option linter.unusedSectionVars false

/-! The document's Number is the program's (pure). -/
def refG (s : ByteArray) (base : Nat) : Nat → Nat → List Nat → Option (List Nat)
  | 0, _, _ => none
  | f + 1, i, ds =>
    if i < s.size then
      (if byteN s i = 95 then (if i + 1 = s.size ∨ byteN s (i + 1) = 95 then none else refG s base f (i + 1) ds)
       else if digitW (byteN s i) < base then refG s base f (i + 1) (ds ++ [digitW (byteN s i)]) else none)
    else if ds = [] then none else some ds
theorem dec_high (t : ByteArray) (i : Nat) (h : i < t.size) (h2 : 128 ≤ byteN t i) : 128 ≤ (Utf8.decode t i).1 := by
  rw [decode_B t i h]
  have h0 := byteN_lt t i
  have h1 := byteN_lt t (i + 1)
  have h3 := byteN_lt t (i + 2)
  have h4 := byteN_lt t (i + 3)
  generalize byteN t i = b0 at *
  generalize byteN t (i + 1) = b1 at *
  generalize byteN t (i + 2) = b2 at *
  generalize byteN t (i + 3) = b3 at *
  unfold decB
  repeat' split
  all_goals (simp only; omega)
theorem digitW_high {c : Nat} (h : 128 ≤ c) : digitW c = 99 := by
  unfold digitW
  rw [if_neg (by omega), if_neg (by omega), if_neg (by omega)]
theorem digitW_low {c b : Nat} (h : digitW c < b) (hb : b ≤ 16) : 48 ≤ c ∧ c < 128 := by
  unfold digitW at h
  repeat' split at h
  all_goals omega
theorem byteN_ext (s : ByteArray) (n j : Nat) : byteN (s.extract n s.size) j = byteN s (n + j) := by
  simp only [byteN, Lib.extract_data, List.getD_eq_getElem?_getD]
  have : (s.data.toList.drop n).take (s.size - n) = s.data.toList.drop n := List.take_of_length_le (by simp)
  rw [this, List.getElem?_drop]
theorem digF_ref {s : ByteArray} {n b : Nat} (hn : n ≤ s.size) (hb2 : 2 ≤ b) (hb : b ≤ 16) : ∀ (k pos f1 f2 last : Nat) (ds : List Nat), s.size - n - pos = k → pos ≤ s.size - n → s.size - n < f1 + pos → s.size < f2 + (n + pos) →
    (last ≠ 95 → (last = 0 ↔ ds = [])) →
    digF (s.extract n s.size) b f1 pos last (foldD b [] ds) = if last = 95 ∧ (pos = s.size - n ∨ byteN s (n + pos) = 95) then none else (refG s b f2 (n + pos) ds).map (foldD b []) := by
  have hts : (s.extract n s.size).size = s.size - n := by simp
  intro k
  induction k with
  | zero =>
    intro pos f1 f2 last ds hk hp hf1 hf2 hl
    have hpe : pos = s.size - n := by omega
    obtain ⟨f1, rfl⟩ : ∃ g, f1 = g + 1 := ⟨f1 - 1, by omega⟩
    obtain ⟨f2, rfl⟩ : ∃ g, f2 = g + 1 := ⟨f2 - 1, by omega⟩
    have e1 : digF (s.extract n s.size) b (f1 + 1) pos last (foldD b [] ds) = if last = 0 ∨ last = 95 then none else some (foldD b [] ds) := by rw [digF, if_neg (by rw [hts]; omega)]
    have e2 : refG s b (f2 + 1) (n + pos) ds = if ds = [] then none else some ds := by rw [refG, if_neg (show ¬ n + pos < s.size by omega)]
    rw [e1, e2]
    by_cases h95 : last = 95
    · rw [if_pos (show last = 0 ∨ last = 95 from .inr h95), if_pos (show last = 95 ∧ (pos = s.size - n ∨ byteN s (n + pos) = 95) from ⟨h95, .inl hpe⟩)]
    · rw [if_neg (show ¬ (last = 95 ∧ (pos = s.size - n ∨ byteN s (n + pos) = 95)) from fun h => h95 h.1)]
      by_cases h0 : last = 0
      · rw [if_pos (show last = 0 ∨ last = 95 from .inl h0), if_pos ((hl h95).1 h0)]; rfl
      · rw [if_neg (show ¬ (last = 0 ∨ last = 95) by omega), if_neg (fun h => h0 ((hl h95).2 h))]; rfl
  | succ k ih =>
    intro pos f1 f2 last ds hk hp hf1 hf2 hl
    obtain ⟨f1, rfl⟩ : ∃ g, f1 = g + 1 := ⟨f1 - 1, by omega⟩
    obtain ⟨f2, rfl⟩ : ∃ g, f2 = g + 1 := ⟨f2 - 1, by omega⟩
    have hlt : pos < (s.extract n s.size).size := by rw [hts]; omega
    have hbt := byteN_ext s n pos
    have e1 : digF (s.extract n s.size) b (f1 + 1) pos last (foldD b [] ds) = (if (Utf8.decode (s.extract n s.size) pos).1 = 95 then (if last = 95 then none else digF (s.extract n s.size) b f1 (pos + (Utf8.decode (s.extract n s.size) pos).2) 95 (foldD b [] ds))
       else if digitW (Utf8.decode (s.extract n s.size) pos).1 < b then digF (s.extract n s.size) b f1 (pos + (Utf8.decode (s.extract n s.size) pos).2) (Utf8.decode (s.extract n s.size) pos).1 (timesF b (foldD b [] ds) (digitW (Utf8.decode (s.extract n s.size) pos).1))
       else none) := by rw [digF, if_pos hlt]
    have e2 : refG s b (f2 + 1) (n + pos) ds = (if byteN s (n + pos) = 95 then (if n + pos + 1 = s.size ∨ byteN s (n + pos + 1) = 95 then none else refG s b f2 (n + pos + 1) ds)
       else if digitW (byteN s (n + pos)) < b then refG s b f2 (n + pos + 1) (ds ++ [digitW (byteN s (n + pos))]) else none) := by rw [refG, if_pos (show n + pos < s.size by omega)]
    by_cases hc : byteN s (n + pos) < 128
    · rw [dec_ascii _ pos hlt (by rw [hbt]; exact hc), hbt] at e1
      simp only at e1
      by_cases h95 : byteN s (n + pos) = 95
      · rw [if_pos h95] at e1 e2
        by_cases hl95 : last = 95
        · rw [if_pos hl95] at e1
          rw [e1, if_pos (show last = 95 ∧ (pos = s.size - n ∨ byteN s (n + pos) = 95) from ⟨hl95, .inr h95⟩)]
        · rw [if_neg hl95, ih (pos + 1) f1 f2 95 ds (by omega) (by omega) (by omega) (by omega) (fun h => absurd rfl h), show n + (pos + 1) = n + pos + 1 by omega] at e1
          rw [e1, e2, if_neg (show ¬ (last = 95 ∧ (pos = s.size - n ∨ byteN s (n + pos) = 95)) from fun h => hl95 h.1)]
          by_cases he : n + pos + 1 = s.size ∨ byteN s (n + pos + 1) = 95
          · rw [if_pos he, if_pos (show (95 = 95 ∧ (pos + 1 = s.size - n ∨ byteN s (n + pos + 1) = 95)) from ⟨rfl, by omega⟩)]; rfl
          · rw [if_neg he, if_neg (show ¬ (95 = 95 ∧ (pos + 1 = s.size - n ∨ byteN s (n + pos + 1) = 95)) by omega)]
      · rw [if_neg h95] at e1 e2
        have hcond : ¬ (last = 95 ∧ (pos = s.size - n ∨ byteN s (n + pos) = 95)) := by omega
        by_cases hd : digitW (byteN s (n + pos)) < b
        · rw [if_pos hd] at e1 e2
          have hlow := digitW_low hd hb
          rw [← foldD_snoc, ih (pos + 1) f1 f2 (byteN s (n + pos)) (ds ++ [digitW (byteN s (n + pos))]) (by omega) (by omega) (by omega) (by omega) (fun _ => ⟨fun h => by omega, fun h => by simp at h⟩),
            if_neg (show ¬ (byteN s (n + pos) = 95 ∧ (pos + 1 = s.size - n ∨ byteN s (n + (pos + 1)) = 95)) from fun h => h95 h.1), show n + (pos + 1) = n + pos + 1 by omega] at e1
          rw [e1, e2, if_neg hcond]
        · rw [if_neg hd] at e1 e2
          rw [e1, e2, if_neg hcond]; rfl
    · have hr := dec_high _ pos hlt (by rw [hbt]; omega)
      rw [if_neg (show ¬ (Utf8.decode (s.extract n s.size) pos).1 = 95 by omega), digitW_high hr, if_neg (show ¬ 99 < b by omega)] at e1
      rw [if_neg (show ¬ byteN s (n + pos) = 95 by omega), digitW_high (show 128 ≤ byteN s (n + pos) by omega), if_neg (show ¬ 99 < b by omega)] at e2
      rw [e1, e2, if_neg (show ¬ (last = 95 ∧ (pos = s.size - n ∨ byteN s (n + pos) = 95)) by omega)]; rfl

/-- What the document's Number begins with. -/
def refSplit (s : ByteArray) : Option (Nat × Nat) :=
  if s.size = 0 ∨ byteN s 0 < 48 ∨ 57 < byteN s 0 then none
  else if byteN s 0 = 48 ∧ 1 < s.size then
    (if byteN s 1 = 120 ∨ byteN s 1 = 88 then some (16, 2) else if byteN s 1 = 98 ∨ byteN s 1 = 66 then some (2, 2) else if byteN s 1 = 111 ∨ byteN s 1 = 79 then some (8, 2) else some (8, 1))
  else some (10, 0)
def refR (s : ByteArray) : Option ByteArray :=
  match refSplit s with
  | none => none
  | some (b, n) => (refG s b (s.size + 1) n []).map fun ds => decF (foldD b [] ds)
theorem numR_of {s : ByteArray} {b n : Nat} (h1 : splitF s = some (b, n)) (h2 : refSplit s = some (b, n)) (hn : n ≤ s.size) : refR s = numR s := by
  obtain ⟨hb2, hb, _⟩ := split_base h1
  unfold refR numR
  rw [h1, h2]
  simp only
  have h := digF_ref (s := s) (n := n) (b := b) hn hb2 hb (s.size - n) 0 ((s.extract n s.size).size + 1) (s.size + 1) 0 [] (by omega) (by omega) (by simp) (by omega) (by simp)
  rw [if_neg (by omega)] at h
  have hf : foldD b [] [] = [] := rfl
  rw [hf, Nat.add_zero] at h
  rw [h]
  cases refG s b (s.size + 1) n [] <;> rfl
theorem size_list (s : ByteArray) (h : 1 < s.size) : (s.toList == [48]) = false := by
  rw [beq_eq_false_iff_ne]
  intro he
  rw [Lib.toList_data] at he
  have := congrArg List.length he
  simp at this; omega
theorem list_one (s : ByteArray) (h : s.size = 1) (h0 : byteN s 0 = 48) : (s.toList == [48]) = true := by
  rw [beq_iff_eq, Lib.toList_data]
  have hL : s.data.toList.length = 1 := by simpa using h
  match hs : s.data.toList, hL with
  | [x], _ =>
    simp only [byteN, hs, List.getD_cons_zero] at h0
    simp only [List.cons.injEq, and_true]
    apply UInt8.toNat_inj.1
    simpa using h0
theorem refR_eq (s : ByteArray) : refR s = numR s := by
  by_cases hz : s.size = 0
  · have h1 : refSplit s = none := by unfold refSplit; rw [if_pos (.inl hz)]
    have h2 : splitF s = some (10, 0) := by unfold splitF; simp [pre_two, pre_one, hz]
    unfold refR numR
    rw [h1, h2]
    simp only [ext_zero]
    rw [digF, if_neg (by omega)]; rfl
  by_cases hlo : byteN s 0 < 48 ∨ 57 < byteN s 0
  · have h1 : refSplit s = none := by unfold refSplit; rw [if_pos (.inr hlo)]
    have n48 : byteN s 0 ≠ 48 := by omega
    unfold refR numR
    rw [h1]
    by_cases h95 : byteN s 0 = 95
    · have h2 : splitF s = none := by unfold splitF; simp [pre_two, pre_one, h95, show 1 ≤ s.size by omega]
      rw [h2]
    · have h2 : splitF s = some (10, 0) := by unfold splitF; simp [pre_two, pre_one, h95, n48]
      rw [h2]
      simp only [ext_zero]
      have hnd : digF s 10 (s.size + 1) 0 0 [] = none := by
        rw [digF, if_pos (by omega)]
        by_cases hc : byteN s 0 < 128
        · rw [dec_ascii s 0 (by omega) hc]
          simp only
          rw [if_neg h95, if_neg]
          unfold digitW
          repeat' split
          all_goals omega
        · have hr := dec_high s 0 (by omega) (by omega)
          rw [if_neg (by omega), digitW_high hr, if_neg (by omega)]
      rw [hnd]; rfl
  by_cases h48 : byteN s 0 = 48
  · by_cases h1 : 1 < s.size
    · have hsl := size_list s h1
      have e1 : refSplit s = (if byteN s 1 = 120 ∨ byteN s 1 = 88 then some (16, 2) else if byteN s 1 = 98 ∨ byteN s 1 = 66 then some (2, 2) else if byteN s 1 = 111 ∨ byteN s 1 = 79 then some (8, 2) else some (8, 1)) := by
        unfold refSplit; rw [if_neg (by omega), if_pos ⟨h48, h1⟩]
      have e2 : splitF s = (if byteN s 1 = 120 ∨ byteN s 1 = 88 then some (16, 2) else if byteN s 1 = 98 ∨ byteN s 1 = 66 then some (2, 2) else if byteN s 1 = 111 ∨ byteN s 1 = 79 then some (8, 2) else some (8, 1)) := by
        have h2 : 2 ≤ s.size := by omega
        have h3 : 1 ≤ s.size := by omega
        unfold splitF
        simp only [pre_two, pre_one, h48, hsl, h2, h3]
        by_cases a1 : byteN s 1 = 120
        · simp [a1]
        by_cases a2 : byteN s 1 = 88
        · simp [a2]
        by_cases a3 : byteN s 1 = 98
        · simp [a3]
        by_cases a4 : byteN s 1 = 66
        · simp [a4]
        by_cases a5 : byteN s 1 = 111
        · simp [a5]
        by_cases a6 : byteN s 1 = 79
        · simp [a6]
        simp [a1, a2, a3, a4, a5, a6]
      have hex : ∃ b n, splitF s = some (b, n) ∧ n ≤ 2 := by
        rw [e2]
        repeat' split
        all_goals exact ⟨_, _, rfl, by omega⟩
      obtain ⟨b, n, hx, hn⟩ := hex
      exact numR_of hx (by rw [e1, ← e2, hx]) (by omega)
    · have hs1 : s.size = 1 := by omega
      have hl := list_one s hs1 h48
      have e1 : refSplit s = some (10, 0) := by unfold refSplit; rw [if_neg (by omega), if_neg (by omega)]
      have e2 : splitF s = some (10, 0) := by unfold splitF; simp [pre_two, pre_one, h48, hs1, hl]
      exact numR_of e2 e1 (by omega)
  · have n95 : byteN s 0 ≠ 95 := by omega
    have e1 : refSplit s = some (10, 0) := by unfold refSplit; rw [if_neg (by omega), if_neg (by omega)]
    have e2 : splitF s = some (10, 0) := by unfold splitF; simp [pre_two, pre_one, h48, n95]
    exact numR_of e2 e1 (by omega)
end Go.Proofs.Ytppnjliamfnlkaa
