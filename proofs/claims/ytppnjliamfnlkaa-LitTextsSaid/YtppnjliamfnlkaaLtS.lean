import Derived.Test.YtppnjliamfnlkaaLtI
namespace Go.Proofs.Ytppnjliamfnlkaa
open Go.RowKit
set_option linter.unusedSimpArgs false
set_option linter.unusedVariables false
set_option linter.unusedSectionVars false

/-! Numbers' values: without noughts ahead; a nought more behind a base's sign. -/
def Canon (l : List Nat) : Prop := (∀ x ∈ l, x < 10) ∧ l.getLast? ≠ some 0
theorem restF_last : ∀ (n c : Nat), c < 10 ^ n → (restF n c).getLast? ≠ some 0
  | 0, c, _ => by simp [restF]
  | n + 1, c, h => by
    unfold restF
    split
    · simp
    · rename_i hc
      have h2 : c / 10 < 10 ^ n := by rw [Nat.pow_succ] at h; omega
      have ih := restF_last n (c / 10) h2
      rw [List.getLast?_cons]
      cases hr : (restF n (c / 10)).getLast? with
      | some x =>
        rw [hr] at ih
        simpa using ih
      | none =>
        have he : restF n (c / 10) = [] := by simpa using hr
        have h0 : c / 10 = 0 := by
          cases n with
          | zero => simpa using h2
          | succ n =>
            unfold restF at he
            split at he
            · assumption
            · simp at he
        simp; omega
theorem mulF_last {base : Nat} (hb : 2 ≤ base) : ∀ (l : List Nat) (c : Nat), l.getLast? ≠ some 0 → (mulF base l c).2 = 0 → (mulF base l c).1.getLast? ≠ some 0
  | [], c, _, _ => by simp [mulF]
  | [f], c, h, h2 => by
    simp only [mulF] at h2 ⊢
    have hf : f ≠ 0 := by simpa using h
    have := Nat.mul_le_mul (show 1 ≤ f by omega) hb
    simp; omega
  | f :: g :: t, c, h, h2 => by
    have ih := mulF_last hb (g :: t) ((c + f * base) / 10) (by simpa [List.getLast?_cons] using h) h2
    have hne : (mulF base (g :: t) ((c + f * base) / 10)).1 ≠ [] := by simp [mulF]
    rw [mulF, List.getLast?_cons]
    cases hr : (mulF base (g :: t) ((c + f * base) / 10)).1.getLast? with
    | none => exact absurd (by simpa using hr) hne
    | some x => rw [hr] at ih; simpa using ih
theorem timesF_canon {base : Nat} (hb : 2 ≤ base) (hb2 : base ≤ 16) {l : List Nat} {m : Nat} (hl : Canon l) (hm : m < base) : Canon (timesF base l m) := by
  refine ⟨timesF_lt _ _ _, ?_⟩
  have hc := mulF_carry l m hl.1 hm
  have hr := restF_last 3 (mulF base l m).2 (by omega)
  unfold timesF
  rw [List.getLast?_append]
  cases h : (restF 3 (mulF base l m).2).getLast? with
  | some x => rw [h] at hr; simpa using hr
  | none =>
    have he : restF 3 (mulF base l m).2 = [] := by simpa using h
    have h0 : (mulF base l m).2 = 0 := by
      unfold restF at he
      split at he
      · assumption
      · simp at he
    simpa using mulF_last hb l m hl.2 h0
theorem digF_canon {t : ByteArray} {b : Nat} (hb : 2 ≤ b) (hb2 : b ≤ 16) : ∀ (f pos last : Nat) (l r : List Nat), Canon l → digF t b f pos last l = some r → Canon r
  | 0, _, _, _, _, _, h => by simp [digF] at h
  | f + 1, pos, last, l, r, hl, h => by
    unfold digF at h
    repeat' split at h
    · simp at h
    · exact digF_canon hb hb2 f _ _ _ _ hl h
    · rename_i hd
      exact digF_canon hb hb2 f _ _ _ _ (timesF_canon hb hb2 hl hd) h
    · simp at h
    · simp at h
    · simp only [Option.some.injEq] at h; exact h ▸ hl

theorem dec_ascii (s : ByteArray) (i : Nat) (h : i < s.size) (h2 : byteN s i < 128) : Utf8.decode s i = (byteN s i, 1) := by
  rw [decode_B s i h, decB, if_pos h2]
theorem plainG_all (s : ByteArray) (h : ∀ i, i < s.size → 48 ≤ byteN s i ∧ byteN s i ≤ 57) : ∀ (f pos : Nat), plainG s f pos = true
  | 0, _ => rfl
  | f + 1, pos => by
    unfold plainG
    split
    · rename_i hlt
      have hb := h pos hlt
      rw [dec_ascii s pos hlt (by omega), if_pos (by simpa using hb)]
      exact plainG_all s h f _
    · rfl
theorem decF_bytes {l : List Nat} (hl : ∀ x ∈ l, x < 10) (i : Nat) (hi : i < (decF l).size) : 48 ≤ byteN (decF l) i ∧ byteN (decF l) i ≤ 57 := by
  by_cases h : l = []
  · subst h
    have : i = 0 := by simp [decF, ByteArray.size] at hi; omega
    subst this
    decide
  · rw [decF_size l h] at hi
    have hb := decF_byte l h hl i hi
    have hm : i < (u8s (l.map (48 + ·))).reverse.length := by simpa [u8s] using hi
    rw [List.getElem?_eq_getElem hm] at hb
    have hx : (u8s (l.map (48 + ·))).reverse[i]'hm ∈ u8s (l.map (48 + ·)) := by rw [← List.mem_reverse]; exact List.getElem_mem _
    simp only [Option.some.injEq] at hb
    rw [hb] at hx
    simp only [u8s, List.map_map, List.mem_map, Function.comp, Value.int.injEq, true_and] at hx
    obtain ⟨d, hd, he⟩ := hx
    have := hl d hd
    omega
theorem decF_plain {l : List Nat} (hl : Canon l) (h : (decF l).size ≤ 200) : plainF (decF l) = true := by
  by_cases h0 : l = []
  · subst h0; decide +kernel
  have hsz := decF_size l h0
  have hpos : 0 < l.length := List.length_pos_iff.2 h0
  unfold plainF
  rw [if_neg]
  · exact plainG_all _ (fun i hi => decF_bytes hl.1 i hi) _ _
  · rintro (h1 | h1 | ⟨h1, h2⟩)
    · omega
    · omega
    · have hb := decF_byte l h0 hl.1 0 hpos
      rw [h1] at hb
      have he : (u8s (l.map (48 + ·))).reverse[0]? = some (.int .u8 ((48 + l.getLast h0 : Nat) : Int)) := by
        rw [List.getElem?_reverse (by simpa [u8s] using hpos)]
        simp only [u8s, List.length_map, List.getElem?_map, Nat.sub_zero, ← List.getLast?_eq_getElem?, List.getLast?_eq_some_getLast h0, Option.map_some]
      rw [he] at hb
      simp only [Option.some.injEq, Value.int.injEq, true_and] at hb
      have : l.getLast h0 ≠ 0 := by
        have := hl.2
        rw [List.getLast?_eq_some_getLast h0] at this
        simpa using this
      omega
theorem numV_plain {s : ByteArray} (h : numE s = 0) : plainF (numV s) = true ∨ 200 < (numV s).size := by
  unfold numE at h
  split at h
  · omega
  · rename_i hs
    rw [numV, if_neg hs]
    split at h
    · omega
    · rename_i hn
      cases hr : numR s with
      | none => exact absurd hr hn
      | some r =>
        simp only [Option.getD_some]
        unfold numR at hr
        split at hr
        · simp at hr
        · rename_i b n hsp
          obtain ⟨hb2, hb16, _⟩ := split_base hsp
          simp only [Option.map_eq_some_iff] at hr
          obtain ⟨l, hl, rfl⟩ := hr
          have hc := digF_canon hb2 hb16 _ _ _ _ _ ⟨by simp, by simp⟩ hl
          by_cases h2 : 200 < (decF l).size
          · exact .inr h2
          · exact .inl (decF_plain hc (by omega))
end Go.Proofs.Ytppnjliamfnlkaa
