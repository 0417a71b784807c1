import Derived.Test.YtppnjliamfnlkaaLtAr
import Derived.Test.YtppnjliamfnlkaaLtAf
namespace Go.Proofs.Ytppnjliamfnlkaa
open Go.RowKit
set_option linter.unusedSimpArgs false
set_option linter.unusedVariables false
set_option linter.unusedSectionVars false

/-! Quoted text, byte by byte: it is what parts means (pure). -/
theorem ba_ext {a b : ByteArray} (h : a.data.toList = b.data.toList) : a = b := ByteArray.ext (Array.toList_inj.mp h)
@[irreducible] def tl (t : ByteArray) (i : Nat) : ByteArray := t.extract i t.size
theorem tl_def (t : ByteArray) (i : Nat) : tl t i = t.extract i t.size := by unfold tl; rfl
theorem tl_list (t : ByteArray) (i : Nat) : (tl t i).data.toList = t.data.toList.drop i := by
  unfold tl
  rw [Lib.extract_data]
  apply List.take_of_length_le
  simp
theorem tl_size (t : ByteArray) (i : Nat) : (tl t i).size = t.size - i := by simp [tl]
theorem tl_cons (t : ByteArray) (i : Nat) (h : i < t.size) : ∃ b : UInt8, b.toNat = byteN t i ∧ (tl t i).data.toList = b :: (tl t (i + 1)).data.toList := by
  have hk : i < t.data.toList.length := by simpa using h
  refine ⟨t.data.toList[i], ?_, ?_⟩
  · simp [byteN, List.getD_eq_getElem?_getD, List.getElem?_eq_getElem hk]
  · rw [tl_list, tl_list]; exact List.drop_eq_getElem_cons hk
theorem plain_list (p : ByteArray) : plainB p = p.data.toList.any isB := by
  rw [plainB_has]; unfold hasB; rw [List.drop_zero]
theorem isB_eq {b : UInt8} {c : Nat} (h : b.toNat = c) : isB b = decide (c = 34 ∨ c = 10) := by
  subst h
  unfold isB
  rw [Bool.eq_iff_iff]
  simp only [Bool.or_eq_true, beq_iff_eq, decide_eq_true_eq, ← UInt8.toNat_inj]
  rfl
theorem pre_list (p : ByteArray) (k : Nat) : (p.extract 0 k).data.toList = p.data.toList.take k := by
  rw [Lib.extract_data, List.drop_zero, Nat.sub_zero]
theorem suf_list (p : ByteArray) (k : Nat) : (p.extract k p.size).data.toList = p.data.toList.drop k := by rw [← tl_def]; exact tl_list p k
theorem cut_step (t : ByteArray) (i : Nat) (h : i < t.size) (hc : byteN t i ≠ 92) :
    (cutR (tl t i)).2 = (cutR (tl t (i + 1))).2 ∧ bytesL (cutR (tl t i)).1 = byteN t i :: bytesL (cutR (tl t (i + 1))).1 ∧
    plainB (cutR (tl t i)).1 = (decide (byteN t i = 34 ∨ byteN t i = 10) || plainB (cutR (tl t (i + 1))).1) := by
  obtain ⟨b, hb, hl⟩ := tl_cons t i h
  have hb92 : (b == 92) = false := by
    rw [beq_eq_false_iff_ne]
    intro e; subst e
    exact hc hb.symm
  have hix : Lib.indexByte (tl t i).data.toList 92 = if Lib.indexByte (tl t (i + 1)).data.toList 92 == -1 then -1 else Lib.indexByte (tl t (i + 1)).data.toList 92 + 1 := by
    rw [hl, Lib.indexByte, hb92]; rfl
  have hge := Lib.indexByte_ge (tl t (i + 1)).data.toList 92
  by_cases h1 : Lib.indexByte (tl t (i + 1)).data.toList 92 = -1
  · have h2 : Lib.indexByte (tl t i).data.toList 92 = -1 := by rw [hix, h1]; rfl
    unfold cutR
    rw [if_pos h1, if_pos h2]
    refine ⟨rfl, ?_, ?_⟩
    · simp only [bytesL]; rw [hl, List.map_cons, hb]
    · simp only [plain_list]; rw [hl, List.any_cons, isB_eq hb]
  · obtain ⟨k, hk⟩ : ∃ k : Nat, Lib.indexByte (tl t (i + 1)).data.toList 92 = k := ⟨(Lib.indexByte (tl t (i + 1)).data.toList 92).toNat, by omega⟩
    have hkk : ((k : Int) == -1) = false := by rw [beq_eq_false_iff_ne]; omega
    have h2 : Lib.indexByte (tl t i).data.toList 92 = ((k + 1 : Nat) : Int) := by rw [hix, hk, hkk]; simp
    unfold cutR
    rw [if_neg h1, if_neg (by rw [h2]; omega), h2, hk]
    simp only [Int.toNat_natCast]
    refine ⟨?_, ?_, ?_⟩
    · congr 1
      apply ba_ext
      rw [suf_list (tl t i) (k + 1 + 1), suf_list (tl t (i + 1)) (k + 1), hl, List.drop_succ_cons]
    · simp only [bytesL, pre_list]; rw [hl, List.take_succ_cons, List.map_cons, hb]
    · simp only [plain_list, pre_list]; rw [hl, List.take_succ_cons, List.any_cons, isB_eq hb]
theorem cut_here (t : ByteArray) (i : Nat) (h : i < t.size) (hc : byteN t i = 92) :
    bytesL (cutR (tl t i)).1 = [] ∧ plainB (cutR (tl t i)).1 = false ∧ (cutR (tl t i)).2.1 = tl t (i + 1) ∧ (cutR (tl t i)).2.2 = true := by
  obtain ⟨b, hb, hl⟩ := tl_cons t i h
  have hb92 : (b == 92) = true := by
    rw [beq_iff_eq, ← UInt8.toNat_inj, hb, hc]; rfl
  have hix : Lib.indexByte (tl t i).data.toList 92 = 0 := by rw [hl, Lib.indexByte, hb92]; rfl
  unfold cutR
  rw [if_neg (by rw [hix]; omega), hix]
  have h0 : ((tl t i).extract 0 (Int.toNat 0)).data.toList = [] := by rw [pre_list]; rfl
  refine ⟨?_, ?_, ?_, rfl⟩
  · simp only [bytesL]; rw [h0]; rfl
  · simp only [plain_list]; rw [h0]; rfl
  · apply ba_ext
    simp only [Int.toNat_zero, Nat.zero_add]
    rw [suf_list (tl t i) 1, hl, List.drop_succ_cons, List.drop_zero]
theorem cut_end (t : ByteArray) (i : Nat) (h : t.size ≤ i) : bytesL (cutR (tl t i)).1 = [] ∧ plainB (cutR (tl t i)).1 = false ∧ (cutR (tl t i)).2.2 = false := by
  have hl : (tl t i).data.toList = [] := by
    rw [tl_list]; apply List.drop_eq_nil_of_le; simpa using h
  have hix : Lib.indexByte (tl t i).data.toList 92 = -1 := by rw [hl]; rfl
  unfold cutR
  rw [if_pos hix]
  refine ⟨?_, ?_, rfl⟩
  · simp only [bytesL]; rw [hl]; rfl
  · simp only [plain_list]; rw [hl]; rfl

/-- What stands between a text's quotes, as the document takes it. -/
def docF (q : Nat) (t : ByteArray) : Nat → Nat → List Nat → Option (List Nat)
  | 0, _, _ => none
  | f + 1, i, out =>
    if t.size ≤ i then some out
    else if byteN t i = q ∨ (q = 34 ∧ byteN t i = 10) then none
    else if q = 96 ∧ byteN t i = 13 then docF q t f (i + 1) out
    else if q = 34 ∧ byteN t i = 92 then (match partN t (i + 1) with | none => none | some (l, k) => docF q t f (i + 1 + k) (out ++ l))
    else docF q t f (i + 1) (out ++ [byteN t i])
theorem partN_le {t : ByteArray} {a k : Nat} {l : List Nat} (ha : a ≤ t.size) (h : partN t a = some (l, k)) : a + k ≤ t.size ∧ 1 ≤ k := by
  have hv : ∀ {b n base v : Nat}, refVal t b n base = some v → b + n ≤ t.size := by
    intro b n base v hv
    unfold refVal at hv
    split at hv
    · cases hv
    · omega
  unfold partN sgnN at h
  split at h
  · cases h
  split at h
  · cases h; omega
  split at h
  · split at h
    · cases h
    · rename_i hr; cases h; have := hv hr; omega
  split at h
  · split at h
    · cases h
    · rename_i hr; have := hv hr; split at h <;> cases h; omega
  split at h
  · split at h
    · cases h
    · rename_i hr; have := hv hr; split at h <;> cases h; omega
  split at h
  · cases h
  · rename_i hr; have := hv hr; split at h <;> cases h; omega
theorem doc_parts (t : ByteArray) : ∀ (n i g f : Nat) (out : List Nat), t.size - i = n → i ≤ t.size → n < g → n < f → docF 34 t g i out = partsF f (tl t i) out := by
  intro n
  induction n using Nat.strongRecOn with
  | ind n ih =>
    intro i g f out hn hi hg hf
    obtain ⟨g, rfl⟩ : ∃ x, g = x + 1 := ⟨g - 1, by omega⟩
    obtain ⟨f, rfl⟩ : ∃ x, f = x + 1 := ⟨f - 1, by omega⟩
    rw [docF]
    by_cases h0 : t.size ≤ i
    · obtain ⟨c1, c2, c3⟩ := cut_end t i h0
      rw [if_pos h0, partsF, c1, c2, c3]; simp
    rw [if_neg h0]
    have hlt : i < t.size := by omega
    by_cases h92 : byteN t i = 92
    · obtain ⟨c1, c2, c3, c4⟩ := cut_here t i hlt h92
      rw [if_neg (by omega), if_neg (by omega), if_pos ⟨rfl, h92⟩, partsF, c1, c2, c3, c4]
      have hbp := behind_part t (i + 1) (by omega)
      rw [← tl_def] at hbp
      rw [hbp]
      cases hp : partN t (i + 1) with
      | none => simp
      | some p =>
        obtain ⟨l, k⟩ := p
        obtain ⟨k1, k2⟩ := partN_le (by omega) hp
        have := ih (t.size - (i + 1 + k)) (by omega) (i + 1 + k) g f (out ++ l) rfl (by omega) (by omega) (by omega)
        simp only [Option.map, Bool.false_eq_true, if_false, if_true, List.append_nil]
        rw [← tl_def]
        exact this
    · obtain ⟨c1, c2, c3⟩ := cut_step t i hlt h92
      by_cases hq : byteN t i = 34 ∨ byteN t i = 10
      · rw [if_pos (by omega), partsF, c3, decide_eq_true hq]; simp
      · rw [if_neg (by omega), if_neg (by omega), if_neg (by omega), ih (t.size - (i + 1)) (by omega) (i + 1) g (f + 1) (out ++ [byteN t i]) rfl (by omega) (by omega) (by omega)]
        rw [partsF, partsF, c1, c2, c3, decide_eq_false hq, Bool.false_or]
        simp only [List.append_assoc, List.cons_append, List.nil_append]
theorem doc_raw (t : ByteArray) : ∀ (n i g : Nat) (out : List Nat), t.size - i = n → i ≤ t.size → n < g →
    docF 96 t g i out = if 0 ≤ Lib.indexByte (tl t i).data.toList 96 then none else some (out ++ (bytesL (tl t i)).filter (· ≠ 13)) := by
  intro n
  induction n with
  | zero =>
    intro i g out hn hi hg
    obtain ⟨g, rfl⟩ : ∃ x, g = x + 1 := ⟨g - 1, by omega⟩
    have hl : (tl t i).data.toList = [] := by
      rw [tl_list]; apply List.drop_eq_nil_of_le; simp; omega
    rw [docF, if_pos (show t.size ≤ i by omega)]
    simp only [bytesL]
    rw [hl]
    simp [Lib.indexByte]
  | succ n ih =>
    intro i g out hn hi hg
    obtain ⟨g, rfl⟩ : ∃ x, g = x + 1 := ⟨g - 1, by omega⟩
    obtain ⟨b, hb, hl⟩ := tl_cons t i (by omega)
    have hge := Lib.indexByte_ge (tl t (i + 1)).data.toList 96
    rw [docF, if_neg (show ¬ t.size ≤ i by omega)]
    by_cases h96 : byteN t i = 96
    · have hbb : (b == 96) = true := by rw [beq_iff_eq, ← UInt8.toNat_inj, hb, h96]; rfl
      have hix : Lib.indexByte (tl t i).data.toList 96 = 0 := by rw [hl, Lib.indexByte, hbb]; rfl
      rw [if_pos (.inl h96), hix]; rfl
    · have hbb : (b == 96) = false := by
        rw [beq_eq_false_iff_ne]
        intro e; subst e
        exact h96 hb.symm
      have hix : Lib.indexByte (tl t i).data.toList 96 = if Lib.indexByte (tl t (i + 1)).data.toList 96 == -1 then -1 else Lib.indexByte (tl t (i + 1)).data.toList 96 + 1 := by
        rw [hl, Lib.indexByte, hbb]; rfl
      have hiff : (0 ≤ Lib.indexByte (tl t i).data.toList 96) ↔ (0 ≤ Lib.indexByte (tl t (i + 1)).data.toList 96) := by
        rw [hix]
        by_cases h : Lib.indexByte (tl t (i + 1)).data.toList 96 = -1
        · rw [h]; decide
        · rw [if_neg (by simpa using h)]; omega
      have hbl : bytesL (tl t i) = byteN t i :: bytesL (tl t (i + 1)) := by simp only [bytesL]; rw [hl, List.map_cons, hb]
      rw [if_neg (show ¬ (byteN t i = 96 ∨ (96 = 34 ∧ byteN t i = 10)) by omega)]
      simp only [hiff, hbl]
      by_cases h13 : byteN t i = 13
      · rw [if_pos ⟨trivial, h13⟩, ih (i + 1) g out (by omega) (by omega) (by omega), List.filter_cons_of_neg (by simp [h13])]
      · rw [if_neg (by omega), if_neg (by omega), ih (i + 1) g (out ++ [byteN t i]) (by omega) (by omega) (by omega), List.filter_cons_of_pos (by simp [h13])]
        simp
end Go.Proofs.Ytppnjliamfnlkaa
