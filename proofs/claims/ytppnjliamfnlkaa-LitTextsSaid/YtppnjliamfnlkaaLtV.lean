import Derived.Test.YtppnjliamfnlkaaLtT
namespace Go.Proofs.Ytppnjliamfnlkaa
open Go.RowKit
set_option linter.unusedSimpArgs false
set_option linter.unusedVariables false
set_option linter.unusedSectionVars false

/-! A plain number is itself. -/
theorem mul10 : ∀ (l : List Nat) (c : Nat), c < 10 → (∀ x ∈ l, x < 10) → (mulF 10 l c).1 ++ [(mulF 10 l c).2] = c :: l
  | [], c, _, _ => rfl
  | f :: t, c, hc, hl => by
    have hf : f < 10 := hl f (by simp)
    have e1 : (c + f * 10) % 10 = c := by omega
    have e2 : (c + f * 10) / 10 = f := by omega
    simp only [mulF, e1, e2, List.cons_append, List.cons.injEq, true_and]
    exact mul10 t f hf (fun x hx => hl x (by simp [hx]))
theorem times10 {l : List Nat} {d : Nat} (hd : d < 10) (hl : ∀ x ∈ l, x < 10) (h : (d :: l).getLast? ≠ some 0) : timesF 10 l d = d :: l := by
  have hm := mul10 l d hd hl
  have hlast : (d :: l).getLast? = some (mulF 10 l d).2 := by rw [← hm]; simp
  have hc := mulF_carry (base := 10) l d hl hd
  have hne : (mulF 10 l d).2 ≠ 0 := by
    intro h0
    rw [hlast, h0] at h
    exact h rfl
  have hr : restF 3 (mulF 10 l d).2 = [(mulF 10 l d).2] := by
    rw [restF, if_neg hne, show (mulF 10 l d).2 / 10 = 0 by omega, show (mulF 10 l d).2 % 10 = (mulF 10 l d).2 by omega]
    rfl
  rw [timesF, hr, hm]
def digs (t : ByteArray) (pos : Nat) : List Nat := ((t.data.toList.drop pos).map fun b => b.toNat - 48).reverse
theorem digs_step (t : ByteArray) (pos : Nat) (h : pos < t.size) (l : List Nat) : digs t pos ++ l = digs t (pos + 1) ++ ((byteN t pos - 48) :: l) := by
  have hk : pos < t.data.toList.length := by simpa using h
  unfold digs
  rw [List.drop_eq_getElem_cons hk]
  simp only [List.map_cons, List.reverse_cons, List.append_assoc, List.singleton_append, byteN, List.getD_eq_getElem?_getD, List.getElem?_eq_getElem hk, Option.getD_some]
theorem digF_plain (t : ByteArray) (hd : ∀ i, i < t.size → 48 ≤ byteN t i ∧ byteN t i ≤ 57) : ∀ (f pos last : Nat) (l : List Nat), t.size < f + pos → pos ≤ t.size → (pos = t.size → last ≠ 0 ∧ last ≠ 95) → (∀ x ∈ l, x < 10) →
    (digs t pos ++ l).getLast? ≠ some 0 → digF t 10 f pos last l = some (digs t pos ++ l)
  | 0, pos, last, l, h1, h2, h3, h4, h5 => by omega
  | f + 1, pos, last, l, h1, h2, h3, h4, h5 => by
    unfold digF
    by_cases hp : pos < t.size
    · have hb := hd pos hp
      rw [if_pos hp, dec_ascii t pos hp (by omega)]
      have hw : digitW (byteN t pos) = byteN t pos - 48 := by unfold digitW; rw [if_pos hb]
      simp only
      rw [if_neg (by omega), hw, if_pos (by omega)]
      have hst := digs_step t pos hp l
      have hlast : ((byteN t pos - 48) :: l).getLast? ≠ some 0 := by
        rw [hst, List.getLast?_append] at h5
        cases hx : ((byteN t pos - 48) :: l).getLast? with
        | none => simp
        | some x => rw [hx] at h5; simpa using h5
      rw [times10 (by omega) h4 hlast, hst]
      refine digF_plain t hd f (pos + 1) _ _ (by omega) (by omega) (fun _ => by omega) ?_ (by rw [← hst]; exact h5)
      intro x hx
      rcases List.mem_cons.1 hx with rfl | hx
      · omega
      · exact h4 x hx
    · have hpe : pos = t.size := by omega
      obtain ⟨a, b⟩ := h3 hpe
      rw [if_neg hp, if_neg (by omega)]
      have : digs t pos = [] := by
        unfold digs
        rw [List.drop_of_length_le (by simp; omega)]
        rfl
      rw [this]; rfl
theorem pre_one (s : ByteArray) (a : UInt8) : pre s ⟨#[a]⟩ = decide (1 ≤ s.size ∧ byteN s 0 = a.toNat) := by
  by_cases h : 1 ≤ s.size
  · rw [pre_yes (by exact h)]
    have hL : s.data.toList.length = s.size := by simp
    rw [Lib.extract_toList, List.drop_zero]
    obtain ⟨x, r, hl⟩ : ∃ x r, s.data.toList = x :: r := by
      rcases hs : s.data.toList with _ | ⟨x, r⟩
      · rw [hs] at hL; simp at hL; omega
      · exact ⟨x, r, rfl⟩
    have : (⟨#[a]⟩ : ByteArray).toList = [a] := by rw [Lib.toList_data]
    rw [this, hl, Bool.eq_iff_iff]
    have hz : (⟨#[a]⟩ : ByteArray).size = 1 := rfl
    simp only [byteN, hl, hz, beq_iff_eq, decide_eq_true_eq, h, true_and, Nat.sub_zero, List.take_succ_cons, List.take_zero, List.cons.injEq, and_true, List.getD_cons_zero, ← UInt8.toNat_inj]
  · rw [pre_no (by exact h)]
    symm; simp; omega
theorem plain_num {t : ByteArray} (h0 : 0 < t.size) (hd : ∀ i, i < t.size → 48 ≤ byteN t i ∧ byteN t i ≤ 57) (hf : byteN t 0 ≠ 48) : numR t = some t := by
  have hb := hd 0 h0
  have hsp : splitF t = some (10, 0) := by
    unfold splitF
    have h95 : byteN t 0 ≠ 95 := by omega
    simp [pre_two, pre_one, hf, h95]
  unfold numR
  rw [hsp]
  simp only [ext_zero]
  have hdl : (digs t 0 ++ []).getLast? ≠ some 0 := by
    have hst := digs_step t 0 h0 []
    rw [hst, List.getLast?_append]
    simp
    omega
  rw [digF_plain t hd _ 0 0 [] (by omega) (by omega) (fun h => by omega) (by simp) hdl]
  simp only [Option.map_some, Option.some.injEq, List.append_nil]
  have hne : digs t 0 ≠ [] := by
    intro h
    have := congrArg List.length h
    simp only [digs, List.length_reverse, List.length_map, List.length_drop, List.length_nil, Array.length_toList, ByteArray.size_data] at this
    omega
  rw [decF, if_neg hne]
  apply ByteArray.ext
  apply Array.ext'
  simp only [digs, List.reverse_reverse, List.drop_zero, List.map_map]
  apply List.ext_getElem?
  intro i
  rw [List.getElem?_map]
  by_cases hi : i < t.data.toList.length
  · have hb := hd i (by simpa using hi)
    rw [List.getElem?_eq_getElem hi]
    simp only [Option.map_some, Function.comp, Option.some.injEq]
    simp only [byteN, List.getD_eq_getElem?_getD, List.getElem?_eq_getElem hi, Option.getD_some] at hb
    apply UInt8.toNat_inj.1
    rw [UInt8.toNat_ofNat']
    have := UInt8.toNat_lt (t.data.toList[i])
    omega
  · rw [List.getElem?_eq_none (by omega)]; rfl
def repB (k : Nat) (c : UInt8) : ByteArray := ⟨(List.replicate k c).toArray⟩
theorem repB_size (k : Nat) (c : UInt8) : (repB k c).size = k := by simp [repB, ByteArray.size]
theorem repB_byte (k : Nat) (c : UInt8) (i : Nat) (h : i < k) : byteN (repB k c) i = c.toNat := by
  unfold byteN repB
  simp [List.getD_eq_getElem?_getD, List.getElem?_replicate, h]
theorem rep_num (k c : Nat) (hk : 0 < k) (h1 : 49 ≤ c) (h2 : c ≤ 57) : numR (repB k (UInt8.ofNat c)) = some (repB k (UInt8.ofNat c)) := by
  have hc : (UInt8.ofNat c).toNat = c := by rw [UInt8.toNat_ofNat']; omega
  refine plain_num (by rw [repB_size]; exact hk) (fun i hi => ?_) ?_
  · rw [repB_size] at hi
    rw [repB_byte _ _ _ hi, hc]; omega
  · rw [repB_byte _ _ _ hk, hc]; omega
end Go.Proofs.Ytppnjliamfnlkaa
