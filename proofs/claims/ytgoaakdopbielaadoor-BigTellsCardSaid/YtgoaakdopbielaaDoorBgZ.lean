import Derived.Test.YtgoaakdopbielaaDoorBgX
import Derived.Test.YtgoaakdopbielaaDoorPlM
namespace Go.Proofs.YtgoaakdopbielaaDoor
open Go.RowKit Go.Shelf
set_option linter.unusedSimpArgs false
set_option linter.unusedVariables false
set_option linter.unusedSectionVars false

/-! Layer 9: which texts are right. -/
theorem dec_byteV (s : ByteArray) (i : Nat) (h : i < s.size) : (Utf8.decode s i = (byteN s i, 1) ∧ byteN s i < 128) ∨ (128 ≤ (Utf8.decode s i).1 ∧ 128 ≤ byteN s i) := by
  rw [decode_B s i h]
  by_cases h0 : byteN s i < 128
  · exact .inl ⟨by unfold decB; rw [if_pos h0], h0⟩
  · refine .inr ⟨?_, by omega⟩
    unfold decB
    rw [if_neg h0]
    repeat' split
    all_goals (simp only; omega)
theorem bz_byte (s : ByteArray) (i : Nat) (h : i < s.size) : ((Utf8.decode s i).1 = byteN s i ∧ (Utf8.decode s i).2 = 1 ∧ byteN s i < 128) ∨ (128 ≤ (Utf8.decode s i).1 ∧ 128 ≤ byteN s i) := by
  have hb := dec_byteV s i h
  rcases hb with ⟨a, c⟩ | ⟨a, d⟩
  · left; rw [a]; exact ⟨rfl, rfl, c⟩
  · right; omega
theorem bz_ascii (s : ByteArray) (i : Nat) (h : i < s.size) (h2 : byteN s i < 128) : Utf8.decode s i = (byteN s i, 1) := by
  rw [decode_B s i h, decB, if_pos h2]
theorem plainG_all (s : ByteArray) (h : ∀ i, i < s.size → 48 ≤ byteN s i ∧ byteN s i ≤ 57) : ∀ (f pos : Nat), plainG s f pos = true
  | 0, _ => rfl
  | f + 1, pos => by
    unfold plainG
    split
    · rename_i hlt
      have hb := h pos hlt
      rw [bz_ascii s pos hlt (by omega), if_pos (by simpa using hb)]
      exact plainG_all s h f _
    · rfl
theorem plainF_figs {d : ByteArray} (h : plainG d (d.size + 1) 0 = true) : ∀ i, i < d.size → 48 ≤ byteN d i ∧ byteN d i ≤ 57 := by
  have H : ∀ f i, d.size < f + i → i ≤ d.size → plainG d f i = true → ∀ j, i ≤ j → j < d.size → 48 ≤ byteN d j ∧ byteN d j ≤ 57 := by
    intro f
    induction f with
    | zero => intro i a b; omega
    | succ f ih =>
      intro i a b hp j h1 h2
      rw [plainG, if_pos (by omega)] at hp
      split at hp
      · rename_i hd
        have hb := bz_byte d i (by omega)
        have hb0 : byteN d i = (Utf8.decode d i).1 ∧ (Utf8.decode d i).2 = 1 := by rcases hb with ⟨a, c, _⟩ | ⟨a, _⟩ <;> omega
        rw [hb0.2] at hp
        by_cases he : j = i
        · rw [he, hb0.1]; exact hd
        · exact ih (i + 1) (by omega) (by omega) hp j (by omega) h2
      · cases hp
  exact fun i hi => H _ 0 (by omega) (Nat.zero_le _) h i (Nat.zero_le _) hi
theorem figs_iff (d : ByteArray) : (∀ i, i < d.size → 48 ≤ byteN d i ∧ byteN d i ≤ 57) ↔ d.data.toList.all isF = true := by
  rw [List.all_eq_true]
  constructor
  · intro h x hx
    obtain ⟨i, hi, rfl⟩ := List.mem_iff_getElem.mp hx
    have hb := h i (by simpa using hi)
    unfold byteN at hb
    rw [List.getD_eq_getElem?_getD, List.getElem?_eq_getElem hi] at hb
    unfold isF
    simpa using hb
  · intro h i hi
    have hi2 : i < d.data.toList.length := by simpa using hi
    have hb := h _ (List.getElem_mem hi2)
    unfold byteN
    rw [List.getD_eq_getElem?_getD, List.getElem?_eq_getElem hi2]
    unfold isF at hb
    simpa using hb
theorem plainF_iff (d : ByteArray) : plainF d = true ↔ plainD d.data.toList ∧ d.size ≤ 200 := by
  have hsz : d.data.toList.length = d.size := by simp
  have h0 : d.size = 0 ↔ d.data.toList = [] := by rw [← hsz, List.length_eq_zero_iff]
  have h48 : d.data.toList ≠ [] → (byteN d 0 = 48 ↔ d.data.toList.head? = some 48) := by
    intro hne
    unfold byteN
    cases hl : d.data.toList with
    | nil => exact absurd hl hne
    | cons x r =>
      simp only [List.getD_cons_zero, List.head?_cons, Option.some.injEq]
      constructor
      · intro h; exact UInt8.toNat_inj.mp h
      · rintro rfl; rfl
  unfold plainF plainD
  rw [Lib.toList_data]
  constructor
  · intro h
    split at h
    · cases h
    rename_i hc
    have hne : d.data.toList ≠ [] := fun he => hc (.inl (h0.mpr he))
    refine ⟨⟨hne, (figs_iff d).mp (plainF_figs h), fun hh => Classical.byContradiction fun hx => hc (.inr (.inr ⟨(h48 hne).mpr hh, hx⟩))⟩, by omega⟩
  · rintro ⟨⟨hne, hf, hz⟩, hs⟩
    rw [if_neg]
    · exact plainG_all d ((figs_iff d).mpr hf) _ _
    · rintro (h | h | ⟨h, hx⟩)
      · exact hne (h0.mp h)
      · omega
      · exact hx (hz ((h48 hne).mp h))
/-- Is it wide? -/
def wideB (l : List UInt8) : Bool := decide (0 ≤ if Lib.compareInt (l.length : Int) 155 ≠ 0 then Lib.compareInt (l.length : Int) 155 else lexC l limL)
theorem wideB_iff (l : List UInt8) (h : plainD l) : wideB l = true ↔ LIM ≤ undec l := by
  rw [← wide_iff l h]
  unfold wideB
  rw [decide_eq_true_iff]
  unfold Lib.compareInt
  by_cases h1 : 155 < l.length
  · have a : ¬ (l.length : Int) < 155 := by omega
    have b : (155 : Int) < l.length := by omega
    simp [a, b, h1]
  · by_cases h2 : l.length = 155
    · simp [h2]
    · have a : (l.length : Int) < 155 := by omega
      simp [a, h1, h2]
/-- Is it a number within the limit? -/
def rightB (l : List UInt8) : Bool := !(l == [45, 48]) && (plainF ⟨(amtL l).toArray⟩ && !wideB (amtL l))
theorem rightB_iff (l : List UInt8) : rightB l = true ↔ rightL l := by
  unfold rightB rightL
  have hp := plainF_iff ⟨(amtL l).toArray⟩
  have hl : (⟨(amtL l).toArray⟩ : ByteArray).data.toList = amtL l := rfl
  have hz : (⟨(amtL l).toArray⟩ : ByteArray).size = (amtL l).length := by simp [ByteArray.size]
  rw [hl, hz] at hp
  simp only [Bool.and_eq_true, Bool.not_eq_true', beq_eq_false_iff_ne, ne_eq]
  rw [hp]
  constructor
  · rintro ⟨h1, ⟨h2, h3⟩, h4⟩
    refine ⟨h1, h2, ?_⟩
    have := wideB_iff _ h2
    rw [h4] at this
    exact Nat.lt_of_not_le fun hh => by simpa using this.mpr hh
  · rintro ⟨h1, h2, h3⟩
    have hw := wide_iff _ h2
    have : ¬ 155 < (amtL l).length := fun hh => absurd (hw.mp (.inl hh)) (by omega)
    refine ⟨h1, ⟨h2, by omega⟩, ?_⟩
    rw [← Bool.not_eq_true, wideB_iff _ h2]
    omega
set_option maxHeartbeats 800000 in
theorem plain_all (s : ByteArray) (w : World) :
    Calls Tryd.prog 42 #[.string s] w fun e w' => e = .returned (.bool (plainF s)) ∧ Below w.heap.size w w' := by
  by_cases h2 : s.size ≤ 4611686018427387904
  · exact plain_any s w h2
  have h3 : 200 < s.size := by omega
  have HF : Hid (plainF s = false) := Lib.hid (by unfold plainF; rw [if_pos (.inr (.inl h3))])
  have hl : ¬ s.toList = [] := by
    intro h
    rw [Lib.toList_data] at h
    have := congrArg List.length h
    have h4 : s.data.toList.length = s.size := by simp
    rw [h] at h4
    simp at h4
    omega
  clear h2
  go_enter Tryd.func42, Tryd.ntmps42
  go_wp2_with fail
  go_ret
  exact ⟨by rw [HF.out]; rfl, Below.refl _ _⟩
set_option maxRecDepth 100000 in
set_option maxHeartbeats 1600000 in
theorem right_v (s : ByteArray) (w : World) : Calls Tryd.prog 21 #[.string s] w fun e w' => e = .returned (.bool (rightB s.data.toList)) ∧ Below w.heap.size w w' := by
  have hz : (amtB s).size = (amtL s.data.toList).length := by simp [amtB, ByteArray.size]
  have ham := fun w => amountOf_v s w
  have hpl := fun w => plain_all (amtB s) w
  have hwd := fun w => wide_v (amtB s) w
  rw [hz, show (amtB s).data.toList = amtL s.data.toList from rfl] at hwd
  have hres : rightB s.data.toList = (!(s.toList == [45, 48]) && (plainF (amtB s) && !wideB (amtL s.data.toList))) := by rw [ByteArray.toList_eq]; rfl
  rw [hres]
  unfold wideB
  generalize (decide (0 ≤ if Lib.compareInt (((amtL s.data.toList).length : Nat) : Int) 155 ≠ 0 then Lib.compareInt (((amtL s.data.toList).length : Nat) : Int) 155 else lexC (amtL s.data.toList) limL)) = Wd at *
  generalize plainF (amtB s) = P at *
  generalize amtB s = F at *
  have HA := Lib.hid ham
  have HP := Lib.hid hpl
  have HW := Lib.hid hwd
  clear ham hpl hwd hres hz
  cases hc : (s.toList == [45, 48]) <;> cases P <;> cases Wd <;>
  · go_enter Tryd.func21, Tryd.ntmps21
    go_wp2_with (first
      | (go_at_call 41; with_reducible refine Calls.mono (HA.out _) ?_; rintro e w1 ⟨rfl, hw1⟩; replace hw1 := hw1.symm; subst hw1)
      | (go_at_call 42; with_reducible refine Calls.mono (HP.out _) ?_; rintro e w2 ⟨rfl, hb2⟩; have HB2 := Lib.hid hb2; clear hb2)
      | (go_at_call 43; with_reducible refine Calls.mono (HW.out _) ?_; rintro e w3 ⟨rfl, hb3⟩; have HB3 := Lib.hid (HB2.out.trans (hb3.mono HB2.out.size)); clear hb3))
    go_ret
    exact ⟨by first | rfl | simp, by first | exact HB3.out | exact HB2.out | exact Below.refl _ _⟩
end Go.Proofs.YtgoaakdopbielaaDoor
