import Derived.Test.YtghfmfgdcpihfaaDoorTkRa
import Derived.Test.YtghfmfgdcpihfaaDoorTkP
namespace Go.Proofs.YtghfmfgdcpihfaaDoor
open Go.RowKit
set_option linter.unusedSimpArgs false
set_option linter.unusedVariables false

def sg3 : List ByteArray := signsL.take 4
def sg2 : List ByteArray := (signsL.drop 4).take 21
def sg1 : List ByteArray := signsL.drop 25
theorem sg_all : signsL = sg3 ++ (sg2 ++ sg1) := by kernel_rfl
def refSignF (s : ByteArray) (a : Nat) : Nat :=
  if a + 3 ≤ s.size ∧ inB (s.extract a (a + 3)) sg3 = true then 3
  else if a + 2 ≤ s.size ∧ inB (s.extract a (a + 2)) sg2 = true then 2
  else if inB (s.extract a (a + 1)) sg1 then 1 else 0

theorem ext_self (x : ByteArray) : x.extract 0 x.size = x := by
  apply ByteArray.ext
  apply Array.toList_inj.1
  rw [Lib.extract_data]
  exact List.take_of_length_le (by simp)
theorem pre_iff {s p : ByteArray} : pre s p = true ↔ p.size ≤ s.size ∧ s.extract 0 p.size = p := by
  unfold pre
  rw [Bool.and_eq_true, decide_eq_true_eq, beq_iff_eq]
  refine ⟨fun ⟨h1, h2⟩ => ⟨h1, ?_⟩, fun ⟨h1, h2⟩ => ⟨h1, by rw [h2]⟩⟩
  rw [ofL h2]
  apply ByteArray.ext
  apply Array.toList_inj.1
  simp [Lib.toList_data]
theorem firstSign_app {l r : List ByteArray} (s : ByteArray) (h : ∀ x ∈ l, 0 < x.size) : firstSign s (l ++ r) = if firstSign s l = 0 then firstSign s r else firstSign s l := by
  induction l with
  | nil => rfl
  | cons x l ih =>
    rw [List.cons_append, firstSign, firstSign, ih (fun y hy => h y (List.mem_cons_of_mem _ hy))]
    have := h x (List.mem_cons_self ..)
    by_cases hp : pre s x = true
    · rw [if_pos hp, if_pos hp, if_neg (by omega)]
    · rw [if_neg hp, if_neg hp]
theorem firstSign_of {l : List ByteArray} (s : ByteArray) (n : Nat) (h : ∀ x ∈ l, x.size = n) : firstSign s l = if n ≤ s.size ∧ inB (s.extract 0 n) l = true then n else 0 := by
  induction l with
  | nil => simp [firstSign, inB]
  | cons x l ih =>
    have hx := h x (List.mem_cons_self ..)
    rw [firstSign, ih (fun y hy => h y (List.mem_cons_of_mem _ hy)), inB]
    by_cases hp : pre s x = true
    · rw [if_pos hp]
      obtain ⟨h1, h2⟩ := pre_iff.1 hp
      rw [hx] at h1 h2
      rw [if_pos ⟨h1, by rw [h2]; simp⟩, hx]
    · rw [if_neg hp]
      have hne : n ≤ s.size → (x.toList == (s.extract 0 n).toList) = false := by
        intro hn
        simp only [beq_eq_false_iff_ne, ne_eq]
        intro e
        apply hp
        rw [pre_yes (by rw [hx]; exact hn), hx, ← e]
        simp
      by_cases hn : n ≤ s.size
      · simp only [hn, true_and, hne hn, Bool.false_or]
      · simp only [hn, false_and, if_false]
theorem sg3_size : ∀ x ∈ sg3, x.size = 3 := by decide +kernel
theorem sg2_size : ∀ x ∈ sg2, x.size = 2 := by decide +kernel
theorem sg1_size : ∀ x ∈ sg1, x.size = 1 := by decide +kernel
theorem refSign_first (s : ByteArray) (a : Nat) (h : a < s.size) : refSignF s a = firstSign (s.extract a s.size) signsL := by
  have hz : (s.extract a s.size).size = s.size - a := by simp
  rw [sg_all, firstSign_app _ (fun x hx => by rw [sg3_size x hx]; omega), firstSign_app _ (fun x hx => by rw [sg2_size x hx]; omega),
    firstSign_of _ 3 sg3_size, firstSign_of _ 2 sg2_size, firstSign_of _ 1 sg1_size, hz]
  unfold refSignF
  have e : ∀ n, a + n ≤ s.size → (s.extract a s.size).extract 0 n = s.extract a (a + n) := by
    intro n hn
    apply ByteArray.ext
    apply Array.toList_inj.1
    rw [Lib.extract_data, Lib.extract_data, Lib.extract_data]
    simp [List.take_take, List.drop_take]
  by_cases h3 : a + 3 ≤ s.size
  · rw [e 3 h3, e 2 (by omega), e 1 (by omega)]
    have e3 : 3 ≤ s.size - a := by omega
    have e2 : 2 ≤ s.size - a := by omega
    have e1 : 1 ≤ s.size - a := by omega
    have h2 : a + 2 ≤ s.size := by omega
    simp only [h3, h2, e3, e2, e1, true_and]
    repeat' split
    all_goals first | rfl | omega
  · have e3 : ¬ 3 ≤ s.size - a := by omega
    by_cases h2 : a + 2 ≤ s.size
    · rw [e 2 (by omega), e 1 (by omega)]
      have e2 : 2 ≤ s.size - a := by omega
      have e1 : 1 ≤ s.size - a := by omega
      simp only [h3, h2, e3, e2, e1, true_and, false_and, if_false, if_true]
      repeat' split
      all_goals first | rfl | omega
    · rw [e 1 (by omega)]
      have e2 : ¬ 2 ≤ s.size - a := by omega
      have e1 : 1 ≤ s.size - a := by omega
      simp only [h3, h2, e3, e2, e1, true_and, false_and, if_false, if_true]

/-- A text cut out of bytes. -/
theorem conv_sub {w : World} {b o : Nat} {s : ByteArray} (hb : BytesN w b o s) (hlt : b < w.heap.size) (a n : Nat) (hn : 0 < n) (ha : a + n ≤ s.size) (cap : Nat) :
    (convert 22 9 (.slice (some ⟨b, o + a, none⟩) n cap)).run Tryd.prog w = .ok (.string (s.extract a (a + n))) w := by
  have hz : (s.extract a (a + n)).size = n := by simp; omega
  have hB : BSl w (some ⟨b, o + a, none⟩) (s.extract a (a + n)) := by
    refine .inr ⟨b, o + a, rfl, fun i hi => ?_, hlt⟩
    rw [hz] at hi
    have := hb (a + i) (by omega)
    rw [byteN_ext s a (a + n) i (by omega) ha, Nat.add_assoc]
    exact this
  have h := conv_at hB cap
  rw [hz] at h
  exact h

end Go.Proofs.YtghfmfgdcpihfaaDoor
