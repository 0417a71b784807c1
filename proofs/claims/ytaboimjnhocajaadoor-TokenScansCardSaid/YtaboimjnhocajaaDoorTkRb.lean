import Derived.Test.YtaboimjnhocajaaDoorTkRa
import Derived.Test.YtaboimjnhocajaaDoorTkP
namespace Go.Proofs.YtaboimjnhocajaaDoor
open Go.RowKit
set_option linter.unusedSimpArgs false
set_option linter.unusedVariables false

def sg3 : List ByteArray := signsL.take 4
def sg2 : List ByteArray := (signsL.drop 4).take 21
def sg1 : List ByteArray := signsL.drop 25
theorem sg_all : signsL = sg3 ++ (sg2 ++ sg1) := by kernel_rfl
def refSignF (s : ByteArray) (a : Nat) : Nat :=
  if a + 3 ≤ s.size ∧ inB (s.extract a (a + 3)) sg3 = true then 3
  else if a + 2 ≤ s.size ∧ inB (s.extract a (a + 2)) sg2 = true then 2
  else if inB (s.extract a (a + 1)) sg1 then 1 else 0

theorem ext_self (x : ByteArray) : x.extract 0 x.size = x := by
  apply ByteArray.ext
  apply Array.toList_inj.1
  rw [Lib.extract_data]
  exact List.take_of_length_le (by simp)
theorem pre_iff {s p : ByteArray} : pre s p = true ↔ p.size ≤ s.size ∧ s.extract 0 p.size = p := by
  unfold pre
  rw [Bool.and_eq_true, decide_eq_true_eq, beq_iff_eq]
  refine ⟨fun ⟨h1, h2⟩ => ⟨h1, ?_⟩, fun ⟨h1, h2⟩ => ⟨h1, by rw [h2]⟩⟩
  rw [ofL h2]
  apply ByteArray.ext
  apply Array.toList_inj.1
  simp [Lib.toList_data]
theorem firstSign_app {l r : List ByteArray} (s : ByteArray) (h : ∀ x ∈ l, 0 < x.size) : firstSign s (l ++ r) = if firstSign s l = 0 then firstSign s r else firstSign s l := by
  induction l with
  | nil => rfl
  | cons x l ih =>
    rw [List.cons_append, firstSign, firstSign, ih (fun y hy => h y (List.mem_cons_of_mem _ hy))]
    have := h x (List.mem_cons_self ..)
    by_cases hp : pre s x = true
    · rw [if_pos hp, if_pos hp, if_neg (by omega)]
    · rw [if_neg hp, if_neg hp]
theorem firstSign_of {l : List ByteArray} (s : ByteArray) (n : Nat) (h : ∀ x ∈ l, x.size = n) : firstSign s l = if n ≤ s.size ∧ inB (s.extract 0 n) l = true then n else 0 := by
  induction l with
  | nil => simp [firstSign, inB]
  | cons x l ih =>
    have hx := h x (List.mem_cons_self ..)
    rw [firstSign, ih (fun y hy => h y (List.mem_cons_of_mem _ hy)), inB]
    by_cases hp : pre s x = true
    · rw [if_pos hp]
      obtain ⟨h1, h2⟩ := pre_iff.1 hp
      rw [hx] at h1 h2
      rw [if_pos ⟨h1, by rw [h2]; simp⟩, hx]
    · rw [if_neg hp]
      have hne : n ≤ s.size → (x.toList == (s.extract 0 n).toList) = false := by
        intro hn
        simp only [beq_eq_false_iff_ne, ne_eq]
        intro e
        apply hp
        rw [pre_yes (by rw [hx]; exact hn), hx, ← e]
        simp
      by_cases hn : n ≤ s.size
      · simp only [hn, true_and, hne hn, Bool.false_or]
      · simp only [hn, false_and, if_false]
theorem sg3_size : ∀ x ∈ sg3, x.size = 3 := by decide +kernel
theorem sg2_size : ∀ x ∈ sg2, x.size = 2 := by decide +kernel
theorem sg1_size : ∀ x ∈ sg1, x.size = 1 := by decide +kernel
theorem refSign_first (s : ByteArray) (a : Nat) (h : a < s.size) : refSignF s a = firstSign (s.extract a s.size) signsL := by
  have hz : (s.extract a s.size).size = s.size - a := by simp
  rw [sg_all, firstSign_app _ (fun x hx => by rw [sg3_size x hx]; omega), firstSign_app _ (fun x hx => by rw [sg2_size x hx]; omega),
    firstSign_of _ 3 sg3_size, firstSign_of _ 2 sg2_size, firstSign_of _ 1 sg1_size, hz]
  unfold refSignF
  have e : ∀ n, a + n ≤ s.size → (s.extract a s.size).extract 0 n = s.extract a (a + n) := by
    intro n hn
    apply ByteArray.ext
    apply Array.toList_inj.1
    rw [Lib.extract_data, Lib.extract_data, Lib.extract_data]
    simp [List.take_take, List.drop_take]
  by_cases h3 : a + 3 ≤ s.size
  · rw [e 3 h3, e 2 (by omega), e 1 (by omega)]
    have e3 : 3 ≤ s.size - a := by omega
    have e2 : 2 ≤ s.size - a := by omega
    have e1 : 1 ≤ s.size - a := by omega
    have h2 : a + 2 ≤ s.size := by omega
    simp only [h3, h2, e3, e2, e1, true_and]
    repeat' split
    all_goals first | rfl | omega
  · have e3 : ¬ 3 ≤ s.size - a := by omega
    by_cases h2 : a + 2 ≤ s.size
    · rw [e 2 (by omega), e 1 (by omega)]
      have e2 : 2 ≤ s.size - a := by omega
      have e1 : 1 ≤ s.size - a := by omega
      simp only [h3, h2, e3, e2, e1, true_and, false_and, if_false, if_true]
      repeat' split
      all_goals first | rfl | omega
    · rw [e 1 (by omega)]
      have e2 : ¬ 2 ≤ s.size - a := by omega
      have e1 : 1 ≤ s.size - a := by omega
      simp only [h3, h2, e3, e2, e1, true_and, false_and, if_false, if_true]

/-- A text cut out of bytes. -/
theorem conv_sub {w : World} {b o : Nat} {s : ByteArray} (hb : BytesN w b o s) (hlt : b < w.heap.size) (a n : Nat) (hn : 0 < n) (ha : a + n ≤ s.size) (cap : Nat) :
    (convert 22 9 (.slice (some ⟨b, o + a, none⟩) n cap)).run Tryd.prog w = .ok (.string (s.extract a (a + n))) w := by
  have hz : (s.extract a (a + n)).size = n := by simp; omega
  have hB : BSl w (some ⟨b, o + a, none⟩) (s.extract a (a + n)) := by
    refine .inr ⟨b, o + a, rfl, fun i hi => ?_, hlt⟩
    rw [hz] at hi
    have := hb (a + i) (by omega)
    rw [byteN_ext s a (a + n) i (by omega) ha, Nat.add_assoc]
    exact this
  have h := conv_at hB cap
  rw [hz] at h
  exact h

set_option maxRecDepth 100000 in
set_option maxHeartbeats 3200000 in
theorem refSign_any (b o cap : Nat) (s : ByteArray) (w : World) (hb : BytesN w b o s) (hlt : b < w.heap.size) (hs : s.size ≤ 65536) (hcap : s.size ≤ cap) (at_ : Nat) (h : at_ < s.size) :
    Calls Tryd.prog 26 #[.slice (some ⟨b, o, none⟩) s.size cap, .int .i64 at_] w fun e w' => e = .returned (.int .i64 (refSignF s at_)) ∧ Below w.heap.size w w' := by
  obtain ⟨w3, hW3⟩ : ∃ w3, ((w.alloc (.cells #[.string ⟨#[60, 60, 61]⟩, .string ⟨#[62, 62, 61]⟩, .string ⟨#[38, 94, 61]⟩, .string ⟨#[46, 46, 46]⟩] 9)).alloc (.cells #[.string ⟨#[38, 38]⟩, .string ⟨#[124, 124]⟩, .string ⟨#[61, 61]⟩, .string ⟨#[33, 61]⟩, .string ⟨#[60, 61]⟩, .string ⟨#[62, 61]⟩, .string ⟨#[58, 61]⟩, .string ⟨#[43, 43]⟩, .string ⟨#[45, 45]⟩, .string ⟨#[43, 61]⟩, .string ⟨#[45, 61]⟩, .string ⟨#[42, 61]⟩, .string ⟨#[47, 61]⟩, .string ⟨#[37, 61]⟩, .string ⟨#[38, 61]⟩, .string ⟨#[124, 61]⟩, .string ⟨#[94, 61]⟩, .string ⟨#[60, 60]⟩, .string ⟨#[62, 62]⟩, .string ⟨#[38, 94]⟩, .string ⟨#[60, 45]⟩] 9)).alloc (.cells #[.string ⟨#[43]⟩, .string ⟨#[45]⟩, .string ⟨#[42]⟩, .string ⟨#[47]⟩, .string ⟨#[37]⟩, .string ⟨#[38]⟩, .string ⟨#[124]⟩, .string ⟨#[94]⟩, .string ⟨#[60]⟩, .string ⟨#[62]⟩, .string ⟨#[61]⟩, .string ⟨#[33]⟩, .string ⟨#[40]⟩, .string ⟨#[41]⟩, .string ⟨#[91]⟩, .string ⟨#[93]⟩, .string ⟨#[123]⟩, .string ⟨#[125]⟩, .string ⟨#[44]⟩, .string ⟨#[59]⟩, .string ⟨#[46]⟩, .string ⟨#[58]⟩, .string ⟨#[126]⟩] 9) = w3 := ⟨_, rfl⟩
  have hb3 : Below w.heap.size w w3 := by
    rw [← hW3]
    exact (((Below.refl _ _).alloc (Nat.le_refl _) _).alloc (by simp) _).alloc (by simp <;> omega) _
  have i3 : ∀ i x, sg3[i]? = some x → w3.cell? ⟨w.heap.size, i, none⟩ = some (.string x) := by
    intro i x hx
    rw [← hW3, cell_of (c := (sg3.map Value.string).toArray) (t := 9) (f := (0, 0)) (by
      rw [Below.heap_alloc _ _ _ (by simp <;> omega), Below.heap_alloc _ _ _ (by simp), heap_alloc_new]; kernel_rfl)]
    simp [hx]
  have i2 : ∀ i x, sg2[i]? = some x → w3.cell? ⟨w.heap.size + 1, i, none⟩ = some (.string x) := by
    intro i x hx
    rw [← hW3, cell_of (c := (sg2.map Value.string).toArray) (t := 9) (f := (0, 0)) (by
      rw [Below.heap_alloc _ _ _ (by simp <;> omega), alloc_at (by simp)]; kernel_rfl)]
    simp [hx]
  have i1 : ∀ i x, sg1[i]? = some x → w3.cell? ⟨w.heap.size + 1 + 1, i, none⟩ = some (.string x) := by
    intro i x hx
    rw [← hW3, cell_of (c := (sg1.map Value.string).toArray) (t := 9) (f := (0, 0)) (by rw [alloc_at (by simp)]; kernel_rfl)]
    simp [hx]
  have hB3 : BytesN w3 b o s := fun i hi => by rw [hb3.cell hlt]; exact hb i hi
  have hlt3 : b < w3.heap.size := Nat.lt_of_lt_of_le hlt hb3.size
  have hcv := fun n hn ha => conv_sub hB3 hlt3 at_ n hn ha (cap - at_)
  have I3 := Lib.hid i3
  have I2 := Lib.hid i2
  have I1 := Lib.hid i1
  have HB3 := Lib.hid hb3
  have HCV := Lib.hid hcv
  have HW3 := Lib.hid hW3
  clear i1 i2 i3 hb3 hcv hW3 hb hB3
  have hR : refSignF s at_ = refSignF s at_ := rfl
  conv at hR => rhs; unfold refSignF
  by_cases c3 : at_ + 3 ≤ s.size
  · have c2 : at_ + 2 ≤ s.size := by omega
    simp only [c3, c2, true_and] at hR
    have HR := Lib.hid hR
    clear hR
    have v3 := HCV.out 3 (by omega) c3
    have v2 := HCV.out 2 (by omega) c2
    have v1 := HCV.out 1 (by omega) (by omega)
    go_enter Tryd.func26, Tryd.ntmps26
    go_wp2_with fail
    rw [HW3.out, v3]
    go_wp2_with fail
    go_at_call 29
    refine (in_any _ sg3 _ 4 _ (by decide) I3.out).mono ?_
    rintro e w4 ⟨rfl, hw4⟩
    replace hw4 := hw4.symm
    subst hw4
    generalize inB (s.extract at_ (at_ + 3)) sg3 = q3 at HR ⊢
    cases q3
    · go_wp2_with fail
      go_at_call 29
      refine (in_any _ sg2 _ 21 _ (by decide) I2.out).mono ?_
      rintro e w4 ⟨rfl, hw4⟩
      replace hw4 := hw4.symm
      subst hw4
      generalize inB (s.extract at_ (at_ + 2)) sg2 = q2 at HR ⊢
      cases q2
      · go_wp2_with fail
        go_at_call 29
        refine (in_any _ sg1 _ 23 _ (by decide) I1.out).mono ?_
        rintro e w4 ⟨rfl, hw4⟩
        replace hw4 := hw4.symm
        subst hw4
        generalize inB (s.extract at_ (at_ + 1)) sg1 = q1 at HR ⊢
        cases q1
        all_goals
          go_wp2_with fail
          go_ret
          exact ⟨by rw [HR.out]; rfl, HB3.out⟩
      · go_wp2_with fail
        go_ret
        exact ⟨by rw [HR.out]; rfl, HB3.out⟩
    · go_wp2_with fail
      go_ret
      exact ⟨by rw [HR.out]; rfl, HB3.out⟩
  · by_cases c2 : at_ + 2 ≤ s.size
    · simp only [c3, c2, true_and, false_and, if_false] at hR
      have HR := Lib.hid hR
      clear hR
      have v2 := HCV.out 2 (by omega) c2
      have v1 := HCV.out 1 (by omega) (by omega)
      go_enter Tryd.func26, Tryd.ntmps26
      go_wp2_with fail
      rw [HW3.out, v2]
      go_wp2_with fail
      go_at_call 29
      refine (in_any _ sg2 _ 21 _ (by decide) I2.out).mono ?_
      rintro e w4 ⟨rfl, hw4⟩
      replace hw4 := hw4.symm
      subst hw4
      generalize inB (s.extract at_ (at_ + 2)) sg2 = q2 at HR ⊢
      cases q2
      · go_wp2_with fail
        go_at_call 29
        refine (in_any _ sg1 _ 23 _ (by decide) I1.out).mono ?_
        rintro e w4 ⟨rfl, hw4⟩
        replace hw4 := hw4.symm
        subst hw4
        generalize inB (s.extract at_ (at_ + 1)) sg1 = q1 at HR ⊢
        cases q1
        all_goals
          go_wp2_with fail
          go_ret
          exact ⟨by rw [HR.out]; rfl, HB3.out⟩
      · go_wp2_with fail
        go_ret
        exact ⟨by rw [HR.out]; rfl, HB3.out⟩
    · simp only [c3, c2, true_and, false_and, if_false] at hR
      have HR := Lib.hid hR
      clear hR
      have v1 := HCV.out 1 (by omega) (by omega)
      go_enter Tryd.func26, Tryd.ntmps26
      go_wp2_with fail
      rw [HW3.out, v1]
      go_wp2_with fail
      go_at_call 29
      refine (in_any _ sg1 _ 23 _ (by decide) I1.out).mono ?_
      rintro e w4 ⟨rfl, hw4⟩
      replace hw4 := hw4.symm
      subst hw4
      generalize inB (s.extract at_ (at_ + 1)) sg1 = q1 at HR ⊢
      cases q1
      all_goals
        go_wp2_with fail
        go_ret
        exact ⟨by rw [HR.out]; rfl, HB3.out⟩
end Go.Proofs.YtaboimjnhocajaaDoor
