import Derived.Test.YtppnjliamfnlkaaLtAq
namespace Go.Proofs.Ytppnjliamfnlkaa
open Go.RowKit
set_option linter.unusedSimpArgs false
set_option linter.unusedVariables false
set_option linter.unusedSectionVars false

/-! The document's part, at every place. -/
def sgnN (s : ByteArray) (a n : Nat) : Option (List Nat × Nat) := match refVal s (a + 1) n 16 with
  | none => none
  | some v => if v < 55296 ∨ (57343 < v ∧ v ≤ 1114111) then some (runeN v, n + 1) else none
def partN (s : ByteArray) (a : Nat) : Option (List Nat × Nat) :=
  if s.size ≤ a then none
  else match singleF (byteN s a) with
    | some v => some ([v], 1)
    | none =>
      if byteN s a = 120 then (match refVal s (a + 1) 2 16 with | none => none | some v => some ([v], 3))
      else if byteN s a = 117 then sgnN s a 4
      else if byteN s a = 85 then sgnN s a 8
      else (match refVal s a 3 8 with | none => none | some v => if v < 256 then some ([v], 3) else none)
theorem refpart_any (s : ByteArray) (a : Nat) (w : World) (hs : s.size ≤ 100000000) (ha : a ≤ s.size) :
    Calls Try.prog 26 #[.string s, .int .i64 a] w (PartW w (partN s a)) := by
  unfold partN
  by_cases h0 : s.size ≤ a
  · rw [if_pos h0]
    obtain rfl : a = s.size := by omega
    exact (refpart_end s w hs).mono fun e w' h => ⟨h.1, by rw [h.2]; exact Below.refl _ _⟩
  rw [if_neg h0]
  have ha' : a < s.size := by omega
  cases hv : singleF (byteN s a) with
  | some v => exact refpart_single s a v w hs ha' hv
  | none =>
    simp only
    by_cases h1 : byteN s a = 120
    · rw [if_pos h1]
      cases hR : refVal s (a + 1) 2 16 with
      | none => exact refpart_x_no s a w hs ha' h1 hv hR
      | some v => exact refpart_x s a w hs ha' h1 hv hR
    rw [if_neg h1]
    by_cases h2 : byteN s a = 117
    · rw [if_pos h2]
      unfold sgnN
      cases hR : refVal s (a + 1) 4 16 with
      | none => exact refpart_u_no s a w hs ha' h2 hv hR
      | some v =>
        simp only
        by_cases hb : v < 55296 ∨ (57343 < v ∧ v ≤ 1114111)
        · rw [if_pos hb]; exact refpart_u s a w hs ha' h2 hv hR hb
        · rw [if_neg hb]; exact refpart_u_bad s a w hs ha' h2 hv hR (by omega)
    rw [if_neg h2]
    by_cases h3 : byteN s a = 85
    · rw [if_pos h3]
      unfold sgnN
      cases hR : refVal s (a + 1) 8 16 with
      | none => exact refpart_U_no s a w hs ha' h3 hv hR
      | some v =>
        simp only
        by_cases hb : v < 55296 ∨ (57343 < v ∧ v ≤ 1114111)
        · rw [if_pos hb]; exact refpart_U s a w hs ha' h3 hv hR hb
        · rw [if_neg hb]; exact refpart_U_bad s a w hs ha' h3 hv hR (by omega)
    rw [if_neg h3]
    cases hR : refVal s a 3 8 with
    | none => exact refpart_o_no s a w hs ha' h1 h2 h3 hv hR
    | some v =>
      simp only
      by_cases hb : v < 256
      · rw [if_pos hb]; exact refpart_o s a w hs ha' h1 h2 h3 hv hR hb
      · rw [if_neg hb]; exact refpart_o_big s a w hs ha' h1 h2 h3 hv hR (by omega)

theorem tail_tail (s : ByteArray) (a k : Nat) : (s.extract a s.size).extract k (s.size - a) = s.extract (a + k) s.size := by
  apply ByteArray.ext
  apply Array.toList_inj.mp
  simp only [Lib.extract_data]
  rw [List.drop_take, List.take_take, List.drop_drop]
  congr 1
  omega
/-- It is the program's behind, told by places. -/
theorem behind_part (s : ByteArray) (a : Nat) (ha : a ≤ s.size) : behindR (s.extract a s.size) = (partN s a).map (fun p => (p.1, s.extract (a + p.2) s.size)) := by
  have hz : (s.extract a s.size).size = s.size - a := by simp
  unfold behindR partN
  rw [hz]
  by_cases h0 : s.size ≤ a
  · rw [if_pos h0, if_pos (by omega)]; rfl
  rw [if_neg h0, if_neg (by omega)]
  have hb0 : byteN (s.extract a s.size) 0 = byteN s a := by rw [byteN_ext, Nat.add_zero]
  rw [hb0]
  have he1 : (s.extract a s.size).extract 1 (s.size - a) = s.extract (a + 1) s.size := tail_tail s a 1
  cases hv : singleF (byteN s a) with
  | some v => simp only [Option.map]; rw [he1]
  | none =>
    simp only
    rw [he1]
    have hx : ∀ k, (s.extract (a + 1) s.size).extract k (s.size - a - 1) = s.extract (a + (k + 1)) s.size := by
      intro k
      have := tail_tail s (a + 1) k
      rw [show s.size - (a + 1) = s.size - a - 1 by omega] at this
      rw [this, show a + 1 + k = a + (k + 1) by omega]
    by_cases h1 : byteN s a = 120
    · rw [if_pos h1, if_pos h1, hx]
      unfold byteR
      rw [reckR_val s (a + 1) 2 16 (by omega) (by omega)]
      cases hR : refVal s (a + 1) 2 16 with
      | none => rfl
      | some v =>
        have := refVal_lt hR
        simp only
        rw [if_pos (by omega)]; rfl
    rw [if_neg h1, if_neg h1]
    have hsg : ∀ n, (signR (s.extract (a + 1) s.size) n).map (fun l => (l, (s.extract (a + 1) s.size).extract n (s.size - a - 1))) = (sgnN s a n).map (fun p => (p.1, s.extract (a + p.2) s.size)) := by
      intro n
      unfold signR sgnN
      rw [reckR_val s (a + 1) n 16 (by omega) (by omega), hx]
      cases hR : refVal s (a + 1) n 16 with
      | none => rfl
      | some v =>
        simp only
        by_cases hb : v < 55296 ∨ (57343 < v ∧ v ≤ 1114111)
        · rw [if_pos hb, if_pos ⟨by omega, by simp [Lib.validRune]; omega⟩]; rfl
        · rw [if_neg hb, if_neg (by simp [Lib.validRune]; omega)]; rfl
    by_cases h2 : byteN s a = 117
    · rw [if_pos h2, if_pos h2]; exact hsg 4
    rw [if_neg h2, if_neg h2]
    by_cases h3 : byteN s a = 85
    · rw [if_pos h3, if_pos h3]; exact hsg 8
    rw [if_neg h3, if_neg h3]
    unfold byteR
    rw [reckR_val s a 3 8 (by omega) (by omega), tail_tail]
    cases hR : refVal s a 3 8 with
    | none => rfl
    | some v =>
      simp only
      by_cases hb : v < 256
      · rw [if_pos hb, if_pos (by omega)]; rfl
      · rw [if_neg hb, if_neg (by omega)]; rfl
end Go.Proofs.Ytppnjliamfnlkaa
