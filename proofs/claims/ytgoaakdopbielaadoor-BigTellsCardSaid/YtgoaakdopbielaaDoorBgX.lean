import Derived.Test.YtgoaakdopbielaaDoorBgW
import Derived.Test.YtgoaakdopbielaaDoorLtA
namespace Go.Proofs.YtgoaakdopbielaaDoor
open Go.RowKit Go.Shelf
set_option linter.unusedSimpArgs false
set_option linter.unusedVariables false
set_option linter.unusedSectionVars false

/-! Layer 9: which texts are numbers. -/
set_option maxHeartbeats 800000 in
theorem nan_s (s : ByteArray) (w : World) : Calls Tryd.prog 85 #[.string s] w fun e w' => e = .returned (.bool false) ∧ w' = w := by
  go_enter Tryd.func85, Tryd.ntmps85
  go_wp2_with fail
  go_ret
  exact ⟨by simp, rfl⟩
theorem lex_less : ∀ (l m : List UInt8), (Op.bytesLess l m = true ∧ lexC l m = -1) ∨ (Op.bytesLess l m = false ∧ (l == m) = true ∧ lexC l m = 0) ∨ (Op.bytesLess l m = false ∧ (l == m) = false ∧ lexC l m = 1)
  | [], [] => Or.inr (Or.inl ⟨rfl, rfl, rfl⟩)
  | [], _ :: _ => Or.inl ⟨rfl, rfl⟩
  | _ :: _, [] => Or.inr (Or.inr ⟨rfl, rfl, rfl⟩)
  | x :: l, y :: m => by
    have h := lex_less l m
    by_cases h1 : x.toNat < y.toNat
    · left
      refine ⟨?_, ?_⟩
      · have : x < y := UInt8.lt_iff_toNat_lt.mpr h1
        simp [Op.bytesLess, this]
      · rw [lexC, if_pos h1]
    · have n1 : ¬ x < y := fun hh => h1 (UInt8.lt_iff_toNat_lt.mp hh)
      by_cases h2 : y.toNat < x.toNat
      · right; right
        have ne : x ≠ y := by rintro rfl; omega
        refine ⟨?_, ?_, ?_⟩
        · simp [Op.bytesLess, n1, ne]
        · simp [ne]
        · rw [lexC, if_neg h1, if_pos h2]
      · have e : x = y := UInt8.toNat_inj.mp (by omega)
        subst e
        rw [lexC, if_neg h1, if_neg h2]
        simpa [Op.bytesLess, n1] using h
set_option maxHeartbeats 800000 in
theorem cmp_s (s t : ByteArray) (w : World) : Calls Tryd.prog 65 #[.string s, .string t] w fun e w' => e = .returned (.int .i64 (lexC s.data.toList t.data.toList)) ∧ w' = w := by
  have h := lex_less s.data.toList t.data.toList
  rw [← ByteArray.toList_eq, ← ByteArray.toList_eq] at h ⊢
  obtain ⟨r, hr⟩ : ∃ r, r = lexC s.toList t.toList := ⟨_, rfl⟩
  rw [← hr] at h ⊢
  clear hr
  rcases h with ⟨h1, rfl⟩ | ⟨h1, h2, rfl⟩ | ⟨h1, h2, rfl⟩ <;>
  · go_enter Tryd.func65, Tryd.ntmps65
    go_wp2_with (go_at_call 85; with_reducible refine Calls.mono (nan_s _ _) ?_; rintro e w2 ⟨rfl, hw2⟩; replace hw2 := hw2.symm; subst hw2)
    go_ret
    exact ⟨by simp, rfl⟩
set_option maxHeartbeats 800000 in
theorem or_v (g : Nat) (a b : Int) (w : World) (h : Blk w g [a, b]) : Calls Tryd.prog 63 #[.slice (some ⟨g, 0, none⟩) 2 2] w fun e w' => e = .returned (.int .i64 (if a ≠ 0 then a else b)) ∧ w' = w := by
  have c0 := h.cellD 0 a rfl
  have c1 := h.cellD 1 b rfl
  clear h
  obtain ⟨r, hr⟩ : ∃ r, r = if a ≠ 0 then a else b := ⟨_, rfl⟩
  have H1 : Hid (a ≠ 0 → r = a) := Lib.hid (fun h => by rw [hr, if_pos h])
  have H2 : Hid (a = 0 → r = b) := Lib.hid (fun h => by rw [hr, if_neg (by simpa using h)])
  rw [← hr]
  clear hr
  go_enter Tryd.func63, Tryd.ntmps63
  go_wp2_with fail
  go_loopw [8] (fun nv wr => (nv = .int .i64 0 ∨ (nv = .int .i64 1 ∧ a = 0) ∨ (nv = .int .i64 2 ∧ a = 0 ∧ b = 0)) ∧ wr = w) (fun nv _ => 2 - (intOf nv).toNat)
  case atStart => exact ⟨Or.inl rfl, rfl⟩
  case round =>
    obtain ⟨h, rfl⟩ := hrel
    rcases h with rfl | ⟨rfl, h0⟩ | ⟨rfl, h0, h1⟩
    · by_cases h0 : a = 0
      · subst h0
        go_wp2_with fail
        go_roundw
        case rel => exact ⟨Or.inr (Or.inl ⟨by first | rfl | go_num, by first | rfl | trivial⟩), by first | rfl | trivial⟩
        case measure => first | (simp [intOf]; done) | (simp [intOf]; omega)
      · have e1 : (a == 0) = false := by rw [beq_eq_false_iff_ne]; exact h0
        have e2 : decide (a = 0) = false := decide_eq_false h0
        have HR := Lib.hid (H1.out h0)
        go_wp2_with fail
        go_ret
        exact ⟨by rw [HR.out]; rfl, rfl⟩
    · have HR := Lib.hid (H2.out h0)
      have HA0 := Lib.hid h0
      clear h0
      by_cases h0 : b = 0
      · subst h0
        go_wp2_with fail
        go_roundw
        case rel => exact ⟨Or.inr (Or.inr ⟨by first | rfl | go_num, HA0.out, by first | rfl | trivial⟩), by first | rfl | trivial⟩
        case measure => first | (simp [intOf]; done) | (simp [intOf]; omega)
      · have e1 : (b == 0) = false := by rw [beq_eq_false_iff_ne]; exact h0
        have e2 : decide (b = 0) = false := decide_eq_false h0
        go_wp2_with fail
        go_ret
        exact ⟨by rw [HR.out]; rfl, rfl⟩
    · have HR := Lib.hid (H2.out h0)
      clear h0
      subst h1
      go_wp2_with fail
      go_ret
      exact ⟨by rw [HR.out]; rfl, rfl⟩
/-- The limit's text. -/
def limB : ByteArray := ⟨limL.toArray⟩
theorem blk_two (w : World) (a b : Int) : Blk (w.alloc (.cells #[.int .i64 a, .int .i64 b] 3)) w.heap.size [a, b] := by
  exact heap_alloc_new w _
set_option maxRecDepth 100000 in
set_option maxHeartbeats 1600000 in
theorem wide_v (s : ByteArray) (w : World) : Calls Tryd.prog 43 #[.string s] w fun e w' => e = .returned (.bool (decide (0 ≤ if Lib.compareInt (s.size : Int) 155 ≠ 0 then Lib.compareInt (s.size : Int) 155 else lexC s.data.toList limL))) ∧ Below w.heap.size w w' := by
  have hl : limB.data.toList = limL := rfl
  have hi := fun w => cmp_int (s.size : Int) 155 w
  have hs := fun w => cmp_s s limB w
  rw [hl] at hs
  generalize Lib.compareInt (s.size : Int) 155 = a at *
  generalize lexC s.data.toList limL = b at *
  have ho := fun w => or_v _ a b _ (blk_two w a b)
  generalize (if a ≠ 0 then a else b) = c at *
  have HI := Lib.hid hi
  have HS := Lib.hid hs
  have HO := Lib.hid ho
  clear hi hs hl ho
  go_enter Tryd.func43, Tryd.ntmps43
  go_wp2_with (first
    | (go_at_call 64; with_reducible refine Calls.mono (HI.out _) ?_; rintro e w1 ⟨rfl, hw1⟩; replace hw1 := hw1.symm; subst hw1)
    | (go_at_call 65; refine Calls.mono (HS.out _) ?_; rintro e w2 ⟨rfl, hw2⟩; replace hw2 := hw2.symm; subst hw2)
    | (go_at_call 63; refine Calls.mono (HO.out _) ?_; rintro e w3 ⟨rfl, hw3⟩; replace hw3 := hw3.symm; subst hw3))
  go_ret
  exact ⟨by first | rfl | simp, (Below.refl _ _).alloc (Nat.le_refl _) _⟩
end Go.Proofs.YtgoaakdopbielaaDoor
