import Derived.Test.YtlgolagedgllbaaDoorVrQ
import Derived.Test.YtlgolagedgllbaaDoorVrR
import Derived.Test.YtlgolagedgllbaaDoorVrP
namespace Go.Proofs.YtlgolagedgllbaaDoor
open Go.RowKit Go.Shelf
set_option linter.unusedSimpArgs false
set_option linter.unusedVariables false
set_option linter.unusedSectionVars false

/-! The document's own functions of layer 4: figures, Text. -/
theorem allV_iff (s : ByteArray) (q : Int → Bool) (hq : ∀ n : Nat, q n = true → n < 128) : ∀ (f i : Nat), s.size < f + i → (allV s q f i = true ↔ ∀ j, i ≤ j → j < s.size → q (byteN s j : Int) = true)
  | 0, i, hf => ⟨fun _ j hi hj => by omega, fun _ => rfl⟩
  | f + 1, i, hf => by
    rw [allV]
    by_cases hlt : i < s.size
    · rw [if_pos hlt]
      rcases dec_byteV s i hlt with ⟨hd, h1⟩ | ⟨hd, h1⟩
      · rw [hd]
        have ih := allV_iff s q hq f (i + 1) (by omega)
        by_cases hb : q (byteN s i : Int) = true
        · rw [if_pos hb, ih]
          constructor
          · intro h j h2 h3
            by_cases e : j = i
            · rw [e]; exact hb
            · exact h j (by omega) h3
          · intro h j h2 h3
            exact h j (by omega) h3
        · rw [if_neg hb]
          exact ⟨fun h => (by cases h), fun h => absurd (h i (Nat.le_refl _) hlt) hb⟩
      · have hn : ¬ q ((Utf8.decode s i).1 : Int) = true := fun h => by have := hq _ h; omega
        rw [if_neg hn]
        refine ⟨fun h => (by cases h), fun h => ?_⟩
        have := hq _ (h i (Nat.le_refl _) hlt)
        omega
    · rw [if_neg hlt]
      exact ⟨fun _ j h2 h3 => by omega, fun _ => rfl⟩
theorem fig_iff (n : Nat) : figV (n : Int) = true ↔ 48 ≤ n ∧ n ≤ 57 := by
  unfold figV
  simp only [Bool.and_eq_true, decide_eq_true_eq]
  omega
theorem dig_iff (s : ByteArray) : digV s = true ↔ s.size ≠ 0 ∧ ∀ j, j < s.size → 48 ≤ byteN s j ∧ byteN s j ≤ 57 := by
  unfold digV
  rw [Bool.and_eq_true, decide_eq_true_eq, allV_iff s figV (fun n h => by have := (fig_iff n).1 h; omega) _ 0 (by omega)]
  constructor
  · exact fun ⟨h1, h2⟩ => ⟨h1, fun j hj => (fig_iff _).1 (h2 j (Nat.zero_le _) hj)⟩
  · exact fun ⟨h1, h2⟩ => ⟨h1, fun j _ hj => (fig_iff _).2 (h2 j hj)⟩
set_option maxRecDepth 100000 in
set_option maxHeartbeats 3200000 in
theorem reffig_v (s : ByteArray) (w : World) (hs : s.size ≤ 100000000) :
    Calls Tryd.prog 21 #[.string s] w fun e w' => e = .returned (.bool (digV s)) ∧ w' = w := by
  have HD := Lib.hid (dig_iff s)
  generalize digV s = X at *
  go_enter Tryd.func21, Tryd.ntmps21
  go_wp2_with fail
  go_loopw [3] (fun iv wr => ∃ i : Nat, iv = .int .i64 i ∧ i ≤ s.size ∧ (∀ j, j < i → 48 ≤ byteN s j ∧ byteN s j ≤ 57) ∧ wr = w) (fun iv _ => s.size - (intOf iv).toNat)
  case atStart => exact ⟨0, rfl, by omega, fun j hj => by omega, rfl⟩
  case round =>
    obtain ⟨i, rfl, hi, hn, rfl⟩ := hrel
    have HN := Lib.hid hn
    clear hn
    by_cases hlt : i < s.size
    · have hb := str_byte s i hlt
      have HNX : Hid (¬ (48 ≤ byteN s i ∧ byteN s i ≤ 57) → X = false) := Lib.hid (fun h => by
        cases hx : X with
        | false => rfl
        | true => exact absurd ((HD.out.1 hx).2 i hlt) h)
      have HS : Hid (48 ≤ byteN s i ∧ byteN s i ≤ 57 → ∀ j, j < i + 1 → 48 ≤ byteN s j ∧ byteN s j ≤ 57) := Lib.hid (fun h j hj => by
        by_cases e : j = i
        · rw [e]; exact h
        · exact HN.out j (by omega))
      generalize byteN s i = c at *
      by_cases c1 : 48 ≤ c
      · by_cases c2 : c ≤ 57
        · have HS2 := Lib.hid (HS.out ⟨c1, c2⟩)
          have k1 : decide ((c : Int) < 48) = false := by simp; omega
          have k2 : decide ((57 : Int) < (c : Int)) = false := by simp; omega
          clear HS HNX HD
          go_wp2_with fail
          go_roundw
          case rel => exact ⟨i + 1, by go_num, by omega, HS2.out, by first | rfl | trivial⟩
          case measure => simp [intOf]; omega
        · have HX := Lib.hid (HNX.out (fun h => c2 h.2))
          have k1 : decide ((c : Int) < 48) = false := by simp; omega
          have k2 : decide ((57 : Int) < (c : Int)) = true := by simp; omega
          clear HS HNX HD
          go_wp2_with fail
          go_ret
          exact ⟨by rw [HX.out]; rfl, rfl⟩
      · have HX := Lib.hid (HNX.out (fun h => c1 h.1))
        have k1 : decide ((c : Int) < 48) = true := by simp; omega
        clear HS HNX HD
        go_wp2_with fail
        go_ret
        exact ⟨by rw [HX.out]; rfl, rfl⟩
    · by_cases h0 : s.size = 0
      · have HX : Hid (X = false) := Lib.hid (by
          cases hx : X with
          | false => rfl
          | true => exact absurd h0 (HD.out.1 hx).1)
        have k3 : decide (0 < (s.size : Int)) = false := decide_eq_false (by omega)
        have k4 : decide (0 < s.size) = false := decide_eq_false (by omega)
        clear HD
        go_wp2_with fail
        go_ret
        exact ⟨by rw [HX.out]; rfl, rfl⟩
      · have HX : Hid (X = true) := Lib.hid (HD.out.2 ⟨h0, fun j hj => HN.out j (by omega)⟩)
        have k3 : decide (0 < (s.size : Int)) = true := decide_eq_true (by omega)
        have k4 : decide (0 < s.size) = true := decide_eq_true (by omega)
        clear HD
        go_wp2_with fail
        go_ret
        exact ⟨by rw [HX.out]; rfl, rfl⟩
end Go.Proofs.YtlgolagedgllbaaDoor
