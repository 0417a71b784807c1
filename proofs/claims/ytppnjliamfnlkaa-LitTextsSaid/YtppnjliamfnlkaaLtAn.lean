import Derived.Test.YtppnjliamfnlkaaLtAm
import Derived.Test.YtppnjliamfnlkaaLtL
namespace Go.Proofs.Ytppnjliamfnlkaa
open Go.RowKit
set_option linter.unusedSimpArgs false
set_option linter.unusedVariables false
set_option linter.unusedSectionVars false

/-! The document's Sign: a sign's bytes, in a row of their own; nothing. -/
def SignR (v : Nat) (w : World) (e : Ending) (w' : World) : Prop :=
  e = .returned (.slice (some ⟨w.heap.size, 0, none⟩) (runeN v).length (runeN v).length) ∧ w' = w.alloc (.cells (Lib.runeCells (v : Int)).toArray 5)
theorem runeN_len (v : Nat) : (runeN v).length = (Lib.encodeRuneZ (v : Int)).length := by simp [runeN]
theorem signR_of {v : Nat} {w : World} {e : Ending} {w' : World} {l : List Int} (h : Lib.encodeRuneZ (v : Int) = l)
    (he : e = .returned (.slice (some ⟨w.heap.size, 0, none⟩) l.length l.length)) (hw : w' = w.alloc (.cells (l.map fun x => Value.int .u8 x).toArray 5)) : SignR v w e w' := by
  subst h
  exact ⟨by rw [he, runeN_len], hw⟩
set_option maxHeartbeats 3200000 in
theorem refsign_ok (v : Nat) (w : World) (h : v < 55296 ∨ (57343 < v ∧ v ≤ 1114111)) :
    Calls Try.prog 39 #[.int .i64 v] w (SignR v w) := by
  have d1 : decide ((v : Int) < 0) = false := by simp
  have d2 : decide ((1114111 : Int) < v) = false := by simp; omega
  by_cases h1 : v < 128
  · have e1 := Lib.encodeRuneZ_one (r := (v : Int)) (by omega) (by omega)
    have d3 : decide ((55296 : Int) ≤ v) = false := by simp; omega
    have d4 : decide ((v : Int) < 128) = true := by simp; omega
    have HE := Lib.hid e1
    clear e1 h
    go_enter Try.func39, Try.ntmps39
    go_wp2_with fail
    go_ret
    exact signR_of HE.out rfl rfl
  by_cases h2 : v < 2048
  · have e1 := Lib.encodeRuneZ_two (r := (v : Int)) (by omega) (by omega)
    have d3 : decide ((55296 : Int) ≤ v) = false := by simp; omega
    have d4 : decide ((v : Int) < 128) = false := by simp; omega
    have d5 : decide ((v : Int) < 2048) = true := by simp; omega
    have HE := Lib.hid e1
    clear e1 h
    go_enter Try.func39, Try.ntmps39
    go_wp2_with fail
    go_ret
    exact signR_of HE.out rfl rfl
  by_cases h3 : v < 65536
  · have e1 : Lib.encodeRuneZ (v : Int) = [224 + (v : Int) / 4096, 128 + (v : Int) / 64 % 64, 128 + (v : Int) % 64] := by
      unfold Lib.encodeRuneZ
      rw [if_neg (by omega), if_neg (by omega), if_pos (by omega)]
    have d4 : decide ((v : Int) < 128) = false := by simp; omega
    have d5 : decide ((v : Int) < 2048) = false := by simp; omega
    have d6 : decide ((v : Int) < 65536) = true := by simp; omega
    have HE := Lib.hid e1
    clear e1
    by_cases hs : v < 55296
    · have d3 : decide ((55296 : Int) ≤ v) = false := by simp; omega
      clear h
      go_enter Try.func39, Try.ntmps39
      go_wp2_with fail
      go_ret
      exact signR_of HE.out rfl rfl
    · have d3 : decide ((55296 : Int) ≤ v) = true := by simp; omega
      have d3' : decide ((v : Int) ≤ 57343) = false := by simp; omega
      clear h
      go_enter Try.func39, Try.ntmps39
      go_wp2_with fail
      go_ret
      exact signR_of HE.out rfl rfl
  · have e1 : Lib.encodeRuneZ (v : Int) = [240 + (v : Int) / 262144, 128 + (v : Int) / 4096 % 64, 128 + (v : Int) / 64 % 64, 128 + (v : Int) % 64] := by
      unfold Lib.encodeRuneZ
      rw [if_neg (by omega), if_neg (by omega), if_neg (by omega), if_pos (by omega)]
    have hmx : v ≤ 1114111 := by omega
    have d4 : decide ((v : Int) < 128) = false := by simp; omega
    have d5 : decide ((v : Int) < 2048) = false := by simp; omega
    have d6 : decide ((v : Int) < 65536) = false := by simp; omega
    have d3 : decide ((55296 : Int) ≤ v) = true := by simp; omega
    have d3' : decide ((v : Int) ≤ 57343) = false := by simp; omega
    have HE := Lib.hid e1
    clear e1 h
    go_enter Try.func39, Try.ntmps39
    go_wp2_with fail
    go_ret
    exact signR_of HE.out rfl rfl

set_option maxHeartbeats 3200000 in
theorem refsign_no (v : Int) (w : World) (h : v < 0 ∨ 1114111 < v ∨ (55296 ≤ v ∧ v ≤ 57343)) :
    Calls Try.prog 39 #[.int .i64 v] w fun e w' => e = .returned (.slice none 0 0) ∧ w' = w := by
  by_cases h1 : v < 0
  · have d1 : decide (v < 0) = true := by simp; omega
    clear h
    go_enter Try.func39, Try.ntmps39
    go_wp2_with fail
    go_ret
    all_goals exact ⟨rfl, rfl⟩
  have d1 : decide (v < 0) = false := by simp; omega
  by_cases h2 : 1114111 < v
  · have d2 : decide (1114111 < v) = true := by simp; omega
    clear h
    go_enter Try.func39, Try.ntmps39
    go_wp2_with fail
    go_ret
    all_goals exact ⟨rfl, rfl⟩
  have d2 : decide (1114111 < v) = false := by simp; omega
  have d3 : decide (55296 ≤ v) = true := by simp; omega
  have d4 : decide (v ≤ 57343) = true := by simp; omega
  clear h
  go_enter Try.func39, Try.ntmps39
  go_wp2_with fail
  go_ret
  all_goals exact ⟨rfl, rfl⟩
end Go.Proofs.Ytppnjliamfnlkaa
