import Derived.Test.YtppnjliamfnlkaaLtAx
import Derived.Test.YtppnjliamfnlkaaLtR
namespace Go.Proofs.Ytppnjliamfnlkaa
open Go.RowKit
set_option linter.unusedSimpArgs false
set_option linter.unusedVariables false
set_option linter.unusedSectionVars false

/-! LitTexts. -/
set_option maxHeartbeats 3200000 in
theorem texts_walk (a : ByteArray) (w : World) (ha : a.size ≤ 9223372036854775807) :
    Calls Try.prog 4 #[.string a] w fun e w' => e = .returned (.bool true) ∧ Below w.heap.size w w' := by
  by_cases h1 : 500 < a.size
  · have hd : decide (500 < (a.size : Int)) = true := by simp; omega
    go_enter Try.func4, Try.ntmps4
    go_wp2_with fail
    go_ret
    exact ⟨rfl, Below.refl _ _⟩
  have hd1 : decide (500 < (a.size : Int)) = false := by simp; omega
  have ta := fun w => Text_all a w (by omega)
  have tb := fun w => reftext_any a w (by omega)
  have qa := fun w => quote_any a w (by omega)
  have qb := fun w => refQuote_any a w (by omega)
  generalize textV a = v at *
  generalize textE a = n at *
  generalize quoteF a = q at *
  have hvv : (v.toList == v.toList) = true := by simp
  have hqq : (q.toList == q.toList) = true := by simp
  have hnn : (n == n) = true := by simp
  go_enter Try.func4, Try.ntmps4
  go_wp2_with (first
    | (go_at_call 13; with_reducible refine Calls.mono (ta _) ?_; rintro e w2 ⟨rfl, hb2⟩; have HB2 := Lib.hid hb2; clear hb2)
    | (go_at_call 14; with_reducible refine Calls.mono (tb _) ?_; rintro e w3 ⟨rfl, hb3⟩; have HB3 := Lib.hid hb3; clear hb3)
    | (go_at_call 15; with_reducible refine Calls.mono (qa _) ?_; rintro e w4 ⟨rfl, hb4⟩; have HB4 := Lib.hid hb4; clear hb4)
    | (go_at_call 16; with_reducible refine Calls.mono (qb _) ?_; rintro e w5 ⟨rfl, hb5⟩; have HB5 := Lib.hid hb5; clear hb5)
    | (go_at_call 12; with_reducible refine Calls.mono (awake_any _) ?_; rintro e w6 ⟨rfl, hb6⟩; have HB6 := Lib.hid hb6; clear hb6))
  have s2 := HB2.out.size
  have s3 := HB3.out.size
  have s4 := HB4.out.size
  have s5 := HB5.out.size
  have B3 := HB2.out.trans (HB3.out.mono s2)
  have B4 := B3.trans (HB4.out.mono (by omega))
  have B5 := B4.trans (HB5.out.mono (by omega))
  have B6 := B5.trans (HB6.out.mono (by omega))
  have HB := Lib.hid B6
  clear B3 B4 B5 B6
  go_ret
  exact ⟨rfl, HB.out⟩
end Go.Proofs.Ytppnjliamfnlkaa
