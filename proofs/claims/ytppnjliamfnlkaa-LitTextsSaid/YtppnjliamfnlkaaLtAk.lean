import Derived.Test.YtppnjliamfnlkaaLtAh
import Derived.Test.YtppnjliamfnlkaaLtAi
import Derived.Test.YtppnjliamfnlkaaLtAj
import Derived.Test.YtppnjliamfnlkaaLtQ
namespace Go.Proofs.Ytppnjliamfnlkaa
open Go.RowKit
set_option linter.unusedSimpArgs false
set_option linter.unusedVariables false
set_option linter.unusedSectionVars false

/-! Layer 3: text, Text at every string. -/
theorem text_any (s : ByteArray) (w : World) (hs : s.size ≤ 65536) :
    Calls Try.prog 24 #[.string s] w fun e w' => PartsP (textR s) e ∧ Below w.heap.size w w' := by
  by_cases h2 : s.size < 2
  · have hR : textR s = none := by unfold textR; rw [if_pos (.inl h2)]
    rw [hR]; exact text_short s w h2
  by_cases he : byteN s 0 ≠ byteN s (s.size - 1)
  · have hR : textR s = none := by unfold textR; rw [if_pos (.inr he)]
    rw [hR]; exact text_ends s w (by omega) (by omega) he
  have he' : byteN s 0 = byteN s (s.size - 1) := by omega
  have hn1 : ¬ (s.size < 2 ∨ byteN s 0 ≠ byteN s (s.size - 1)) := by omega
  by_cases hw : 0 ≤ wrongF s
  · have hR : textR s = none := by unfold textR; rw [if_neg hn1, if_pos hw]
    rw [hR]; exact text_wrong s w (by omega) (by omega) he' hw
  by_cases h96 : byteN s 0 = 96
  · by_cases hc : 0 ≤ Lib.indexByte (inner s).data.toList 96
    · have hR : textR s = none := by unfold textR; rw [if_neg hn1, if_neg hw, if_pos h96, if_pos hc]
      rw [hR]; exact text_raw_no s w (by omega) (by omega) h96 (by omega) (by omega) hc
    · have hR : textR s = some ((bytesL (inner s)).filter (· ≠ 13)) := by unfold textR; rw [if_neg hn1, if_neg hw, if_pos h96, if_neg hc]
      rw [hR]; exact text_raw_ok s w (by omega) (by omega) h96 (by omega) (by omega) (by omega)
  by_cases h34 : byteN s 0 = 34
  · have hR : textR s = partsF ((inner s).size + 1) (inner s) [] := by unfold textR; rw [if_neg hn1, if_neg hw, if_neg h96, if_pos h34]
    rw [hR]
    refine text_quote s w (by omega) (by omega) h34 (by omega) (by omega) (fun w => ?_)
    exact parts_any (fun _ => True) every_ok (fun p w _ hp => cany_all p w hp) (inner s) w trivial (by simp only [inner, ByteArray.size_extract]; omega)
  · have hR : textR s = none := by unfold textR; rw [if_neg hn1, if_neg hw, if_neg h96, if_neg h34]
    rw [hR]; exact text_other s w (by omega) (by omega) he' (by omega) h96 h34
/-- Text, at every string. -/
theorem Text_all (s : ByteArray) (w : World) (hs2 : s.size ≤ 4611686018427387904) :
    Calls Try.prog 13 #[.string s] w fun e w' => e = .returned (.tuple #[.string (textV s), .int .i64 (textE s)]) ∧ Below w.heap.size w w' :=
  Text_any s w hs2 fun h w => text_any s w h
end Go.Proofs.Ytppnjliamfnlkaa
