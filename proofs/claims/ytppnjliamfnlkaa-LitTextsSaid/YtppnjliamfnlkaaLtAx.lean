import Derived.Test.YtppnjliamfnlkaaLtAw
import Derived.Test.YtppnjliamfnlkaaLtAk
import Derived.Test.YtppnjliamfnlkaaLtAl
namespace Go.Proofs.Ytppnjliamfnlkaa
open Go.RowKit
set_option linter.unusedSimpArgs false
set_option linter.unusedVariables false
set_option linter.unusedSectionVars false

/-! The document's Text, at every string: the program's. -/
theorem doc_text (s : ByteArray) (h : 2 ≤ s.size) (hw : ¬ 0 ≤ wrongF s) (he : byteN s 0 = byteN s (s.size - 1)) (q : Nat) (hq : byteN s 0 = q) (hq2 : q = 34 ∨ q = 96) :
    docF q (s.extract 1 (s.size - 1)) ((s.extract 1 (s.size - 1)).size + 1) 0 [] = textR s := by
  have hi : inner s = s.extract 1 (s.size - 1) := rfl
  rw [← hi]
  have ht0 : tl (inner s) 0 = inner s := by
    apply ba_ext
    rw [tl_list, List.drop_zero]
  unfold textR
  rw [if_neg (by omega), if_neg hw]
  rcases hq2 with rfl | rfl
  · rw [if_neg (by omega), if_pos hq, doc_parts (inner s) (inner s).size 0 ((inner s).size + 1) ((inner s).size + 1) [] (by omega) (by omega) (by omega) (by omega), ht0]
  · rw [if_pos hq, doc_raw (inner s) (inner s).size 0 ((inner s).size + 1) [] (by omega) (by omega) (by omega), ht0, List.nil_append]
theorem reftext_any (s : ByteArray) (w : World) (hs2 : s.size ≤ 4611686018427387904) :
    Calls Try.prog 14 #[.string s] w fun e w' => e = .returned (.tuple #[.string (textV s), .int .i64 (textE s)]) ∧ Below w.heap.size w w' := by
  unfold textV textE
  by_cases h0 : 65536 < s.size
  · rw [if_pos h0, if_pos h0]; exact reftext_long s w h0
  rw [if_neg h0, if_neg h0]
  have hs : s.size ≤ 65536 := by omega
  by_cases h2 : s.size < 2
  · have hR : textR s = none := by unfold textR; rw [if_pos (.inl h2)]
    rw [hR]; exact reftext_short s w h2
  by_cases he : byteN s 0 = byteN s (s.size - 1)
  · have hn1 : ¬ (s.size < 2 ∨ byteN s 0 ≠ byteN s (s.size - 1)) := by omega
    by_cases hq : byteN s 0 = 34 ∨ byteN s 0 = 96
    · by_cases hw : 0 ≤ wrongF s
      · have hR : textR s = none := by unfold textR; rw [if_neg hn1, if_pos hw]
        rw [hR]
        rcases hq with hq | hq
        · exact reftext_wrong34 s w hs (by omega) hq (by omega) hw
        · exact reftext_wrong96 s w hs (by omega) hq (by omega) hw
      · have hd := doc_text s (by omega) hw he (byteN s 0) rfl hq
        have hP : Calls Try.prog 14 #[.string s] w (DocP w (textR s)) := by
          rw [← hd]
          rcases hq with hq | hq
          · rw [hq]; exact reftext_ok34 s w hs (by omega) hq (by omega) (by omega)
          · rw [hq]; exact reftext_ok96 s w hs (by omega) hq (by omega) (by omega)
        revert hP
        cases textR s with
        | none => exact fun h => h
        | some l => exact fun h => h
    · have hR : textR s = none := by
        unfold textR
        rw [if_neg hn1]
        split
        · rfl
        · rw [if_neg (by omega), if_neg (by omega)]
      rw [hR]; exact reftext_other s w hs (by omega) he (by omega) (by omega)
  · have hR : textR s = none := by unfold textR; rw [if_pos (.inr he)]
    rw [hR]; exact reftext_ends s w hs (by omega) he
end Go.Proofs.Ytppnjliamfnlkaa
