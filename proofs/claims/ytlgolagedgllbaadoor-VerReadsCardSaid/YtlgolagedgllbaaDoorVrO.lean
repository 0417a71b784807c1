import Derived.Test.YtlgolagedgllbaaDoorVrN
import Derived.Test.YtlgolagedgllbaaDoorPlP
import Derived.Laws.IdiomStrings
import Derived.Laws.AppendOwn
namespace Go.Proofs.YtlgolagedgllbaaDoor
open Go.RowKit Go.Shelf
set_option linter.unusedSimpArgs false
set_option linter.unusedVariables false
set_option linter.unusedSectionVars false

/-! VerChains. -/
theorem bytesRow_v (s : ByteArray) (w : World) (cap : Nat) (h : s.size ≤ cap) (fr : Nat × Nat) : BSl (w.alloc (.cells (bytesRow s cap) 5 fr)) (some ⟨w.heap.size, 0, none⟩) s := by
  refine .inr ⟨w.heap.size, 0, rfl, ?_, by simp⟩
  intro i hi
  have hb : (w.alloc (.cells (bytesRow s cap) 5 fr)).heap[w.heap.size]? = some (.cells (bytesRow s cap) 5 fr) := heap_alloc_new w _
  rw [Nat.zero_add, cell_of hb, bytesRow_at s cap i hi]
  simp [byteN, List.getD_eq_getElem?_getD, List.getElem?_eq_getElem (show i < s.data.toList.length by simpa using hi)]
end Go.Proofs.YtlgolagedgllbaaDoor
