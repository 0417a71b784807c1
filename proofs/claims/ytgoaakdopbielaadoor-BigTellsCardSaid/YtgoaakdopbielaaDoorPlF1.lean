import Derived.Test.YtgoaakdopbielaaDoorPlE1
import Derived.Test.YtgoaakdopbielaaDoorPlB
import Derived.Lib.SlBytesConst
namespace Go.Proofs.YtgoaakdopbielaaDoor
open Go.RowKit

theorem BSl.below {w w' : World} {p : Option Addr} {s : ByteArray} (h : BSl w p s) (hb : Below w.heap.size w w') : BSl w' p s := by
  rcases h with h | ⟨b, o, hp, hc, hlt⟩
  · exact .inl h
  · refine .inr ⟨b, o, hp, fun i hi => ?_, Nat.lt_of_lt_of_le hlt hb.size⟩
    rw [hb.cell (p := ⟨b, o + i, none⟩) hlt]
    exact hc i hi
theorem BSl.alloc {w : World} {p : Option Addr} {s : ByteArray} (h : BSl w p s) (x : Obj) : BSl (w.alloc x) p s :=
  h.below ((Below.refl _ _).alloc (Nat.le_refl _) _)

theorem conv_at {w : World} {p : Option Addr} {s : ByteArray} (h : BSl w p s) (cap : Nat) : (convert 70 9 (.slice p s.size cap)).run Tryd.prog w = .ok (.string s) w := by
  rcases h with h0 | ⟨b, o, rfl, hc, _⟩
  · have he : s = ByteArray.empty := by
      apply ByteArray.ext
      have : s.data = #[] := by apply Array.eq_empty_of_size_eq_zero; exact h0
      rw [this]; rfl
    subst he
    cases p with
    | none => exact run_convert_bytes_nil w 70 5 Tryd.underlying70 Tryd.underlying5 _ cap 9 Tryd.underlying9
    | some a =>
      rw [run_convert_bytes_string w 70 9 5 _ _ cap Tryd.underlying70 Tryd.underlying5 Tryd.underlying9]
      exact run_bytesToString w a 0 cap [] (by simp [loadCells, loadCellsFrom])
  · refine Lib.run_convert_whole w 70 5 9 Tryd.underlying70 Tryd.underlying5 Tryd.underlying9 b o s (fun i hi => ?_) cap
    rw [hc i hi]
    simp only [byteN]
    congr 3
    have := byte_at s i hi
    simp [List.getD, this]

end Go.Proofs.YtgoaakdopbielaaDoor
