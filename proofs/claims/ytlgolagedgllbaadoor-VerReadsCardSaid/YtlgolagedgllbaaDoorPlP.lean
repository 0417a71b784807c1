import Derived.Test.YtlgolagedgllbaaDoorPlE1
import Derived.ProofKit
namespace Go.Proofs.YtlgolagedgllbaaDoor
open Go.RowKit

/-- A slice of bytes that came in. -/
theorem bsl_of {w : World} {a : Option Addr} {len cap : Nat} {zs : List Int}
    (h : (a = none ∧ len = 0 ∧ cap = 0 ∧ zs = []) ∨
      ∃ x, a = some x ∧ len ≤ cap ∧ cap ≤ maxLen ∧ zs.length = cap ∧ (∀ i, i < zs.length → w.cell? (x.add i) = some (.int .u8 (zs.getD i 0))) ∧ ∀ n ∈ zs, (Lit.int .u8 n).wf = true) :
    ∃ s : ByteArray, s.size = len ∧ BSl w a s ∧ len ≤ cap ∧ (a = none → cap = 0) := by
  rcases h with ⟨rfl, rfl, rfl, rfl⟩ | ⟨x, rfl, hl, hm, hz, hc, hw⟩
  · exact ⟨⟨#[]⟩, rfl, .inl rfl, Nat.le_refl _, fun _ => rfl⟩
  · refine ⟨strOfNums (zs.take len), by rw [strOfNums_size]; simp; omega, ?_, hl, fun h => by cases h⟩
    by_cases h0 : len = 0
    · subst h0; exact .inl (by rw [strOfNums_size]; simp)
    · obtain ⟨b, o, spot⟩ := x
      have hc0 := hc 0 (by omega)
      have hspot : spot = none := by simpa [Addr.add] using World.cell?_spot hc0
      subst hspot
      refine .inr ⟨b, o, rfl, fun i hi => ?_, ?_⟩
      · rw [strOfNums_size, List.length_take] at hi
        have := hc i (by omega)
        have e : (⟨b, o, none⟩ : Addr).add i = ⟨b, o + i, none⟩ := by unfold Addr.add; split <;> simp_all
        rw [e] at this
        rw [this]
        have hil : i < zs.length := by omega
        have hb : 0 ≤ zs[i] ∧ zs[i] < 256 := by
          have h1 : IntKind.u8.min = 0 := rfl
          have h2 : IntKind.u8.max = 255 := rfl
          have := hw zs[i] (List.getElem_mem hil)
          simp only [Lit.wf, Bool.and_eq_true, decide_eq_true_eq] at this
          omega
        congr 2
        simp only [byteN, strOfNums_data]
        rw [List.getD, List.getD, List.getElem?_map, List.getElem?_take_of_lt (by omega), List.getElem?_eq_getElem hil]
        simp only [Option.map_some, Option.getD_some]
        have h3 : (UInt8.ofNat zs[i].toNat).toNat = zs[i].toNat := by
          simp; omega
        rw [h3]; omega
      · have := World.block_lt_of_cell? _ _ hc0
        simpa [Addr.add] using this

end Go.Proofs.YtlgolagedgllbaaDoor
