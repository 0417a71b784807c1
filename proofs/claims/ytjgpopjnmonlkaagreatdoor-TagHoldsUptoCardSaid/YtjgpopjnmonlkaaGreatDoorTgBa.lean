import Derived.Test.YtjgpopjnmonlkaaGreatDoorTgA
import Derived.Test.YtjgpopjnmonlkaaGreatDoorRows
import Derived.ProofKit
import Derived.ChangeArms
import Derived.DataReads
namespace Go.Proofs.YtjgpopjnmonlkaaGreatDoor
open Go.RowKit Go.ChangeShapes
set_option linter.unusedSimpArgs false
set_option linter.unusedVariables false
set_option linter.unusedSectionVars false

/-! A document's constraint that comes in, opened. -/
theorem exCells : Tryz.prog.cellsOf 24 = 3 := by kernel_rfl
theorem exStr : Tryz.prog.cellsOf 9 = 1 := by kernel_rfl
theorem exRow : Tryz.prog.cellsOf 22 = 1 := by kernel_rfl
section
variable {H : Type} {enc : TypeId × Value → H} {W : World}
theorem addr_add (b o i : Nat) : (⟨b, o, none⟩ : Addr).add i = ⟨b, o + i, none⟩ := by unfold Addr.add; split <;> simp_all
/-- A row of constraints, each of them opened. -/
theorem open_exs {b : Nat} : ∀ (elems : List (DataW H × List MemPlace)) (o : Nat),
    (∀ i y, elems[i]? = some y → ∃ cs e, cs.length = 3 ∧ (∀ j v, cs[j]? = some v → W.cell? ⟨b, o + i * 3 + j, none⟩ = some v) ∧ ExAt W (fun _ => True) e cs ∧ e.size ≤ Rows.uptoBulk y.1 ∧ (Rows.uptoBulk y.1 ≤ 2000000 → e.fits)) →
    ∃ kids : List Ex, kids.length = elems.length ∧ KidsAt W (fun _ => True) b kids o ∧ Ex.sizes kids ≤ Rows.uptoBulkAll (elems.map (·.1)) ∧ (Rows.uptoBulkAll (elems.map (·.1)) ≤ 2000000 → Ex.fitsL kids)
  | [], o, _ => ⟨[], rfl, by simp only [KidsAt], by simp [Ex.sizes, Rows.uptoBulkAll], fun _ => by simp only [Ex.fitsL]⟩
  | y :: elems, o, h => by
    obtain ⟨cs, e, h1, h2, h3, h4, h5⟩ := h 0 y rfl
    obtain ⟨kids, k1, k2, k3, k4⟩ := open_exs elems (o + 3) (fun i z hz => by
      obtain ⟨cs, e, h1, h2, h3, h4, h5⟩ := h (i + 1) z (by simpa using hz)
      refine ⟨cs, e, h1, fun j v hv => ?_, h3, h4, h5⟩
      have := h2 j v hv
      rwa [show o + (i + 1) * 3 + j = o + 3 + i * 3 + j by omega] at this)
    refine ⟨e :: kids, by simp [k1], ?_, ?_, ?_⟩
    · simp only [KidsAt]
      exact ⟨⟨cs, h1, h3, fun i v hv => by simpa using h2 i v hv⟩, k2⟩
    · simp only [Ex.sizes, List.map_cons, Rows.uptoBulkAll]
      omega
    · intro hb
      simp only [List.map_cons, Rows.uptoBulkAll] at hb
      simp only [Ex.fitsL]
      exact ⟨h5 (by omega), k4 (by omega)⟩
set_option maxRecDepth 100000 in
theorem open_ex : ∀ (m fuel : Nat), fuel ≤ m → ∀ (cs : List Value) (x : DataW H × List MemPlace), DataW.trod enc Tryz.prog W 0 (fun _ => true) true fuel 24 cs = some x →
    ∃ e : Ex, ExAt W (fun _ => True) e cs ∧ e.size ≤ Rows.uptoBulk x.1 ∧ (Rows.uptoBulk x.1 ≤ 2000000 → e.fits)
  | 0, fuel, hm, cs, x, h => by
    obtain rfl : fuel = 0 := by omega
    simp [DataW.trod] at h
  | m + 1, fuel, hm, cs, x, h => by
    obtain ⟨xs, n, rfl, rfl, hl, hxl, hf⟩ := DataW.trod_struct Tryz.underlying24 h
    rw [exCells] at hl
    obtain ⟨c0, c1, c2, rfl⟩ : ∃ c0 c1 c2, cs = [c0, c1, c2] := by
      match cs, hl with
      | [a, b, c], _ => exact ⟨a, b, c, rfl⟩
    obtain ⟨y0, y1, y2, rfl⟩ : ∃ y0 y1 y2, xs = [y0, y1, y2] := by
      match xs, hxl with
      | [a, b, c], _ => exact ⟨a, b, c, rfl⟩
    have f0 := hf 0 _ rfl
    have f1 := hf 1 _ rfl
    have f2 := hf 2 _ rfl
    simp only [exStr, exRow, List.drop_zero, List.drop_succ_cons, List.take_succ_cons, List.take_zero, List.getElem?_cons_zero, List.getElem?_cons_succ] at f0 f1 f2
    obtain ⟨op, e0, rfl, _⟩ := DataW.trod_string Tryz.underlying9 f0
    obtain ⟨tag, e1, rfl, _⟩ := DataW.trod_string Tryz.underlying9 f1
    obtain rfl : c0 = .string op := by simpa [exStr, exRow] using e0
    obtain rfl : c1 = .string tag := by simpa [exStr, exRow] using e1
    have hop : op.data.toList.length = op.size := by simp
    have htg : tag.data.toList.length = tag.size := by simp
    rcases DataW.trod_slice Tryz.underlying22 f2 with ⟨e2, rfl⟩ | ⟨a, len, cap, elems, rest, n', rfl, e2, rfl, hb, hlc, hcm, hel, hin, _, _⟩
    · obtain rfl : c2 = .slice none 0 0 := by simpa [exStr, exRow] using e2
      refine ⟨.node op tag [], ?_, ?_, ?_⟩
      · simp only [ExAt]
        exact ⟨none, 0, rfl, .inl trivial⟩
      · simp only [Ex.size, Ex.sizes, List.map_cons, List.map_nil, Rows.uptoBulk, Rows.uptoBulkAll]
        omega
      · intro hbk
        simp only [List.map_cons, List.map_nil, Rows.uptoBulk, Rows.uptoBulkAll] at hbk
        simp only [Ex.fits, Ex.fitsL]
        exact ⟨by omega, by omega, trivial⟩
    · obtain rfl : c2 = .slice (some a) len cap := by simpa [exStr, exRow] using e2
      obtain ⟨b, o, spot⟩ := a
      have hspot : 0 < len → spot = none ∧ b < W.heap.size := fun h0 => by
        have h1 := hin 0 h0
        obtain ⟨z, hz⟩ : ∃ z, elems[0]? = some z := ⟨elems[0]'(by omega), List.getElem?_eq_getElem _⟩
        rw [hz, Option.bind_eq_some_iff] at h1
        obtain ⟨cs', h2, h3⟩ := h1
        obtain ⟨_, h4, h5⟩ := World.cells?_some h2
        rw [exCells] at h4 h5
        have h6 := h5 0 (by omega)
        obtain ⟨v, hv⟩ : ∃ v, cs'[0]? = some v := ⟨cs'[0]'(by omega), List.getElem?_eq_getElem _⟩
        rw [hv] at h6
        have h7 := World.cell?_spot h6
        have h8 := World.block_lt_of_cell? _ _ h6
        simp only [Addr.add] at h7 h8
        constructor
        · revert h7
          split <;> simp_all
        · revert h8
          split <;> simp_all
      have hkids : 0 < len → ∃ kids : List Ex, kids.length = elems.length ∧ KidsAt W (fun _ => True) b kids o ∧ Ex.sizes kids ≤ Rows.uptoBulkAll (elems.map (·.1)) ∧ (Rows.uptoBulkAll (elems.map (·.1)) ≤ 2000000 → Ex.fitsL kids) := fun h0 => by
        obtain ⟨rfl, hlt⟩ := hspot h0
        refine open_exs elems o fun i y hy => ?_
        have hi := (List.getElem?_eq_some_iff.mp hy).1
        have h1 := hin i (by omega)
        rw [hy, Option.bind_eq_some_iff] at h1
        obtain ⟨cs', h2, h3⟩ := h1
        obtain ⟨_, h4, h5⟩ := World.cells?_some h2
        rw [exCells] at h4 h5
        obtain ⟨e, q1, q2, q3⟩ := open_ex m n' (by omega) cs' y h3
        refine ⟨cs', e, h4, fun j v hv => ?_, q1, q2, q3⟩
        have hj := (List.getElem?_eq_some_iff.mp hv).1
        have h6 := h5 j (by omega)
        rw [addr_add, addr_add, hv] at h6
        exact h6
      by_cases h0 : 0 < len
      · obtain ⟨rfl, hlt⟩ := hspot h0
        obtain ⟨kids, k1, k2, k3, k4⟩ := hkids h0
        refine ⟨.node op tag kids, ?_, ?_, ?_⟩
        · simp only [ExAt]
          exact ⟨some ⟨b, o, none⟩, cap, by rw [k1, hel], .inr ⟨b, o, rfl, trivial, hlt, by omega, k2⟩⟩
        · simp only [Ex.size, List.map_cons, List.map_nil, Rows.uptoBulk, Rows.uptoBulkAll]
          omega
        · intro hbk
          simp only [List.map_cons, List.map_nil, Rows.uptoBulk, Rows.uptoBulkAll] at hbk
          simp only [Ex.fits]
          exact ⟨by omega, by omega, k4 (by omega)⟩
      · obtain rfl : len = 0 := by omega
        refine ⟨.node op tag [], ?_, ?_, ?_⟩
        · simp only [ExAt]
          exact ⟨some ⟨b, o, spot⟩, cap, rfl, .inl trivial⟩
        · simp only [Ex.size, Ex.sizes, List.map_cons, List.map_nil, Rows.uptoBulk, Rows.uptoBulkAll]
          omega
        · intro hbk
          simp only [List.map_cons, List.map_nil, Rows.uptoBulk, Rows.uptoBulkAll] at hbk
          simp only [Ex.fits, Ex.fitsL]
          exact ⟨by omega, by omega, trivial⟩
end
end Go.Proofs.YtjgpopjnmonlkaaGreatDoor
