import Derived.Test.YtjgpopjnmonlkaaGreatDoorTgBa
import Derived.Test.YtjgpopjnmonlkaaGreatDoorTgG
import Derived.WalkKit
import Derived.OpenShut
import Derived.WideShapes
import Derived.Deep.Strs
namespace Go.Proofs.YtjgpopjnmonlkaaGreatDoor
open Go.RowKit Go.ChangeShapes Go.WideShapes Go.Deep
set_option linter.unusedSimpArgs false
set_option linter.unusedVariables false
set_option linter.unusedSectionVars false

/-! Arguments that come in, opened: constraints, rows of texts, texts. -/
section
variable {H : Type} {enc : TypeId × Value → H} {W : World}
set_option maxRecDepth 100000 in
theorem arg_ex {base : Nat} {v : Value} {d : DataW H} {p : List MemPlace} (hv : Value.okWide Tryz.prog W .any base 24 v) (h : DataW.Trod enc Tryz.prog W 0 (fun _ => true) true 24 v d p) (hk : Rows.uptoBulk d ≤ 1048576) :
    ∃ (x : Ex) (vs : List Value), v = .agg vs.toArray ∧ ExAt W (fun _ => True) x vs ∧ x.size ≤ 1048576 ∧ x.fits := by
  obtain ⟨cs, rfl, _⟩ := okWide_struct Tryz.underlying24 hv
  obtain ⟨fuel, hf⟩ := h
  obtain ⟨x, h1, h2, h3⟩ := open_ex fuel fuel (Nat.le_refl _) _ _ hf
  exact ⟨x, cs.toList, by simp, h1, by simp only at h2; omega, h3 (by simp only; omega)⟩
theorem bulk_le {d : DataW H} {l : List (DataW H)} (h : d ∈ l) : Rows.uptoBulk d ≤ Rows.uptoBulkAll l := by
  induction l with
  | nil => cases h
  | cons x r ih =>
    simp only [Rows.uptoBulkAll]
    cases List.mem_cons.1 h with
    | inl e => subst e; omega
    | inr e => have := ih e; omega
theorem bulk_one (d : DataW H) : 1 ≤ Rows.uptoBulk d := by
  cases d with
  | lit l => cases l <;> simp [Rows.uptoBulk]
  | nil => simp [Rows.uptoBulk]
  | ptr d => simp [Rows.uptoBulk]
  | slice elems spare => simp [Rows.uptoBulk]
  | agg parts => simp [Rows.uptoBulk]
  | iface t d => simp [Rows.uptoBulk]
  | map entries => simp [Rows.uptoBulk]
  | held h => simp [Rows.uptoBulk]
theorem bulk_len (l : List (DataW H)) : l.length ≤ Rows.uptoBulkAll l := by
  induction l with
  | nil => simp [Rows.uptoBulkAll]
  | cons x r ih => have := bulk_one x; simp only [Rows.uptoBulkAll, List.length_cons]; omega
theorem arg_str {a : ByteArray} (hk : Rows.uptoBulk (DataW.lit (H := H) (.string a.data.toList)) ≤ 1048576) : a.size ≤ 1048576 := by
  simp only [Rows.uptoBulk] at hk
  have : a.data.toList.length = a.size := by simp
  omega
set_option maxRecDepth 100000 in
theorem arg_tags {base : Nat} {v : Value} {d : DataW H} {p : List MemPlace} (hv : Value.okWide Tryz.prog W .any base 25 v) (h : DataW.Trod enc Tryz.prog W 0 (fun _ => true) true 25 v d p) (hk : Rows.uptoBulk d ≤ 1048576) :
    ∃ (a : Option Addr) (cap : Nat) (tags : List ByteArray), v = .slice a tags.length cap ∧ TagsAt W a cap tags ∧ tags.length ≤ 1048576 ∧ ∀ t ∈ tags, t.size ≤ 1048576 := by
  obtain ⟨a, len, cap, rfl⟩ := okWide_slice Tryz.underlying25 hv
  obtain ⟨fuel, hf⟩ := h
  rcases open_strs Tryz.underlying25 Tryz.underlying9 exStr hf with ⟨hcs, _⟩ | ⟨x, l, c, m, Sx, hcs, _, hl, hm, hmm, hd, hcell⟩
  · simp [Value.cells] at hcs
    obtain ⟨rfl, rfl, rfl⟩ := hcs
    exact ⟨none, 0, [], rfl, .inl rfl, by simp, fun t h => by cases h⟩
  · simp [Value.cells] at hcs
    obtain ⟨rfl, rfl, rfl⟩ := hcs
    have hd1 : d = _ := congrArg Prod.fst hd
    rw [hd1] at hk
    simp only [Rows.uptoBulk] at hk
    have hlen := bulk_len ((List.range len).map fun i => DataW.lit (H := H) (.string (Sx i).data.toList))
    rw [List.length_map, List.length_range] at hlen
    have hm2 : len ≤ m := by rw [hmm]; split <;> omega
    refine ⟨some x, cap, (List.range len).map Sx, by simp, ?_, by simp; omega, fun t ht => ?_⟩
    · by_cases h0 : len = 0
      · subst h0; exact .inl rfl
      · obtain ⟨b, o, spot⟩ := x
        have hc0 := (hcell 0 (by omega)).1
        have hspot : spot = none := by simpa [Addr.add] using World.cell?_spot hc0
        subst hspot
        have hlt := World.block_lt_of_cell? _ _ hc0
        rw [addr_add] at hlt
        refine .inr ⟨b, o, rfl, hlt, by simp; omega, fun j y hy => ?_⟩
        rw [List.getElem?_map] at hy
        have hj : j < len := by
          have := (List.getElem?_eq_some_iff.mp (show ((List.range len).map Sx)[j]? = some y by rw [List.getElem?_map]; exact hy)).1
          simpa using this
        rw [List.getElem?_range hj] at hy
        obtain rfl : Sx j = y := by simpa using hy
        have := (hcell j (by omega)).1
        rwa [addr_add] at this
    · obtain ⟨i, hi, rfl⟩ := List.mem_map.1 ht
      have := bulk_le (d := DataW.lit (H := H) (.string (Sx i).data.toList)) (l := (List.range len).map fun i => DataW.lit (H := H) (.string (Sx i).data.toList)) (List.mem_map.2 ⟨i, hi, rfl⟩)
      exact arg_str (H := H) (by omega)
end
end Go.Proofs.YtjgpopjnmonlkaaGreatDoor
