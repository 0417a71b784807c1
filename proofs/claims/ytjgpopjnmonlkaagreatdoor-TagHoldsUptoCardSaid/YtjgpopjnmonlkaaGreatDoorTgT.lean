import Derived.Test.YtjgpopjnmonlkaaGreatDoorTgS
namespace Go.Proofs.YtjgpopjnmonlkaaGreatDoor
open Go.RowKit Go.Shelf
set_option linter.unusedSimpArgs false
set_option linter.unusedVariables false
set_option linter.unusedSectionVars false

/-! Layer 5: the reader: rows. -/
theorem info24g : (Tryz.prog.info? 29).map (fun i => (i.zero, i.size, i.bytes)) = some (some (.agg #[.string ⟨#[]⟩, .string ⟨#[]⟩, .slice none 0 0]), 3, 56) := by kernel_rfl
theorem ExAt.one {w : World} {S : Nat → Prop} {x : Ex} {vs : List Value} (h : ExAt w S x vs) : ∀ u ∈ vs, u.oneCell' = true := by
  obtain ⟨o, t, a, n, c, rfl⟩ := h.shape
  intro u hu
  simp at hu
  rcases hu with rfl | rfl | rfl <;> rfl
theorem takes_len (sg l : List UInt8) : (takesL sg l).length ≤ l.length := by
  have h : (skipF l).length ≤ l.length := (List.dropWhile_suffix (fun b => b == 32 || b == 9) (l := l)).length_le
  unfold takesL
  split
  · rw [List.length_drop]; omega
  · exact h
/-- The row so far. -/
def KidsI (B rb : Nat) (wr : World) (rv : Value) (acc : List Ex) : Prop :=
  ∃ lvs, wr.ownsRow B 29 3 rv acc.length (flat lvs) ∧ All3 wr (fun b => B ≤ b ∧ rv.ownBlock ≠ some b) acc lvs
theorem KidsI.far {B rb : Nat} {wr w3 : World} {rv : Value} {acc : List Ex} (h : KidsI B rb wr rv acc) (hg : wr.grownBy w3 (some rb)) (hB : rb < B) : KidsI B rb w3 rv acc := by
  obtain ⟨lvs, h1, h2⟩ := h
  refine ⟨lvs, h1.kept hg ?_, h2.keep ⟨hg.size, fun b hS hb => hg.block b hb (fun e => by cases e; omega)⟩ (fun _ h _ => h)⟩
  right
  intro e
  have := (h1.lt rb e).1
  omega
/-- One more behind it. -/
theorem KidsI.snoc {B rb g cap : Nat} {w2 w3 w4 : World} {rv : Value} {acc : List Ex} {x : Ex} {vs : List Value} {o : Obj} (h : KidsI B rb w3 rv acc) (hx : ExAt w3 (fun b => w2.heap.size ≤ b) x vs) (hB : B ≤ w2.heap.size)
    (hrv : ∀ k, rv.ownBlock = some k → k < w2.heap.size) (hgr : (w3.alloc o).grownBy w4 rv.ownBlock) (lvs : List (List Value)) (hl : All3 w3 (fun b => B ≤ b ∧ rv.ownBlock ≠ some b) acc lvs)
    (hown : w4.ownsRow B 29 3 (.slice (some ⟨g, 0, none⟩) (acc.length + 1) cap) (acc.length + 1) (flat lvs ++ vs)) (hat : rv.ownBlock = some g ∨ g = w3.heap.size + 1) :
    KidsI B rb w4 (.slice (some ⟨g, 0, none⟩) (acc.length + 1) cap) (acc ++ [x]) := by
  have hs : ∀ b, b < w3.heap.size → some b ≠ rv.ownBlock → w4.heap[b]? = w3.heap[b]? := fun b hb hne => by
    rw [hgr.block b (by simp; omega) hne]
    exact Below.heap_alloc _ _ _ hb
  have hsz : w3.heap.size ≤ w4.heap.size := by
    have := hgr.size
    simp at this
    omega
  refine ⟨lvs ++ [vs], ?_, ?_⟩
  · have : flat (lvs ++ [vs]) = flat lvs ++ vs := by unfold flat; rw [List.flatten_append]; simp
    rw [this, List.length_append, List.length_singleton]
    exact hown
  · have hold : ∀ b, (B ≤ b ∧ rv.ownBlock ≠ some b) → b < w2.heap.size ∨ w2.heap.size ≤ b → b < w3.heap.size → B ≤ b ∧ Value.ownBlock (.slice (some ⟨g, 0, none⟩) (acc.length + 1) cap) ≠ some b := fun b hb _ hlt => by
      refine ⟨hb.1, fun e => ?_⟩
      have e2 : g = b := by simpa [Value.ownBlock] using e
      rcases hat with h1 | h1
      · exact hb.2 (by rw [h1, e2])
      · omega
    refine All3.snoc (hl.keep ⟨hsz, fun b hb hlt => hs b hlt (fun e => hb.2 e.symm)⟩ (fun b hb hlt => hold b hb (by omega) hlt)) ?_
    refine hx.keep ⟨hsz, fun b hb hlt => hs b hlt (fun e => ?_)⟩ (fun b hb hlt => hold b ⟨by omega, fun e => ?_⟩ (by omega) hlt) x vs
    · have := hrv b e.symm; omega
    · have := hrv b e; omega
end Go.Proofs.YtjgpopjnmonlkaaGreatDoor
