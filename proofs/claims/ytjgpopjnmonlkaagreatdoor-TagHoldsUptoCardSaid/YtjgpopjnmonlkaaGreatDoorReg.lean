import Derived.Test.YtjgpopjnmonlkaaGreatDoorKit
import Derived.Deep.RegionHeld3
import Derived.BigQuiet
import Derived.Deep.QuietTactic
namespace Go.Proofs.YtjgpopjnmonlkaaGreatDoor
open Go.RowKit

/-- The worlds that an invariant holds of, as a type: so that facts on all of them are plain rewrite rules. -/
structure Wld (Inv : World → Prop) where
  w : World
  ok : Inv w

/-- A region that draws its order, whose own operations only read, and whose calls only make memory: one walk, in the order of the text. -/
theorem wp_region_inv {P : Program} (Inv : World → Prop) {id : Nat} {Q : Exit → Act → World → Prop} {a : Act} {w : World} {l : List Oper} (hm : P.follows .mixedOrders = true) (hB : Region.lexB .any l.toArray = true)
    (hC : Inv w.drew)
    (h : wpQuiet P l.toArray (fun w' => ∃ i : Wld Inv, w' = i.w) (fun a' => ∀ w', (∃ i : Wld Inv, w' = i.w) → Q .normal a' w') l a) : (Code.region id l.toArray true).wp P Q a w :=
  wp_region_quiet (C := fun w' => ∃ i : Wld Inv, w' = i.w) hm hB ⟨⟨_, hC⟩, rfl⟩ (by simpa using h)

/-- Nothing that was there in w0 has turned; these cells hold these values. -/
def InvC (w0 : World) (cs : List (Nat × Nat × Value)) (w : World) : Prop :=
  Below w0.heap.size w0 w ∧ ∀ x ∈ cs, x.1 < w.heap.size ∧ w.cell? ⟨x.1, x.2.1, none⟩ = some x.2.2

theorem InvC.step {w0 w w' : World} {cs : List (Nat × Nat × Value)} (h : InvC w0 cs w) (hb : Below w.heap.size w w') : InvC w0 cs w' :=
  ⟨h.1.trans (hb.mono h.1.size), fun x hx => ⟨Nat.lt_of_lt_of_le (h.2 x hx).1 hb.size, by rw [hb.cell (h.2 x hx).1]; exact (h.2 x hx).2⟩⟩

theorem InvC.cell {w0 : World} {cs : List (Nat × Nat × Value)} (i : Wld (InvC w0 cs)) {b o : Nat} {v : Value} (h : (b, o, v) ∈ cs) : i.w.cell? ⟨b, o, none⟩ = some v :=
  (i.ok.2 _ h).2

theorem InvC.held {w0 w : World} {cs : List (Nat × Nat × Value)} (h : InvC w0 cs w) {b o : Nat} {v : Value} (hm : (b, o, v) ∈ cs) : w.cell? ⟨b, o, none⟩ = some v :=
  (h.2 _ hm).2

theorem InvC.start {w0 w : World} {cs : List (Nat × Nat × Value)} (hb : Below w0.heap.size w0 w) (h : ∀ x ∈ cs, w.cell? ⟨x.1, x.2.1, none⟩ = some x.2.2) : InvC w0 cs w.drew :=
  ⟨hb.drew, fun x hx => ⟨World.block_lt_of_cell? _ _ (h x hx), h x hx⟩⟩

/-- A call that only makes memory, inside such a region. -/
theorem Calls.inv {P : Program} {f : FuncId} {args : Array Value} {w0 : World} {cs : List (Nat × Nat × Value)} {i : Wld (InvC w0 cs)} {v : Value}
    (h : Calls P f args i.w fun e w' => e = .returned v ∧ Below i.w.heap.size i.w w') :
    Calls P f args i.w fun e w' => e = .returned v ∧ ∃ j : Wld (InvC w0 cs), w' = j.w :=
  h.mono fun _ w' ⟨he, hb⟩ => ⟨he, ⟨w', i.ok.step hb⟩, rfl⟩
theorem Calls.inv_same {P : Program} {f : FuncId} {args : Array Value} {w0 : World} {cs : List (Nat × Nat × Value)} {i : Wld (InvC w0 cs)} {v : Value}
    (h : Calls P f args i.w fun e w' => e = .returned v ∧ w' = i.w) :
    Calls P f args i.w fun e w' => e = .returned v ∧ ∃ j : Wld (InvC w0 cs), w' = j.w :=
  h.mono fun _ _ ⟨he, hb⟩ => ⟨he, i, hb⟩

end Go.Proofs.YtjgpopjnmonlkaaGreatDoor
