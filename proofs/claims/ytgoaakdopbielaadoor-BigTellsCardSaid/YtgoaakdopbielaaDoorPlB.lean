import Derived.Test.YtgoaakdopbielaaDoorPlA
import Derived.Lib.SlBytesRow
namespace Go.Proofs.YtgoaakdopbielaaDoor
open Go.RowKit

def pre (s p : ByteArray) : Bool := decide (p.size ≤ s.size) && ((s.extract 0 p.size).toList == p.toList)
theorem pre_no {s p : ByteArray} (h : ¬ p.size ≤ s.size) : pre s p = false := by simp [pre, h]
theorem pre_yes {s p : ByteArray} (h : p.size ≤ s.size) : pre s p = ((s.extract 0 p.size).toList == p.toList) := by simp [pre, h]

set_option maxHeartbeats 400000 in
theorem hp_lite (s p : ByteArray) (w : World) (_hs : s.size ≤ 9223372036854775807) (_hp : p.size ≤ 9223372036854775807) :
    Calls Tryd.prog 98 #[.string s, .string p] w fun e w' => e = .returned (.bool (pre s p)) ∧ w' = w := by
  by_cases h : p.size ≤ s.size
  · have H := Lib.hid (pre_yes h)
    go_enter Tryd.func98, Tryd.ntmps98
    go_wp2
    go_ret
    exact ⟨by rw [H.out]; rfl, rfl⟩
  · have H := Lib.hid (pre_no h)
    go_enter Tryd.func98, Tryd.ntmps98
    go_wp2
    go_ret
    exact ⟨by rw [H.out]; rfl, rfl⟩

set_option maxHeartbeats 400000 in
theorem hp_any (s p : ByteArray) (w : World) (hs : s.size ≤ 9223372036854775807) (hp : p.size ≤ 9223372036854775807) :
    Calls Tryd.prog 88 #[.string s, .string p] w fun e w' => e = .returned (.bool (pre s p)) ∧ w' = w := by
  go_enter Tryd.func88, Tryd.ntmps88
  go_wp2_with (go_at_call 98; refine (hp_lite _ _ _ hs hp).mono ?_; rintro e w' ⟨rfl, rfl⟩)
  go_ret
  exact ⟨rfl, rfl⟩

def mk3 : ByteArray := ⟨#[239, 191, 189]⟩
def noSg (s : ByteArray) (r : Int) : Bool := (r == 65533) && !(pre s mk3)

/-- May the sign r at a byte not stand there? -/
def badAt (s : ByteArray) (i : Nat) (r : Int) : Bool := (r == 0) || ((r == 65279) && decide (0 < i)) || noSg (s.extract i s.size) r
def wrongStep (s : ByteArray) (st : Int) (i : Nat) (r : Int) (_ _ : Nat) : Int × Bool :=
  if badAt s i r then (i, false) else (st, decide (st < 0))
def WR (s : ByteArray) (b0 b1 : Nat) (st : Int) (w : World) : Prop :=
  w.heap[b0]? = some (.cells #[.string s] 9) ∧ w.heap[b1]? = some (.cells #[.int .i64 st] 3)

theorem WR_bad {s : ByteArray} {b0 b1 : Nat} {st : Int} {w : World} (hb : b0 ≠ b1) (h : WR s b0 b1 st w) (i : Int) (o : Obj) :
    WR s b0 b1 i ((w.setCell ⟨b1, 0, none⟩ (.int .i64 i)).alloc o) ∧ Keeps (· = b1) w ((w.setCell ⟨b1, 0, none⟩ (.int .i64 i)).alloc o) := by
  obtain ⟨h0, h1⟩ := h
  have l0 := lt_of_block h0
  have l1 := lt_of_block h1
  refine ⟨⟨?_, ?_⟩, (Keeps.setCell (S := fun k => k = b1) (Keeps.refl _ _) (.inl rfl) _).alloc _⟩
  · rw [Below.heap_alloc _ _ _ (by simpa using l0), Below.heap_setCell _ _ _ _ hb]; exact h0
  · rw [Below.heap_alloc _ _ _ (by simpa using l1)]; exact heap_setCell h1 _
theorem WR_good {s : ByteArray} {b0 b1 : Nat} {st : Int} {w : World} (h : WR s b0 b1 st w) (o : Obj) :
    WR s b0 b1 st (w.alloc o) ∧ Keeps (· = b1) w (w.alloc o) := by
  obtain ⟨h0, h1⟩ := h
  have l0 := lt_of_block h0
  have l1 := lt_of_block h1
  refine ⟨⟨?_, ?_⟩, (Keeps.refl _ _).alloc _⟩
  · rw [Below.heap_alloc _ _ _ (by simpa using l0)]; exact h0
  · rw [Below.heap_alloc _ _ _ (by simpa using l1)]; exact h1

/-- What 'Wrong' tells of a text. -/
def wrongF (s : ByteArray) : Int := eachF s (wrongStep s) (s.size + 1) (-1) 0 1 1

end Go.Proofs.YtgoaakdopbielaaDoor
