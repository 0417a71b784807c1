import Derived.Test.YtiifakdpacicjaaE
import Derived.Lib.SlBytesConst
namespace Go.Proofs.Ytiifakdpacicjaa
open Go.RowKit

theorem BSl.below {w w' : World} {p : Option Addr} {s : ByteArray} (h : BSl w p s) (hb : Below w.heap.size w w') : BSl w' p s := by
  rcases h with h | ⟨b, o, hp, hc, hlt⟩
  · exact .inl h
  · refine .inr ⟨b, o, hp, fun i hi => ?_, Nat.lt_of_lt_of_le hlt hb.size⟩
    rw [hb.cell (p := ⟨b, o + i, none⟩) hlt]
    exact hc i hi
theorem BSl.alloc {w : World} {p : Option Addr} {s : ByteArray} (h : BSl w p s) (x : Obj) : BSl (w.alloc x) p s :=
  h.below ((Below.refl _ _).alloc (Nat.le_refl _) _)

theorem conv_at {w : World} {p : Option Addr} {s : ByteArray} (h : BSl w p s) (cap : Nat) : (convert 22 9 (.slice p s.size cap)).run Try.prog w = .ok (.string s) w := by
  rcases h with h0 | ⟨b, o, rfl, hc, _⟩
  · have he : s = ByteArray.empty := by
      apply ByteArray.ext
      have : s.data = #[] := by apply Array.eq_empty_of_size_eq_zero; exact h0
      rw [this]; rfl
    subst he
    cases p with
    | none => exact run_convert_bytes_nil w 22 5 Try.underlying22 Try.underlying5 _ cap 9 Try.underlying9
    | some a =>
      rw [run_convert_bytes_string w 22 9 5 _ _ cap Try.underlying22 Try.underlying5 Try.underlying9]
      exact run_bytesToString w a 0 cap [] (by simp [loadCells, loadCellsFrom])
  · refine Lib.run_convert_whole w 22 5 9 Try.underlying22 Try.underlying5 Try.underlying9 b o s (fun i hi => ?_) cap
    rw [hc i hi]
    simp only [byteN]
    congr 3
    have := byte_at s i hi
    simp [List.getD, this]

theorem wrong_b (p : Option Addr) (cap : Nat) (s : ByteArray) (w : World) (hb : BSl w p s) (hs : s.size ≤ 4611686018427387904) :
    Calls Try.prog 10 #[.slice p s.size cap] w fun e w' => e = .returned (.int .i64 (wrongF s)) ∧ Below w.heap.size w w' :=
  wrong_any p cap s w hs (conv_at hb cap)
theorem of_b (p : Option Addr) (cap : Nat) (s : ByteArray) (at_ : Nat) (w : World) (hb : BSl w p s) (hs : s.size ≤ 4611686018427387904) (ha : at_ ≤ s.size) :
    Calls Try.prog 16 #[.slice p s.size cap, .int .i64 at_] w fun e w' => e = .returned (.agg #[.int .i64 (ofF s at_).1, .int .i64 (ofF s at_).2]) ∧ Below w.heap.size w w' :=
  of_yes p cap s at_ w hs (fun _ _ _ => conv_at (((hb.alloc _).alloc _).alloc _) cap) ha
theorem at_b (p : Option Addr) (cap : Nat) (s : ByteArray) (pl pc : Int) (w : World) (hb : BSl w p s) (hs : s.size ≤ 4611686018427387904) :
    Calls Try.prog 17 #[.slice p s.size cap, .agg #[.int .i64 pl, .int .i64 pc]] w fun e w' => e = .returned (.int .i64 (atF s pl pc)) ∧ Below w.heap.size w w' :=
  at_any p cap s pl pc w hs (fun _ _ => conv_at ((hb.alloc _).alloc _) cap)
theorem lines_b (p : Option Addr) (cap : Nat) (s : ByteArray) (w : World) (hb : BSl w p s) (hs : s.size ≤ 4611686018427387904) :
    Calls Try.prog 12 #[.slice p s.size cap] w fun e w' => e = .returned (.int .i64 (ofF s s.size).1) ∧ Below w.heap.size w w' :=
  lines_any p cap s w hs (fun _ _ _ => conv_at (((hb.alloc _).alloc _).alloc _) cap)

def ex : ByteArray := ⟨#[97, 195, 164, 10, 98]⟩
theorem ex_size : ex.size = 5 := rfl
theorem ex1 : ofF ex 1 = (1, 2) := by decide +kernel
theorem ex3 : ofF ex 3 = (1, 3) := by decide +kernel
theorem ex4 : ofF ex 4 = (2, 1) := by decide +kernel
theorem ex5 : ofF ex ex.size = (2, 2) := by decide +kernel

theorem ex_of (i : Nat) (x y : Nat) (h : ofF ex i = (x, y)) (hi : i ≤ 5) (p : Option Addr) (cap : Nat) (w : World) (hb : BSl w p ex) :
    Calls Try.prog 16 #[.slice p 5 cap, .int .i64 i] w fun e w' => e = .returned (.agg #[.int .i64 x, .int .i64 y]) ∧ Below w.heap.size w w' := by
  have := of_b p cap ex i w hb (by decide) (by simpa [ex_size] using hi)
  rw [h] at this
  exact this
theorem ex_lines (p : Option Addr) (cap : Nat) (w : World) (hb : BSl w p ex) :
    Calls Try.prog 12 #[.slice p 5 cap] w fun e w' => e = .returned (.int .i64 2) ∧ Below w.heap.size w w' := by
  have := lines_b p cap ex w hb (by decide)
  rw [ex5] at this
  exact this

set_option maxHeartbeats 800000 in
theorem awake_any (w : World) :
    Calls Try.prog 14 #[] w fun e w' => e = .returned (.bool true) ∧ Below w.heap.size w w' := by
  have hc := fun (w : World) (C : Array Value) (n c : Nat) => Lib.run_convert_bytes_const (P := Try.prog) w 22 5 C n c Try.underlying22 Try.underlying5
  obtain ⟨w1, hw1⟩ : ∃ w1, w1 = w.alloc (Obj.cells #[Value.int IntKind.u8 97, Value.int IntKind.u8 195, Value.int IntKind.u8 164, Value.int IntKind.u8 10, Value.int IntKind.u8 98] 5 (5, 6)) := ⟨_, rfl⟩
  have hb1 : BSl w1 (some ⟨w.heap.size, 0, none⟩) ex := by
    refine .inr ⟨_, _, rfl, fun i hi => ?_, by rw [hw1]; simp⟩
    have hi' : i < 5 := hi
    have hh : w1.heap[w.heap.size]? = some (Obj.cells #[Value.int IntKind.u8 97, Value.int IntKind.u8 195, Value.int IntKind.u8 164, Value.int IntKind.u8 10, Value.int IntKind.u8 98] 5 (5, 6)) := by rw [hw1]; exact alloc_at rfl _
    rw [cell_of hh]
    match i, hi' with
    | 0, _ => rfl
    | 1, _ => rfl
    | 2, _ => rfl
    | 3, _ => rfl
    | 4, _ => rfl
  have h0 : Hid (Below w.heap.size w w1) := by rw [hw1]; exact (Below.refl _ _).alloc (Nat.le_refl _) _
  have HW := Lib.hid hw1
  have HB := Lib.hid hb1
  clear hb1 hw1
  go_enter Try.func14, Try.ntmps14
  go_wp2_with fail
  rw [← HW.out]
  refine (ex_of 1 1 2 ex1 (by decide) _ _ _ HB.out).mono ?_
  rintro e w2 ⟨rfl, hb2⟩
  have HB2 : Hid (BSl w2 (some ⟨w.heap.size, 0, none⟩) ex) := HB.out.below hb2
  have h2 : Hid (Below w.heap.size w w2) := h0.out.trans (hb2.mono h0.out.size)
  clear hb2
  go_wp2_with fail
  refine (ex_of 3 1 3 ex3 (by decide) _ _ _ HB2.out).mono ?_
  rintro e w3 ⟨rfl, hb3⟩
  have HB3 : Hid (BSl w3 (some ⟨w.heap.size, 0, none⟩) ex) := HB2.out.below hb3
  have h3 : Hid (Below w.heap.size w w3) := h2.out.trans (hb3.mono h2.out.size)
  clear hb3
  go_wp2_with fail
  refine (ex_of 4 2 1 ex4 (by decide) _ _ _ HB3.out).mono ?_
  rintro e w4 ⟨rfl, hb4⟩
  have HB4 : Hid (BSl w4 (some ⟨w.heap.size, 0, none⟩) ex) := HB3.out.below hb4
  have h4 : Hid (Below w.heap.size w w4) := h3.out.trans (hb4.mono h3.out.size)
  clear hb4
  go_wp2_with fail
  refine (ex_lines _ _ _ HB4.out).mono ?_
  rintro e w5 ⟨rfl, hb5⟩
  have h5 : Hid (Below w.heap.size w w5) := h4.out.trans (hb5.mono h4.out.size)
  clear hb5
  go_wp2_with fail
  go_ret
  exact ⟨rfl, h5.out⟩

end Go.Proofs.Ytiifakdpacicjaa
