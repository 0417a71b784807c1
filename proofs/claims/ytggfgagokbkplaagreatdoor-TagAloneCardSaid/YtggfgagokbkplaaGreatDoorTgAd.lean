import Derived.Test.YtggfgagokbkplaaGreatDoorTgAc
namespace Go.Proofs.YtggfgagokbkplaaGreatDoor
open Go.RowKit Go.Shelf
set_option linter.unusedSimpArgs false
set_option linter.unusedVariables false
set_option linter.unusedSectionVars false

/-! Layer 5: TagAlone. -/
theorem leaf_at (s : ByteArray) (w : World) : ExAt w (fun _ => False) (.node nilB s []) [.string nilB, .string s, .slice none 0 0] := by
  simp only [ExAt]
  exact ⟨none, 0, rfl, .inl trivial⟩
theorem leaf_ok (s : ByteArray) (h : s.size ≤ 1000) : (Ex.node nilB s []).ok := by
  refine ⟨by simp [Ex.size, Ex.sizes], ?_⟩
  simp only [Ex.fits, Ex.fitsL]
  exact ⟨by decide, by omega, trivial⟩
/-- What Read gives, at the least. -/
theorem Read_any (s : ByteArray) (w : World) (h : s.size ≤ 1000) : Calls Tryz.prog 12 #[.string s] w fun e w' => (∃ (yo yt : ByteArray) (ya : Option Addr) (yn yc : Nat) (n : Int), e = .returned (.tuple #[.agg #[.string yo, .string yt, .slice ya yn yc], .int .i64 n])) ∧ Below w.heap.size w w' := by
  have hs : s.data.toList.length = s.size := rfl
  have := Read_v s.data.toList w (by omega)
  rw [← bs_of] at this
  refine this.mono ?_
  rintro e w' ⟨hb, hv⟩
  refine ⟨?_, hb⟩
  cases hr : readV s.data.toList with
  | none => rw [hr] at hv; exact ⟨_, _, _, _, _, _, hv⟩
  | some x =>
    rw [hr] at hv
    obtain ⟨vs, rfl, hx⟩ := hv
    obtain ⟨yo, yt, ya, yn, yc, rfl⟩ := hx.shape
    exact ⟨_, _, _, _, _, _, rfl⟩
theorem Read_tag (s : ByteArray) (w : World) (h : s.size ≤ 500) (ht : tagOK s = true) : Calls Tryz.prog 12 #[.string s] w fun e w' => (∃ (ya : Option Addr) (yc : Nat), e = .returned (.tuple #[.agg #[.string ⟨#[]⟩, .string s, .slice ya 0 yc], .int .i64 0])) ∧ Below w.heap.size w w' := by
  have hs : s.data.toList.length = s.size := rfl
  have := Read_v s.data.toList w (by omega)
  rw [← bs_of] at this
  refine this.mono ?_
  rintro e w' ⟨hb, hv⟩
  refine ⟨?_, hb⟩
  have hr : readV s.data.toList = some (.node nilB s []) := by
    unfold readV
    rw [if_neg (by omega), read_tag s ht]
  rw [hr] at hv
  obtain ⟨vs, rfl, hx⟩ := hv
  simp only [ExAt] at hx
  obtain ⟨a, cap, rfl, _⟩ := hx
  exact ⟨a, cap, rfl⟩
theorem Read_no (w : World) : Calls Tryz.prog 12 #[.string ⟨#[]⟩] w fun e w' => e = .returned (.tuple #[.agg #[.string ⟨#[]⟩, .string ⟨#[]⟩, .slice none 0 0], .int .i64 8]) ∧ Below w.heap.size w w' := by
  have := Read_v [] w (by decide)
  rw [show bs [] = (⟨#[]⟩ : ByteArray) from rfl] at this
  refine this.mono ?_
  rintro e w' ⟨hb, hv⟩
  have hr : readV [] = none := read_nil
  rw [hr] at hv
  exact ⟨hv, hb⟩
/-- Two boxes. -/
structure Two (w : World) (b1 b2 : Nat) (x1 y1 z1 x2 y2 z2 : Value) (w' : World) : Prop where
  h1 : w'.heap[b1]? = some (C3 x1 y1 z1)
  h2 : w'.heap[b2]? = some (C3 x2 y2 z2)
  bl : Below w.heap.size w w'
theorem Two.below {w w' w2 : World} {b1 b2 : Nat} {x1 y1 z1 x2 y2 z2 : Value} (h : Two w b1 b2 x1 y1 z1 x2 y2 z2 w') {B : Nat} (hb : Below B w' w2) (hB : w'.heap.size ≤ B) : Two w b1 b2 x1 y1 z1 x2 y2 z2 w2 :=
  ⟨(hb.block _ (Nat.lt_of_lt_of_le (lt_of_block h.h1) hB)).trans h.h1, (hb.block _ (Nat.lt_of_lt_of_le (lt_of_block h.h2) hB)).trans h.h2, h.bl.trans (hb.mono (Nat.le_trans h.bl.size hB))⟩
theorem two_new {w w2 : World} {x1 y1 z1 x2 y2 z2 : Value} (hb2 : Below (w.alloc (C3 x1 y1 z1)).heap.size (w.alloc (C3 x1 y1 z1)) w2) : Two w w.heap.size w2.heap.size x1 y1 z1 x2 y2 z2 (w2.alloc (C3 x2 y2 z2)) := by
  have hs1 : (w.alloc (C3 x1 y1 z1)).heap.size = w.heap.size + 1 := by simp
  have hbA : Below w.heap.size w (w.alloc (C3 x1 y1 z1)) := (Below.refl _ _).alloc (Nat.le_refl _) _
  have hbB : Below w2.heap.size w2 (w2.alloc (C3 x2 y2 z2)) := (Below.refl _ _).alloc (Nat.le_refl _) _
  have hn := (hb2.block w.heap.size (by omega)).trans (heap_alloc_new w (C3 x1 y1 z1))
  have h2 := hb2.size
  exact ⟨(hbB.block _ (lt_of_block hn)).trans hn, heap_alloc_new w2 _, (hbA.trans (hb2.mono (by omega))).trans (hbB.mono (by omega))⟩
theorem Two.next {w w' w3 : World} {b1 b2 : Nat} {x1 y1 z1 x2 y2 z2 : Value} (h : Two w b1 b2 x1 y1 z1 x2 y2 z2 w') (hb : Below w'.heap.size w' w3) (o : Obj) : Two w b1 b2 x1 y1 z1 x2 y2 z2 (w3.alloc o) :=
  (h.below hb (Nat.le_refl _)).below ((Below.refl w3.heap.size w3).alloc (Nat.le_refl _) o) (Nat.le_refl _)
set_option maxHeartbeats 1600000 in
theorem alone_no (s : ByteArray) (w : World) (hE : EnvV w) (hs : s.size ≤ 100) (ht : tagOK s = false) :
    Calls Tryz.prog 10 #[.string s] w fun e w' => e = .returned (.bool true) ∧ Below w.heap.size w w' := by
  have h8 := hE.2.2.2
  have hle : (s.size : Int) ≤ 100 := by omega
  have HR1 := Lib.hid (fun w1 => Read_any s w1 (by omega))
  have HR0 := Lib.hid Read_no
  have HRT : Hid (∀ w1, Calls Tryz.prog 19 #[.agg #[.string ⟨#[]⟩, .string s, .slice none 0 0]] w1 fun e w' => e = .returned (.bool false) ∧ Below w1.heap.size w1 w') := Lib.hid (fun w1 => by
    have := Right_v _ _ _ w1 (leaf_at s w1) (leaf_ok s (by omega))
    rw [right_tag, ht] at this
    exact this)
  have HWT : Hid (∀ w1, Calls Tryz.prog 22 #[.agg #[.string ⟨#[]⟩, .string s, .slice none 0 0]] w1 fun e w' => e = .returned (.string ⟨#[]⟩) ∧ Below w1.heap.size w1 w') := Lib.hid (fun w1 => by
    have := Write_v _ _ _ w1 (leaf_at s w1) (leaf_ok s (by omega))
    rw [WriteF, right_tag, ht, if_neg (by decide)] at this
    exact this)
  have HAW := Lib.hid (fun w1 (hb : Below w.heap.size w w1) => awake_v w1 (hE.below hb h8))
  clear hE
  go_enter Tryz.func10, Tryz.ntmps10
  go_wp2_with (first
    | (go_at_call 12; (with_reducible refine Calls.mono (HR1.out _) ?_); rintro e w2 ⟨⟨yo, yt, ya, yn, yc, n, rfl⟩, hb2⟩; have TW := Lib.hid (two_new (x2 := .string yo) (y2 := .string yt) (z2 := .slice ya yn yc) hb2); clear hb2)
    | (go_at_call 12; (with_reducible refine Calls.mono (HR0.out _) ?_); rintro e w4 ⟨rfl, hb4⟩; have htw := TW.out.next hb4 (C3 (.string ⟨#[]⟩) (.string ⟨#[]⟩) (.slice none 0 0)); have TV := Lib.hid htw; have c0 := cell_of htw.h1 0; have c1 := cell_of htw.h1 1; have c2 := cell_of htw.h1 2; clear hb4 htw)
    | (go_at_call 19; (with_reducible refine Calls.mono (HRT.out _) ?_); rintro e w5 ⟨rfl, hb5⟩; have htw := TV.out.below hb5 (Nat.le_refl _); have TV5 := Lib.hid htw; have d0 := cell_of htw.h1 0; have d1 := cell_of htw.h1 1; have d2 := cell_of htw.h1 2; clear hb5 htw)
    | (go_at_call 22; (with_reducible refine Calls.mono (HWT.out _) ?_); rintro e w6 ⟨rfl, hb6⟩; have htw := TV5.out.below hb6 (Nat.le_refl _); have TV6 := Lib.hid htw; clear hb6 htw)
    | (go_at_call 15; (with_reducible refine Calls.mono (HAW.out _ TV6.out.bl) ?_); rintro e w7 ⟨rfl, hb7⟩; have HB7 := Lib.hid (TV6.out.bl.trans (hb7.mono TV6.out.bl.size)); clear hb7))
  go_ret
  exact ⟨by first | rfl | simp, HB7.out⟩
end Go.Proofs.YtggfgagokbkplaaGreatDoor
