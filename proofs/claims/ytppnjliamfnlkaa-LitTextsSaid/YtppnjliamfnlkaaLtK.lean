import Derived.Test.YtppnjliamfnlkaaLtH
namespace Go.Proofs.Ytppnjliamfnlkaa
open Go.RowKit
set_option linter.unusedSimpArgs false
set_option linter.unusedVariables false
set_option linter.unusedSectionVars false

/-! Layer 3: reckon. -/
def reckF (t : ByteArray) (base : Nat) : Nat → Nat → Nat → Option Nat
  | 0, _, _ => none
  | f + 1, pos, v => if pos < t.size then (if digitW (Utf8.decode t pos).1 < base then reckF t base f (pos + (Utf8.decode t pos).2) (v * base + digitW (Utf8.decode t pos).1) else none) else some v
/-- What the first n digits are worth; none: there are not so many. -/
def reckR (s : ByteArray) (n base : Nat) : Option Nat := if s.size < n then none else reckF (s.extract 0 n) base (n + 1) 0 0
def RecP : Option Nat → Ending → Prop
  | some v, e => e = .returned (.int .u32 v)
  | none, e => e = .panicked [{ v := .iface 22 (.int .i64 4), recovered := false }]

theorem step_lt {v base pos d : Nat} (h : v < base ^ pos) (hd : d < base) : v * base + d < base ^ (pos + 1) := by
  rw [Nat.pow_succ]
  have := Nat.mul_le_mul_right base (show v + 1 ≤ base ^ pos by omega)
  rw [Nat.add_mul] at this
  omega

set_option maxHeartbeats 3200000 in
theorem reckon_in (s : ByteArray) (n base : Nat) (w : World) (hs : n ≤ s.size) (hs2 : s.size ≤ 100000000) (hb2 : 2 ≤ base) (hb : base ≤ 16) (hp : base ^ n ≤ 4294967296) :
    Calls Try.prog 64 #[.string s, .int .i64 n, .int .u32 base] w fun e w' => RecP (reckF (s.extract 0 n) base (n + 1) 0 0) e ∧ Below w.heap.size w w' := by
  have hd : decide ((n : Int) ≤ (s.size : Int)) = true := by simp; omega
  have hts : (s.extract 0 n).size = n := by simp; omega
  obtain ⟨t, ht⟩ : ∃ t, s.extract 0 n = t := ⟨_, rfl⟩
  generalize hX : reckF (s.extract 0 n) base (n + 1) 0 0 = X
  have HX := Lib.hid hX
  clear hX
  go_enter Try.func64, Try.ntmps64
  go_wp2_with (first | (go_at_call 19; with_reducible refine Calls.mono (need_yes _ _) ?_; rintro e w2 ⟨rfl, hw2⟩; replace hw2 := hw2.symm; subst hw2))
  rw [ht] at HX hts
  go_loopw [6] (fun v wr => ∃ (f pos x : Nat), v = .int .u32 x ∧ t.size < f + pos ∧ pos ≤ t.size ∧ X = reckF t base f pos x ∧ x < base ^ pos ∧ Below w.heap.size w wr ∧ wr.heap[w.heap.size]? = some (.stringIter t pos)) (fun _ wr => t.size - wr.iterPos w.heap.size)
  case atStart => exact ⟨n + 1, 0, 0, rfl, by omega, by omega, HX.out.symm, by simp, (Below.refl _ _).alloc (Nat.le_refl _) _, iter_at rfl _ _⟩
  case round =>
    obtain ⟨f, pos, x, rfl, hf, hpos, he, hx, hbl, hi⟩ := hrel
    obtain ⟨f, rfl⟩ : ∃ g, f = g + 1 := ⟨f - 1, by omega⟩
    have HE := Lib.hid he
    have HBL := Lib.hid hbl
    have HI := Lib.hid hi
    clear he hbl
    by_cases hlt : pos < t.size
    · have hn := Lib.run_next_any_at (P := Try.prog) wr w.heap.size t pos 0 hi hlt
      have hst : reckF t base (f + 1) pos x = (if digitW (Utf8.decode t pos).1 < base then reckF t base f (pos + (Utf8.decode t pos).2) (x * base + digitW (Utf8.decode t pos).1) else none) := by rw [reckF, if_pos hlt]
      obtain ⟨n1, n2⟩ := dec_width t pos hlt
      have n3 := dec_max t pos hlt
      generalize hw1 : wr.iterAt w.heap.size t (pos + (Utf8.decode t pos).2) = w1 at hn
      have HB1 : Hid (Below w.heap.size w w1) := by rw [← hw1]; exact Lib.below_iterAt HBL.out (Nat.le_refl _) _ _
      have HI1 : Hid (w1.heap[w.heap.size]? = some (.stringIter t (pos + (Utf8.decode t pos).2))) := by rw [← hw1]; exact Lib.iterAt_heap _ _ _ _ _ hi
      clear hw1 hi
      generalize Utf8.decode t pos = d at *
      obtain ⟨r, m⟩ := d
      simp only at n1 n2 n3 hn hst HI1
      by_cases c2 : digitW r < base
      · have hdg := digit_yes r base n3 hb c2 w1
        have hlt2 := step_lt hx c2
        have hle1 : base ^ (pos + 1) ≤ base ^ n := Nat.pow_le_pow_right (by omega) (by omega)
        have hle2 : base ^ (pos + 1) ≤ base ^ (pos + m) := Nat.pow_le_pow_right (by omega) (by omega)
        have HN : Hid (X = reckF t base f (pos + m) (x * base + digitW r)) := Lib.hid (by rw [HE.out, hst, if_pos c2])
        have HP : Hid (x * base + digitW r < base ^ (pos + m)) := Lib.hid (by omega)
        have hmx : x * base + digitW r < 4294967296 := by omega
        clear hst hle1 hle2 hlt2 hx hp
        generalize digitW r = dw at *
        obtain ⟨y, hy⟩ : ∃ y, x * base = y := ⟨_, rfl⟩
        have hyI : (x : Int) * (base : Int) = (y : Int) := by rw [← hy, Int.natCast_mul]
        rw [hy] at HN HP hmx
        clear hy
        go_wp2_with (first
          | (go_at_call 30; with_reducible refine Calls.mono hdg ?_; rintro e w2 ⟨rfl, hw2⟩; replace hw2 := hw2.symm; subst hw2; clear hdg))
        go_roundw
        case rel => exact ⟨f, pos + m, y + dw, by go_num, by omega, by omega, HN.out, HP.out, HB1.out, HI1.out⟩
        case measure => rw [iterPos_of HI.out, iterPos_of HI1.out]; omega
      · have HN : Hid (X = none) := Lib.hid (by rw [HE.out, hst, if_neg c2])
        have hdg := digit_no r base n3 hb c2 w1
        unfold thrown at hdg
        clear hst hp hx
        go_wp2_with (first
          | (go_at_call 30; with_reducible refine Calls.mono hdg ?_; rintro e w2 ⟨rfl, hw2⟩; replace hw2 := hw2.symm; subst hw2; clear hdg))
        refine ⟨rfl, ?_, HB1.out⟩
        rw [HN.out]; rfl
    · have hn := Lib.run_next_end_at (P := Try.prog) wr w.heap.size t pos 0 hi hlt
      have HN : Hid (X = some x) := Lib.hid (by rw [HE.out, reckF, if_neg hlt])
      clear hi hp hx
      go_wp2_with fail
      go_ret
      refine ⟨?_, HBL.out⟩
      rw [HN.out]; rfl

set_option maxHeartbeats 800000 in
theorem reckon_any (s : ByteArray) (n base : Nat) (w : World) (hs2 : s.size ≤ 100000000) (hn : n ≤ 100) (hb2 : 2 ≤ base) (hb : base ≤ 16) (hp : base ^ n ≤ 4294967296) :
    Calls Try.prog 64 #[.string s, .int .i64 n, .int .u32 base] w fun e w' => RecP (reckR s n base) e ∧ Below w.heap.size w w' := by
  by_cases h : s.size < n
  · rw [reckR, if_pos h]
    have hd : decide (n ≤ s.size) = false := by simp; omega
    clear hp
    go_enter Try.func64, Try.ntmps64
    go_wp2_with (first | (go_at_call 19; with_reducible refine Calls.mono (need_no _ _) ?_; rintro e w2 ⟨rfl, hw2⟩; replace hw2 := hw2.symm; subst hw2))
    exact ⟨rfl, rfl, Below.refl _ _⟩
  · rw [reckR, if_neg h]
    exact reckon_in s n base w (by omega) hs2 hb2 hb hp
end Go.Proofs.Ytppnjliamfnlkaa
