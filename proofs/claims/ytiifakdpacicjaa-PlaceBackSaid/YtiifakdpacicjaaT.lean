import Derived.Test.YtiifakdpacicjaaR
import Derived.Test.YtiifakdpacicjaaS
namespace Go.Proofs.Ytiifakdpacicjaa
open Go.RowKit

theorem bsl_inv {w : World} {p : Option Addr} {s : ByteArray} {cs : List (Nat × Nat × Value)} (h : BSl w p s) (i : Wld (InvC w cs)) : BSl i.w p s := h.below i.ok.1

theorem of_p (p : Option Addr) (cap : Nat) (s : ByteArray) (at_ : Nat) (w : World) (hb : BSl w p s) (hs : s.size ≤ 4611686018427387904) (ha : at_ ≤ s.size) :
    Calls Try.prog 16 #[.slice p s.size cap, .int .i64 at_] w fun e w' => e = .returned (.agg #[.int .i64 (placeR s at_).1, .int .i64 (placeR s at_).2]) ∧ Below w.heap.size w w' :=
  of_r p cap s at_ w hb hs ha
theorem lines_p (p : Option Addr) (cap : Nat) (s : ByteArray) (w : World) (hb : BSl w p s) (hs : s.size ≤ 4611686018427387904) :
    Calls Try.prog 12 #[.slice p s.size cap] w fun e w' => e = .returned (.int .i64 (linesN s)) ∧ Below w.heap.size w w' := by
  rw [← lines_eq s]; exact lines_b p cap s w hb hs

set_option maxHeartbeats 1600000 in
theorem placeRises_walk (p : Option Addr) (cap : Nat) (s : ByteArray) (i j : Nat) (hi : i < 65536) (hj : j < 65536) (w : World) (hb : BSl w p s) :
    Calls Try.prog 6 #[.slice p s.size cap, .int .u16 i, .int .u16 j] w fun e w' => e = .returned (.bool true) ∧ Below w.heap.size w w' := by
  by_cases hl : 300 < s.size
  · have hl' : (300 : Int) < s.size := by omega
    clear hl
    go_enter Try.func6, Try.ntmps6
    go_wp2_with fail
    go_ret
    exact ⟨rfl, Below.refl _ _⟩
  have hl' : ¬ (300 : Int) < s.size := by omega
  have HB := Lib.hid hb; clear hb
  have hne : Nonempty (Wld (InvC w [])) := ⟨⟨_, InvC.start (Below.refl _ _) (by simp)⟩⟩
  go_enter Try.func6, Try.ntmps6
  go_wp2_with fail
  refine wp_region_inv (InvC w []) (by kernel_rfl) (by kernel_rfl) (InvC.start (Below.refl _ _) (by simp)) ?_
  have hi0 : (0 : Int) ≤ i := by omega
  have hi1 : (i : Int) ≤ 65535 := by omega
  have hj0 : (0 : Int) ≤ j := by omega
  have hj1 : (j : Int) ≤ 65535 := by omega
  repeat (go_big_quiet_step (fail))
  refine wpQuiet_nil ?_
  intro w1 hw1
  have HI1 : Hid (InvC w [] w1) := by obtain ⟨i, rfl⟩ := hw1; exact i.ok
  clear hw1
  go_wp2_with fail
  generalize hX : (i : Int) % ((s.size : Int) + 1) = X
  generalize hY : (j : Int) % ((s.size : Int) + 1) = Y
  have hx0 : 0 ≤ X := by rw [← hX]; exact Int.emod_nonneg _ (by omega)
  have hx1 : X ≤ s.size := by have := Int.emod_lt_of_pos (i : Int) (show (0 : Int) < (s.size : Int) + 1 by omega); omega
  have hy0 : 0 ≤ Y := by rw [← hY]; exact Int.emod_nonneg _ (by omega)
  have hy1 : Y ≤ s.size := by have := Int.emod_lt_of_pos (j : Int) (show (0 : Int) < (s.size : Int) + 1 by omega); omega
  clear hX hY
  obtain ⟨x, rfl⟩ := Int.eq_ofNat_of_zero_le hx0
  obtain ⟨y, rfl⟩ := Int.eq_ofNat_of_zero_le hy0
  have hx : x ≤ s.size := by omega
  have hy : y ≤ s.size := by omega
  rw [show min (x : Int) (y : Int) = ((min x y : Nat) : Int) by omega]
  refine (of_p p cap s (min x y) w1 (HB.out.below HI1.out.1) (by omega) (by omega)).mono ?_
  rintro e w2 ⟨rfl, hb2⟩
  have HI2 : Hid (InvC w [] w2) := HI1.out.step hb2
  clear hb2
  go_wp2_with fail
  rw [show max (x : Int) (y : Int) = ((max x y : Nat) : Int) by omega]
  refine (of_p p cap s (max x y) w2 (HB.out.below HI2.out.1) (by omega) (by omega)).mono ?_
  rintro e w3 ⟨rfl, hb3⟩
  have HI3 : Hid (InvC w [] w3) := HI2.out.step hb3
  clear hb3
  have hP := placeR_mono s (show min x y ≤ max x y by omega)
  have hp := placeR_pos s (min x y)
  have hq := placeR_lines s (show max x y ≤ s.size by omega)
  generalize placeR s (min x y) = P at hP hp ⊢
  generalize placeR s (max x y) = Q at hP hq ⊢
  obtain ⟨pl, pc⟩ := P
  obtain ⟨ql, qc⟩ := Q
  simp only [le2] at hP hp hq
  clear hx0 hx1 hy0 hy1 hi0 hi1 hj0 hj1 hx hy
  have hb3 : Below w.heap.size w ((w3.alloc (.cells #[.int .i64 pl, .int .i64 pc] 29)).alloc (.cells #[.int .i64 ql, .int .i64 qc] 29)) :=
    (HI3.out.1.alloc HI3.out.1.size _).alloc (by have := HI3.out.1.size; simp; omega) _
  obtain ⟨cs, hcs⟩ : ∃ cs : List (Nat × Nat × Value), cs = [(w3.heap.size, 0, .int .i64 pl), (w3.heap.size, 1, .int .i64 pc), (w3.heap.size + 1, 0, .int .i64 ql), (w3.heap.size + 1, 1, .int .i64 qc)] := ⟨_, rfl⟩
  have c0 : ∀ i : Wld (InvC w cs), i.w.cell? ⟨w3.heap.size, 0, none⟩ = some (.int .i64 pl) := fun i => InvC.cell i (by rw [hcs]; simp)
  have c1 : ∀ i : Wld (InvC w cs), i.w.cell? ⟨w3.heap.size, 1, none⟩ = some (.int .i64 pc) := fun i => InvC.cell i (by rw [hcs]; simp)
  have c2 : ∀ i : Wld (InvC w cs), i.w.cell? ⟨w3.heap.size + 1, 0, none⟩ = some (.int .i64 ql) := fun i => InvC.cell i (by rw [hcs]; simp)
  have c3 : ∀ i : Wld (InvC w cs), i.w.cell? ⟨w3.heap.size + 1, 1, none⟩ = some (.int .i64 qc) := fun i => InvC.cell i (by rw [hcs]; simp)
  have hI0 : Hid (InvC w cs ((w3.alloc (.cells #[.int .i64 pl, .int .i64 pc] 29)).alloc (.cells #[.int .i64 ql, .int .i64 qc] 29)).drew) := by
    refine InvC.start hb3 ?_
    rw [hcs]; simp [go_sem]
  clear hcs hb3
  have hne2 : Nonempty (Wld (InvC w cs)) := ⟨⟨_, hI0.out⟩⟩
  have d1 : decide (ql ≤ linesN s) = true := by simp; omega
  have d2 : decide ((1 : Int) ≤ (pl : Int)) = true := by simp; omega
  have d3 : decide ((1 : Int) ≤ (pc : Int)) = true := by simp; omega
  rcases hP with hP | ⟨hP, hP2⟩
  · have d4 : decide (pl < ql) = true := by simp; omega
    clear hP hp hq
    go_wp2_with fail
    refine wp_region_inv (InvC w cs) (by kernel_rfl) (by kernel_rfl) hI0.out ?_
    repeat (go_big_quiet_step (first
      | (go_at_call 12; exact Calls.inv (lines_p p cap s _ (bsl_inv HB.out _) (by omega)))
      | (go_at_call 14; exact Calls.inv (awake_any _))))
    refine wpQuiet_nil ?_
    intro w4 hw4
    have HI4 : Hid (InvC w cs w4) := by obtain ⟨i, rfl⟩ := hw4; exact i.ok
    clear hw4 c0 c1 c2 c3
    go_wp2_with fail
    go_ret
    exact ⟨rfl, HI4.out.1⟩
  · obtain rfl : pl = ql := hP
    have d6 : decide (pc ≤ qc) = true := by simp; omega
    clear hP2 hp hq
    go_wp2_with fail
    refine wp_region_inv (InvC w cs) (by kernel_rfl) (by kernel_rfl) hI0.out ?_
    repeat (go_big_quiet_step (first
      | (go_at_call 12; exact Calls.inv (lines_p p cap s _ (bsl_inv HB.out _) (by omega)))
      | (go_at_call 14; exact Calls.inv (awake_any _))))
    refine wpQuiet_nil ?_
    intro w4 hw4
    have HI4 : Hid (InvC w cs w4) := by obtain ⟨i, rfl⟩ := hw4; exact i.ok
    clear hw4 c0 c1 c2 c3
    go_wp2_with fail
    go_ret
    exact ⟨rfl, HI4.out.1⟩
end Go.Proofs.Ytiifakdpacicjaa
