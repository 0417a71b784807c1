import Derived.Test.YtiifakdpacicjaaQ
import Derived.Test.YtiifakdpacicjaaReg
namespace Go.Proofs.Ytiifakdpacicjaa
open Go.RowKit

theorem atz (s : ByteArray) : ∀ (f i l c : Nat), 1 ≤ l → eachF s (atStep 0 0) f (-1) i l c = -1 := by
  intro f
  induction f with
  | zero => intro i l c h; rfl
  | succ f ih =>
    intro i l c h
    by_cases hlt : i < s.size
    · rw [eachF_go hlt (st2 := -1) (by unfold atStep; rw [if_neg (by omega)])]
      exact ih _ _ _ (by split <;> omega)
    · rw [eachF_end hlt]; unfold atStep; rw [if_neg (by omega)]
theorem at_zero (s : ByteArray) : atF s 0 0 = -1 := atz s _ _ _ _ (by omega)

set_option maxHeartbeats 1600000 in
theorem placeEnds_walk (p : Option Addr) (cap : Nat) (s : ByteArray) (n : Int) (w : World) (hb : BSl w p s) :
    Calls Try.prog 9 #[.slice p s.size cap, .int .i64 n] w fun e w' => e = .returned (.bool true) ∧ Below w.heap.size w w' := by
  by_cases hl : 300 < s.size
  · have hl' : (300 : Int) < s.size := by omega
    clear hl
    go_enter Try.func9, Try.ntmps9
    go_wp2_with fail
    go_ret
    exact ⟨rfl, Below.refl _ _⟩
  have hl' : ¬ (300 : Int) < s.size := by omega
  have HB := Lib.hid hb; clear hb
  obtain ⟨cs, hcs⟩ : ∃ cs : List (Nat × Nat × Value), cs = [(w.heap.size, 0, .int .i64 0), (w.heap.size, 1, .int .i64 0)] := ⟨_, rfl⟩
  have c0 : ∀ i : Wld (InvC w cs), i.w.cell? ⟨w.heap.size, 0, none⟩ = some (.int .i64 0) := fun i => InvC.cell i (by rw [hcs]; simp)
  have c1 : ∀ i : Wld (InvC w cs), i.w.cell? ⟨w.heap.size, 1, none⟩ = some (.int .i64 0) := fun i => InvC.cell i (by rw [hcs]; simp)
  have hI0 : Hid (InvC w cs (w.alloc (.cells #[.int .i64 0, .int .i64 0] 29)).drew) := by
    refine InvC.start ((Below.refl _ _).alloc (Nat.le_refl _) _) ?_
    rw [hcs]; simp
  have HCS := Lib.hid hcs
  clear hcs
  have hne : Nonempty (Wld (InvC w cs)) := ⟨⟨_, hI0.out⟩⟩
  have hcase : n < 0 ∨ (¬ n < 0 ∧ (s.size : Int) < n) ∨ (¬ n < 0 ∧ ¬ (s.size : Int) < n) := by omega
  have hm0 : Hid ((w.heap.size, 0, .int .i64 0) ∈ cs ∧ (w.heap.size, 1, .int .i64 0) ∈ cs) := by show _ ∧ _; rw [HCS.out]; simp
  have HL := Lib.hid (lines_eq s)
  have HZ := Lib.hid (at_zero s)
  have HO : Hid (ofR s 0 (s.size + 1) 0 1 1 = (1, 1)) := by show _ = _; rw [ofR, if_neg (by omega)]
  rcases hcase with ha | ⟨ha, hb⟩ | ⟨ha, hb⟩
  · have hd : decide (n < 0) = true := by simp [ha]
    go_enter Try.func9, Try.ntmps9
    go_wp2_with fail
    refine wp_region_inv (InvC w cs) (by kernel_rfl) (by kernel_rfl) hI0.out ?_
    repeat (quiet_step ((go_at_call 16; exact Calls.inv (of_no p cap s.size n _ (by omega)))))
    refine wpQuiet_nil ?_
    intro w1 hw1
    have HI1 : Hid (InvC w cs w1) := by obtain ⟨i, rfl⟩ := hw1; exact i.ok
    clear hw1 c0 c1
    have HB1 : Hid (BSl w1 p s) := HB.out.below HI1.out.1
    go_wp2_with fail
    refine (of_b p cap s s.size w1 HB1.out (by omega) (Nat.le_refl _)).mono ?_
    rintro e w2 ⟨rfl, hb2⟩
    rw [HL.out]
    have HI2 : Hid (InvC w cs w2) := HI1.out.step hb2
    have HB2 : Hid (BSl w2 p s) := HB1.out.below hb2
    clear hb2
    have hf := fun w => field0 (linesN s) (ofF s s.size).2 w
    go_wp2_with fail
    refine (lines_b p cap s w2 HB2.out (by omega)).mono ?_
    rintro e w3 ⟨rfl, hb3⟩
    rw [HL.out]
    have HI3 : Hid (InvC w cs w3) := HI2.out.step hb3
    have HB3 : Hid (BSl w3 p s) := HB2.out.below hb3
    clear hb3
    go_wp2_with fail
    refine (of_r p cap s 0 w3 HB3.out (by omega) (by omega)).mono ?_
    rintro e w4 ⟨rfl, hb4⟩
    rw [HO.out]
    have HI4 : Hid (InvC w cs w4) := HI3.out.step hb4
    have HB4 : Hid (BSl w4 p s) := HB3.out.below hb4
    clear hb4
    have q0 := HI4.out.held hm0.out.1
    have q1 := HI4.out.held hm0.out.2
    go_wp2_with fail
    refine (at_b p cap s 0 0 w4 HB4.out (by omega)).mono ?_
    rintro e w5 ⟨rfl, hb5⟩
    rw [HZ.out]
    have HI5 : Hid (InvC w cs w5) := HI4.out.step hb5
    clear hb5 q0 q1
    go_wp2_with fail
    refine (awake_any w5).mono ?_
    rintro e w6 ⟨rfl, hb6⟩
    have HI6 : Hid (InvC w cs w6) := HI5.out.step hb6
    clear hb6
    go_wp2_with fail
    go_ret
    exact ⟨rfl, HI6.out.1⟩
  · have hd : decide (n < 0) = false := by simp; omega
    have hd2 : decide ((s.size : Int) < n) = true := by simp [hb]
    go_enter Try.func9, Try.ntmps9
    go_wp2_with fail
    refine wp_region_inv (InvC w cs) (by kernel_rfl) (by kernel_rfl) hI0.out ?_
    repeat (quiet_step ((go_at_call 16; exact Calls.inv (of_no p cap s.size n _ (by omega)))))
    refine wpQuiet_nil ?_
    intro w1 hw1
    have HI1 : Hid (InvC w cs w1) := by obtain ⟨i, rfl⟩ := hw1; exact i.ok
    clear hw1 c0 c1
    have HB1 : Hid (BSl w1 p s) := HB.out.below HI1.out.1
    go_wp2_with fail
    refine (of_b p cap s s.size w1 HB1.out (by omega) (Nat.le_refl _)).mono ?_
    rintro e w2 ⟨rfl, hb2⟩
    rw [HL.out]
    have HI2 : Hid (InvC w cs w2) := HI1.out.step hb2
    have HB2 : Hid (BSl w2 p s) := HB1.out.below hb2
    clear hb2
    have hf := fun w => field0 (linesN s) (ofF s s.size).2 w
    go_wp2_with fail
    refine (lines_b p cap s w2 HB2.out (by omega)).mono ?_
    rintro e w3 ⟨rfl, hb3⟩
    rw [HL.out]
    have HI3 : Hid (InvC w cs w3) := HI2.out.step hb3
    have HB3 : Hid (BSl w3 p s) := HB2.out.below hb3
    clear hb3
    go_wp2_with fail
    refine (of_r p cap s 0 w3 HB3.out (by omega) (by omega)).mono ?_
    rintro e w4 ⟨rfl, hb4⟩
    rw [HO.out]
    have HI4 : Hid (InvC w cs w4) := HI3.out.step hb4
    have HB4 : Hid (BSl w4 p s) := HB3.out.below hb4
    clear hb4
    have q0 := HI4.out.held hm0.out.1
    have q1 := HI4.out.held hm0.out.2
    go_wp2_with fail
    refine (at_b p cap s 0 0 w4 HB4.out (by omega)).mono ?_
    rintro e w5 ⟨rfl, hb5⟩
    rw [HZ.out]
    have HI5 : Hid (InvC w cs w5) := HI4.out.step hb5
    clear hb5 q0 q1
    go_wp2_with fail
    refine (awake_any w5).mono ?_
    rintro e w6 ⟨rfl, hb6⟩
    have HI6 : Hid (InvC w cs w6) := HI5.out.step hb6
    clear hb6
    go_wp2_with fail
    go_ret
    exact ⟨rfl, HI6.out.1⟩
  · have hd : decide (n < 0) = false := by simp; omega
    have hd2 : decide ((s.size : Int) < n) = false := by simp; omega
    go_enter Try.func9, Try.ntmps9
    go_wp2_with fail
    refine wp_region_inv (InvC w cs) (by kernel_rfl) (by kernel_rfl) hI0.out ?_
    repeat (quiet_step ((go_at_call 16; exact Calls.inv (of_no p cap s.size n _ (by omega)))))
    refine wpQuiet_nil ?_
    intro w1 hw1
    have HI1 : Hid (InvC w cs w1) := by obtain ⟨i, rfl⟩ := hw1; exact i.ok
    clear hw1 c0 c1
    have HB1 : Hid (BSl w1 p s) := HB.out.below HI1.out.1
    go_wp2_with fail
    refine (of_b p cap s s.size w1 HB1.out (by omega) (Nat.le_refl _)).mono ?_
    rintro e w2 ⟨rfl, hb2⟩
    rw [HL.out]
    have HI2 : Hid (InvC w cs w2) := HI1.out.step hb2
    have HB2 : Hid (BSl w2 p s) := HB1.out.below hb2
    clear hb2
    have hf := fun w => field0 (linesN s) (ofF s s.size).2 w
    go_wp2_with fail
    refine (lines_b p cap s w2 HB2.out (by omega)).mono ?_
    rintro e w3 ⟨rfl, hb3⟩
    rw [HL.out]
    have HI3 : Hid (InvC w cs w3) := HI2.out.step hb3
    have HB3 : Hid (BSl w3 p s) := HB2.out.below hb3
    clear hb3
    go_wp2_with fail
    refine (of_r p cap s 0 w3 HB3.out (by omega) (by omega)).mono ?_
    rintro e w4 ⟨rfl, hb4⟩
    rw [HO.out]
    have HI4 : Hid (InvC w cs w4) := HI3.out.step hb4
    have HB4 : Hid (BSl w4 p s) := HB3.out.below hb4
    clear hb4
    have q0 := HI4.out.held hm0.out.1
    have q1 := HI4.out.held hm0.out.2
    go_wp2_with fail
    refine (at_b p cap s 0 0 w4 HB4.out (by omega)).mono ?_
    rintro e w5 ⟨rfl, hb5⟩
    rw [HZ.out]
    have HI5 : Hid (InvC w cs w5) := HI4.out.step hb5
    clear hb5 q0 q1
    go_wp2_with fail
    refine (awake_any w5).mono ?_
    rintro e w6 ⟨rfl, hb6⟩
    have HI6 : Hid (InvC w cs w6) := HI5.out.step hb6
    clear hb6
    go_wp2_with fail
    go_ret
    exact ⟨rfl, HI6.out.1⟩
end Go.Proofs.Ytiifakdpacicjaa
