import Derived.Test.YtiifakdpacicjaaT
namespace Go.Proofs.Ytiifakdpacicjaa
open Go.RowKit

theorem at_p (p : Option Addr) (cap : Nat) (s : ByteArray) (n : Nat) (w : World) (hb : BSl w p s) (hs : s.size ≤ 4611686018427387904) (hn : n ≤ s.size) (hr : Reach s 0 n) :
    Calls Try.prog 17 #[.slice p s.size cap, .agg #[.int .i64 (placeR s n).1, .int .i64 (placeR s n).2]] w fun e w' => e = .returned (.int .i64 n) ∧ Below w.heap.size w w' := by
  rw [← at_back s n hn hr]; exact at_b p cap s _ _ w hb hs

set_option maxHeartbeats 1600000 in
theorem placeBack_walk (p : Option Addr) (cap : Nat) (s : ByteArray) (pl pc : Int) (w : World) (hb : BSl w p s) :
    Calls Try.prog 5 #[.slice p s.size cap, .int .i64 pl, .int .i64 pc] w fun e w' => e = .returned (.bool true) ∧ Below w.heap.size w w' := by
  by_cases hl : 300 < s.size
  · have hl' : (300 : Int) < s.size := by omega
    clear hl
    go_enter Try.func5, Try.ntmps5
    go_wp2_with fail
    go_ret
    exact ⟨rfl, Below.refl _ _⟩
  have hl' : ¬ (300 : Int) < s.size := by omega
  have HB := Lib.hid hb; clear hb
  go_enter Try.func5, Try.ntmps5
  go_wp2_with fail
  go_loopw [7] (fun i wr => ∃ n : Nat, i = .int .i64 n ∧ n ≤ s.size ∧ Hid (Reach s 0 n) ∧ Hid (InvC w [] wr)) (fun i _ => s.size - (intOf i).toNat)
  case atStart => exact ⟨0, rfl, by omega, .refl, Below.refl _ _, by simp⟩
  case round =>
    obtain ⟨n, rfl, hn, HR, HI⟩ := hrel
    go_wp2_with fail
    refine (of_p p cap s n wr (HB.out.below HI.out.1) (by omega) hn).mono ?_
    rintro e w1 ⟨rfl, hb1⟩
    have HI1 : Hid (InvC w [] w1) := HI.out.step hb1
    clear hb1
    go_wp2_with fail
    refine (at_p p cap s n w1 (HB.out.below HI1.out.1) (by omega) hn HR.out).mono ?_
    rintro e w2 ⟨rfl, hb2⟩
    have HI2 : Hid (InvC w [] w2) := HI1.out.step hb2
    clear hb2
    by_cases he : n < s.size
    · have hne : ((n : Int) == (s.size : Int)) = false := by simp; omega
      obtain ⟨n1, n2, _⟩ := signN_size he
      have HR2 : Hid (Reach s 0 (n + signN s n)) := HR.out.step he
      go_wp2_with fail
      refine (sign_at p cap s w2 (HB.out.below HI2.out.1) (by omega) n he).mono ?_
      rintro e w3 ⟨rfl, rfl⟩
      go_wp2_with fail
      refine ⟨⟨n + signN s n, by go_num, n2, HR2, HI2⟩, ?_⟩
      simp [intOf]; omega
    · obtain rfl : n = s.size := by omega
      clear he
      go_wp2_with fail
      obtain ⟨cs, hcs⟩ : ∃ cs : List (Nat × Nat × Value), cs = [(w2.heap.size, 0, .int .i64 pl), (w2.heap.size, 1, .int .i64 pc)] := ⟨_, rfl⟩
      have c0 : ∀ i : Wld (InvC w cs), i.w.cell? ⟨w2.heap.size, 0, none⟩ = some (.int .i64 pl) := fun i => InvC.cell i (by rw [hcs]; simp)
      have c1 : ∀ i : Wld (InvC w cs), i.w.cell? ⟨w2.heap.size, 1, none⟩ = some (.int .i64 pc) := fun i => InvC.cell i (by rw [hcs]; simp)
      have hb3 : Below w.heap.size w (w2.alloc (.cells #[.int .i64 pl, .int .i64 pc] 29)) := HI2.out.1.alloc HI2.out.1.size _
      have hI0 : Hid (InvC w cs (w2.alloc (.cells #[.int .i64 pl, .int .i64 pc] 29)).drew) := by
        refine InvC.start hb3 ?_
        rw [hcs]; simp
      have HCS := Lib.hid hcs
      have HB3 := Lib.hid hb3
      clear hcs hb3
      refine (at_b p cap s pl pc (w2.alloc (.cells #[.int .i64 pl, .int .i64 pc] 29)) (HB.out.below HB3.out) (by omega)).mono ?_
      rintro e w3 ⟨rfl, hb4⟩
      have HI3 : Hid (InvC w cs w3.drew) := by
        have : InvC w cs w3 := InvC.step (w := (w2.alloc (.cells #[.int .i64 pl, .int .i64 pc] 29))) ⟨HB3.out, fun x hx => by
          have := hI0.out.2 x hx; exact this⟩ hb4
        exact ⟨this.1.drew, this.2⟩
      clear hb4
      have hne : Nonempty (Wld (InvC w cs)) := ⟨⟨_, HI3.out⟩⟩
      rcases at_or s pl pc with hk | ⟨k, hk, hks, hpl, hpc⟩
      · rw [hk]
        clear hk
        go_wp2_with fail
        refine wp_region_inv (InvC w cs) (by kernel_rfl) (by kernel_rfl) HI3.out ?_
        repeat (go_big_quiet_step (first
          | (go_at_call 14; exact Calls.inv (awake_any _))))
        refine wpQuiet_nil ?_
        intro w4 hw4
        have HI4 : Hid (InvC w cs w4) := by obtain ⟨i, rfl⟩ := hw4; exact i.ok
        clear hw4 c0 c1
        go_wp2_with fail
        go_ret
        exact ⟨rfl, HI4.out.1⟩
      · rw [hk]
        have HK := Lib.hid hk
        subst hpl hpc
        clear hk
        have k1 : ((k : Int) == -1) = false := by simp
        have k2 : (0 : Int) ≤ k := by omega
        have k3 : decide ((0 : Int) ≤ k) = true := by simp
        have k4 : decide (k ≤ s.size) = true := by simp; omega
        go_wp2_with fail
        refine wp_region_inv (InvC w cs) (by kernel_rfl) (by kernel_rfl) HI3.out ?_
        repeat (go_big_quiet_step (first
          | (go_at_call 16; exact Calls.inv (of_p p cap s k _ (bsl_inv HB.out _) (by omega) hks))
          | (go_at_call 14; exact Calls.inv (awake_any _))))
        refine wpQuiet_nil ?_
        intro w4 hw4
        have HI4 : Hid (InvC w cs w4) := by obtain ⟨i, rfl⟩ := hw4; exact i.ok
        clear hw4 c0 c1
        go_wp2_with fail
        go_ret
        exact ⟨rfl, HI4.out.1⟩
end Go.Proofs.Ytiifakdpacicjaa
