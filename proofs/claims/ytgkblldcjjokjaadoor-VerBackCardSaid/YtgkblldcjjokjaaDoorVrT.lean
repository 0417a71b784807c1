import Derived.Test.YtgkblldcjjokjaaDoorVrS
namespace Go.Proofs.YtgkblldcjjokjaaDoor
open Go.RowKit Go.Shelf
set_option linter.unusedSimpArgs false
set_option linter.unusedVariables false
set_option linter.unusedSectionVars false

/-! VerBack. -/
set_option maxRecDepth 100000 in
set_option maxHeartbeats 6400000 in
theorem back_walk (s : ByteArray) (m : Int) (w : World) (hE : EnvV w) (hm0 : -9223372036854775808 ≤ m) (hm1 : m ≤ 9223372036854775807) :
    Calls Tryd.prog 5 #[.string s, .int .i64 m] w fun e w' => e = .returned (.bool true) ∧ Below w.heap.size w w' := by
  have h8 := hE.2.2.2
  by_cases hl : 300 < s.size
  · have hd : decide (300 < (s.size : Int)) = true := by simp; omega
    go_enter Tryd.func5, Tryd.ntmps5
    go_wp2_with fail
    go_ret
    exact ⟨rfl, Below.refl _ _⟩
  have hd : decide (300 < (s.size : Int)) = false := by simp; omega
  have hW := fun w1 (hb : Below w.heap.size w w1) => awake_v w1 (hE.below hb h8)
  have hP := fun w => path_v s w (by omega)
  obtain ⟨w1, hw1⟩ : ∃ w1, w1 = w.alloc (Obj.cells #[Value.string s, Value.int IntKind.i64 m] 33) := ⟨_, rfl⟩
  have hb1 : Below w.heap.size w w1 := by rw [hw1]; exact (Below.refl _ _).alloc (Nat.le_refl _) _
  have hz1 : w1.heap.size = w.heap.size + 1 := by rw [hw1]; simp
  have hk1 : w1.heap[w.heap.size]? = some (.cells #[.string s, .int .i64 m] 33 (0, 0)) := by rw [hw1]; exact alloc_at rfl _
  have HB1 := Lib.hid hb1
  have HK1 := Lib.hid hk1
  have HW1 := Lib.hid hw1
  by_cases hno : pathF s = false ∨ m < 0 ∨ 99 < m
  · have hw := write_no s m w1 (by omega) hno
    rw [hw1] at hw
    clear hw1 hb1 hk1
    cases hp : pathF s with
    | false =>
      rw [hp] at hP
      clear hno
      go_enter Tryd.func5, Tryd.ntmps5
      go_wp2_with (first
        | (go_at_call 19; with_reducible refine Calls.mono hw ?_; rintro e w2 ⟨rfl, hb2⟩; rw [← HW1.out] at hb2; have HB2 : Hid (Below w.heap.size w w2) := Lib.hid (HB1.out.trans (hb2.mono HB1.out.size)); clear hb2)
        | (go_at_call 12; with_reducible refine Calls.mono (hP _) ?_; rintro e w3 ⟨rfl, hb3⟩; have HB3 : Hid (Below w.heap.size w w3) := Lib.hid (HB2.out.trans (hb3.mono HB2.out.size)); clear hb3)
        | (go_at_call 16; with_reducible refine Calls.mono (hW _ HB3.out) ?_; rintro e w4 ⟨rfl, hb4⟩; have HB4 : Hid (Below w.heap.size w w4) := Lib.hid (HB3.out.trans (hb4.mono HB3.out.size)); clear hb4))
      go_ret
      exact ⟨rfl, HB4.out⟩
    | true =>
      rw [hp] at hP hno
      by_cases hn : m < 0
      · have k1 : decide (m < 0) = true := decide_eq_true hn
        clear hno
        go_enter Tryd.func5, Tryd.ntmps5
        go_wp2_with (first
          | (go_at_call 19; with_reducible refine Calls.mono hw ?_; rintro e w2 ⟨rfl, hb2⟩; rw [← HW1.out] at hb2; have HB2 : Hid (Below w.heap.size w w2) := Lib.hid (HB1.out.trans (hb2.mono HB1.out.size)); clear hb2)
          | (go_at_call 12; with_reducible refine Calls.mono (hP _) ?_; rintro e w3 ⟨rfl, hb3⟩; have HB3 : Hid (Below w.heap.size w w3) := Lib.hid (HB2.out.trans (hb3.mono HB2.out.size)); clear hb3)
          | (go_at_call 16; with_reducible refine Calls.mono (hW _ HB3.out) ?_; rintro e w4 ⟨rfl, hb4⟩; have HB4 : Hid (Below w.heap.size w w4) := Lib.hid (HB3.out.trans (hb4.mono HB3.out.size)); clear hb4))
        go_ret
        exact ⟨rfl, HB4.out⟩
      · have hn9 : 99 < m := by
          rcases hno with h | h | h
          · cases h
          · omega
          · exact h
        have k1 : decide (m < 0) = false := decide_eq_false hn
        have k2 : decide (99 < m) = true := decide_eq_true hn9
        clear hno
        go_enter Tryd.func5, Tryd.ntmps5
        go_wp2_with (first
          | (go_at_call 19; with_reducible refine Calls.mono hw ?_; rintro e w2 ⟨rfl, hb2⟩; rw [← HW1.out] at hb2; have HB2 : Hid (Below w.heap.size w w2) := Lib.hid (HB1.out.trans (hb2.mono HB1.out.size)); clear hb2)
          | (go_at_call 12; with_reducible refine Calls.mono (hP _) ?_; rintro e w3 ⟨rfl, hb3⟩; have HB3 : Hid (Below w.heap.size w w3) := Lib.hid (HB2.out.trans (hb3.mono HB2.out.size)); clear hb3)
          | (go_at_call 16; with_reducible refine Calls.mono (hW _ HB3.out) ?_; rintro e w4 ⟨rfl, hb4⟩; have HB4 : Hid (Below w.heap.size w w4) := Lib.hid (HB3.out.trans (hb4.mono HB3.out.size)); clear hb4))
        go_ret
        exact ⟨rfl, HB4.out⟩
  have hp : pathF s = true := by
    cases h : pathF s with
    | true => rfl
    | false => exact absurd (.inl h) hno
  obtain ⟨M, rfl⟩ := Int.eq_ofNat_of_zero_le (show 0 ≤ m by omega)
  have hM : M < 100 := by omega
  have k0 : ¬ (M : Int) < 0 := by omega
  have k9 : ¬ (99 : Int) < (M : Int) := by omega
  have k9n : ¬ 99 < M := by omega
  have k1 : decide ((M : Int) < 0) = false := decide_eq_false k0
  have k2 : decide (99 < (M : Int)) = false := decide_eq_false k9
  have hw := write_ok s M w1 hM hp
  rw [hw1] at hw
  rw [hp] at hP
  obtain ⟨c0, c1, c2, c3⟩ := back_read s M hM hp
  obtain ⟨e1, e2⟩ := text_minor M hM
  have hT := fun w => text_q M hM w
  have htz := text_two M hM
  have hdl := dec_len M hM
  have hN := fun w1 (hb : Below w.heap.size w w1) => minor_v (textF (M : Int)) w1 (by omega) (hE.below hb h8)
  rw [e1, e2] at hN
  have HR := Lib.hid (fun q c w1 (hb1 : Below w.heap.size w w1) (hbq : BSl w1 q (backS s M)) => read_v q c (backS s M) w1 hbq (hE.below hb1 h8) (by omega))
  rw [c1, c2, c3] at HR
  clear htz hdl c1 c2 c3 c0 e1 e2 hno hE
  generalize textF (M : Int) = t at *
  generalize backS s M = u at *
  clear hw1 hb1 hk1 hm0 hm1 hp
  go_enter Tryd.func5, Tryd.ntmps5
  go_wp2_with (first
    | (go_at_call 19; with_reducible refine Calls.mono hw ?_; rintro e w2 ⟨⟨g, c, rfl, hbs⟩, hb2⟩; rw [← HW1.out] at hb2; have HM2 := Lib.hid ((hb2.block _ (by omega)).trans HK1.out); have HB2 : Hid (Below w.heap.size w w2) := Lib.hid (HB1.out.trans (hb2.mono HB1.out.size)); have HZ2 := Lib.hid hb2.size; have HS2 := Lib.hid hbs; clear hb2 hbs)
    | (go_at_call 12; with_reducible refine Calls.mono (hP _) ?_; rintro e w3 ⟨rfl, hb3⟩; have HB3 : Hid (Below w.heap.size w w3) := Lib.hid (HB2.out.trans (hb3.mono HB2.out.size)); have HM3 := Lib.hid ((hb3.block _ (by have := HZ2.out; omega)).trans HM2.out); have HZ3 := Lib.hid hb3.size; have HS3 := Lib.hid (HS2.out.below hb3); clear hb3)
    | (go_at_call 17; refine Calls.mono (HR.out _ _ _ HB3.out HS3.out) ?_; rintro e w4 ⟨rfl, hb4⟩; have HB4 : Hid (Below w.heap.size w w4) := Lib.hid (HB3.out.trans (hb4.mono HB3.out.size)); have HM4 := Lib.hid ((hb4.block _ (by have := HZ2.out; have := HZ3.out; omega)).trans HM3.out); have HZ4 := Lib.hid hb4.size; clear hb4)
    | (go_at_call 14; with_reducible refine Calls.mono (hT _) ?_; rintro e w5 ⟨rfl, hw5⟩; replace hw5 := hw5.symm; subst hw5))
  obtain ⟨wE, hwE⟩ : ∃ wE, wE = w4.alloc (Obj.cells #[Value.string s, Value.int IntKind.i64 (M : Int)] 33) := ⟨_, rfl⟩
  have hBE : Below w.heap.size w wE := by rw [hwE]; exact HB4.out.alloc HB4.out.size _
  have m1 : wE.heap[w.heap.size]? = some (.cells #[.string s, .int .i64 M] 33 (0, 0)) := by
    rw [hwE, Below.heap_alloc _ _ _ (by have := HZ2.out; have := HZ3.out; have := HZ4.out; omega)]; exact HM4.out
  have m2 : wE.heap[w4.heap.size]? = some (.cells #[.string s, .int .i64 M] 33 (0, 0)) := by rw [hwE]; exact alloc_at rfl _
  have hzE : wE.heap.size = w4.heap.size + 1 := by rw [hwE]; simp
  rw [← hwE]
  refine Calls.mono (hN _ hBE) ?_
  rintro e w6 ⟨rfl, hb6⟩
  have hB6 : Below w.heap.size w w6 := hBE.trans (hb6.mono hBE.size)
  have m3 := (hb6.block w.heap.size (by have := HZ2.out; have := HZ3.out; have := HZ4.out; omega)).trans m1
  have m4 := (hb6.block w4.heap.size (by omega)).trans m2
  have q10 := cell_of m3 0
  have q11 := cell_of m3 1
  have q20 := cell_of m4 0
  have q21 := cell_of m4 1
  have hW2 := hW w6 hB6
  have hss : (s.toList == s.toList) = true := by simp
  have HB6 := Lib.hid hB6
  clear hb6 hBE m1 m2 hwE hN hT hw hP hW hB6 hzE
  go_wp2_with (go_at_call 16; with_reducible refine Calls.mono hW2 ?_; rintro e w7 ⟨rfl, hb7⟩)
  go_ret
  exact ⟨rfl, HB6.out.trans (hb7.mono HB6.out.size)⟩
end Go.Proofs.YtgkblldcjjokjaaDoor
