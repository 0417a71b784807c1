import Derived.Test.YtgkblldcjjokjaaDoorVrR
import Derived.Test.YtgkblldcjjokjaaDoorVrO
namespace Go.Proofs.YtgkblldcjjokjaaDoor
open Go.RowKit Go.Shelf
set_option linter.unusedSimpArgs false
set_option linter.unusedVariables false
set_option linter.unusedSectionVars false

/-! Layer 4: Write. -/
theorem text_w (m : Int) (w : World) :
    Calls Tryd.prog 14 #[.int .i64 m] w fun e w' => e = .returned (.string (textF m)) ∧ w' = w := by
  by_cases h0 : m < 0
  · have ht : textF m = ⟨#[]⟩ := by unfold textF; rw [if_pos (.inl h0)]
    have hd : decide (m < 0) = true := decide_eq_true h0
    rw [ht]; clear ht
    go_enter Tryd.func14, Tryd.ntmps14
    go_wp2_with fail
    go_ret
    exact ⟨rfl, rfl⟩
  by_cases h1 : 99 < m
  · have ht : textF m = ⟨#[]⟩ := by unfold textF; rw [if_pos (.inr h1)]
    have hd0 : decide (m < 0) = false := decide_eq_false h0
    have hd1 : decide (99 < m) = true := decide_eq_true h1
    rw [ht]; clear ht
    go_enter Tryd.func14, Tryd.ntmps14
    go_wp2_with fail
    go_ret
    exact ⟨rfl, rfl⟩
  obtain ⟨n, rfl⟩ := Int.eq_ofNat_of_zero_le (show 0 ≤ m by omega)
  exact text_q n (by omega) w
set_option maxRecDepth 100000 in
set_option maxHeartbeats 3200000 in
theorem write_no (s : ByteArray) (m : Int) (w : World) (hs : s.size ≤ 300) (h : pathF s = false ∨ m < 0 ∨ 99 < m) :
    Calls Tryd.prog 19 #[.agg #[.string s, .int .i64 m]] w fun e w' => e = .returned (.slice none 0 0) ∧ Below w.heap.size w w' := by
  have hT := fun w => text_w m w
  have hP := fun w => path_v s w (by omega)
  have ht : pathF s = true → (textF m).size = 0 := by
    intro hp
    unfold textF
    rw [if_pos (by rw [hp] at h; simpa using h)]
    rfl
  generalize textF m = t at *
  cases hp : pathF s with
  | false =>
    rw [hp] at hP
    clear ht
    go_enter Tryd.func19, Tryd.ntmps19
    go_wp2_with (first
      | (go_at_call 14; with_reducible refine Calls.mono (hT _) ?_; rintro e w2 ⟨rfl, hw2⟩; replace hw2 := hw2.symm; subst hw2)
      | (go_at_call 12; with_reducible refine Calls.mono (hP _) ?_; rintro e w3 ⟨rfl, hb3⟩))
    go_ret
    exact ⟨rfl, ((Below.refl _ _).alloc (Nat.le_refl _) _).trans (hb3.mono (by simp))⟩
  | true =>
    rw [hp] at hP
    have hte := empty_list t (ht hp)
    clear ht
    go_enter Tryd.func19, Tryd.ntmps19
    go_wp2_with (first
      | (go_at_call 14; with_reducible refine Calls.mono (hT _) ?_; rintro e w2 ⟨rfl, hw2⟩; replace hw2 := hw2.symm; subst hw2)
      | (go_at_call 12; with_reducible refine Calls.mono (hP _) ?_; rintro e w3 ⟨rfl, hb3⟩))
    go_ret
    exact ⟨rfl, ((Below.refl _ _).alloc (Nat.le_refl _) _).trans (hb3.mono (by simp))⟩
set_option maxRecDepth 100000 in
set_option maxHeartbeats 3200000 in
theorem write_ok (s : ByteArray) (M : Nat) (w : World) (hM : M < 100) (h : pathF s = true) :
    Calls Tryd.prog 19 #[.agg #[.string s, .int .i64 M]] w fun e w' => (∃ g c, e = .returned (.slice (some ⟨g, 0, none⟩) (backS s M).size c) ∧ BSl w' (some ⟨g, 0, none⟩) (backS s M)) ∧ Below w.heap.size w w' := by
  have hs := (path_bytes s h).1
  have hT := fun w => text_q M hM w
  have hP := fun w => path_v s w (by omega)
  rw [h] at hP
  have htz := text_two M hM
  have hdl := dec_len M hM
  obtain ⟨t, ht⟩ : ∃ t, textF (M : Int) = t := ⟨_, rfl⟩
  obtain ⟨n1, hn1⟩ : ∃ n1, (⟨#[109, 111, 100, 117, 108, 101, 32]⟩ : ByteArray) ++ s = n1 := ⟨_, rfl⟩
  obtain ⟨n2, hn2⟩ : ∃ n2, n1 ++ ⟨#[10, 10, 103, 111, 32]⟩ = n2 := ⟨_, rfl⟩
  obtain ⟨n3, hn3⟩ : ∃ n3, n2 ++ t = n3 := ⟨_, rfl⟩
  obtain ⟨u, hu⟩ : ∃ u, n3 ++ ⟨#[10]⟩ = u := ⟨_, rfl⟩
  have hU : backS s M = u := by rw [← hu, ← hn3, ← hn2, ← hn1, ← ht]; rfl
  rw [ht] at htz hT
  rw [hU]
  have htf := full_list t (by omega)
  have z1 : n1.size = 7 + s.size := by rw [← hn1, ByteArray.size_append]; rfl
  have z2 : n2.size = n1.size + 5 := by rw [← hn2, ByteArray.size_append]; rfl
  have z3 : n3.size = n2.size + t.size := by rw [← hn3, ByteArray.size_append]
  have f0 : ¬ 9223372036854775807 < 7 + s.size := by omega
  have f1 : ¬ 9223372036854775807 < n1.size + 5 := by omega
  have f2 : ¬ 9223372036854775807 < n2.size + t.size := by omega
  have f3 : ¬ 9223372036854775807 < n3.size + 1 := by omega
  have hcu := fun w => run_bytes_of_string (P := Tryd.prog) w 9 31 5 u Tryd.underlying9 Tryd.underlying31 Tryd.underlying5
  clear z1 z2 z3 hU ht htz hdl
  go_enter Tryd.func19, Tryd.ntmps19
  go_wp2_with (first
    | (go_at_call 14; with_reducible refine Calls.mono (hT _) ?_; rintro e w2 ⟨rfl, hw2⟩; replace hw2 := hw2.symm; subst hw2)
    | (go_at_call 12; with_reducible refine Calls.mono (hP _) ?_; rintro e w3 ⟨rfl, hb3⟩; have h3 := (hb3.block w.heap.size (by simp)).trans (alloc_at rfl _); have q0 := cell_of h3 0; have HB3 := Lib.hid hb3; clear hb3 h3))
  go_ret
  have hge := grownCap_ge w3 u.size 0 5
  generalize grownCap w3 u.size 0 5 = gc at *
  have hb : Below w.heap.size w w3 := ((Below.refl _ _).alloc (Nat.le_refl _) _).trans (HB3.out.mono (by simp))
  exact ⟨⟨_, _, rfl, (bytesRow_v u w3 gc hge ((bytesRow u gc).size, (bytesRow u gc).size + 1)).below (Below.refl _ _).drew⟩, (hb.alloc hb.size _).drew⟩
end Go.Proofs.YtgkblldcjjokjaaDoor
