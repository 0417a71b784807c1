import Derived.Test.YtaboimjnhocajaaDoorTkRd
import Derived.Test.YtaboimjnhocajaaDoorTkR
import Derived.Deep.DeepAppendWide
namespace Go.Proofs.YtaboimjnhocajaaDoor
open Go.RowKit
set_option linter.unusedSimpArgs false
set_option linter.unusedVariables false

theorem row_cells {w : World} {base e : Nat} {v : Value} {tk : List Tok} (ho : w.ownsRow base e 3 v tk.length (flat tk)) (hne : tk ≠ []) :
    ∃ g c, v = .slice (some ⟨g, 0, none⟩) tk.length c ∧ g < w.heap.size ∧ ∀ k (h : k < tk.length), w.cell? ⟨g, k * 3, none⟩ = some (.int .i64 tk[k].kind) ∧ w.cell? ⟨g, k * 3 + 1, none⟩ = some (.string tk[k].text) ∧ w.cell? ⟨g, k * 3 + 2, none⟩ = some (.int .i64 tk[k].at_) := by
  rcases ho.2 with ⟨_, h0⟩ | ⟨g, c, cur, rfl, _⟩
  · exact absurd (List.eq_nil_of_length_eq_zero h0) hne
  · refine ⟨g, c, rfl, (ho.lt g rfl).2, fun k h => ?_⟩
    have e : ∀ j, (⟨g, 0, none⟩ : Addr).add j = ⟨g, j, none⟩ := by intro j; unfold Addr.add; split <;> simp_all
    have hf : ∀ (l : List Tok) (k : Nat) (h : k < l.length) (j : Nat), j < 3 → (flat l)[k * 3 + j]? = ([.int .i64 l[k].kind, .string l[k].text, .int .i64 l[k].at_] : List Value)[j]? := by
      intro l
      induction l with
      | nil => intro k h; simp at h
      | cons t l ih =>
        intro k h j hj
        have e1 : flat (t :: l) = [.int .i64 t.kind, .string t.text, .int .i64 t.at_] ++ flat l := rfl
        rw [e1]
        cases k with
        | zero => rw [List.getElem?_append_left (by simp; omega)]; simp
        | succ k =>
          rw [List.getElem?_append_right (by simp; omega)]
          rw [show (k + 1) * 3 + j - ([.int .i64 t.kind, .string t.text, .int .i64 t.at_] : List Value).length = k * 3 + j from by simp; omega, ih k (by simpa using h) j hj]
          simp
    have hc : ∀ j u, (flat tk)[j]? = some u → w.cell? ((⟨g, 0, none⟩ : Addr).add j) = some u := ho.cells (g := g) rfl
    refine ⟨?_, ?_, ?_⟩
    · have := hc (k * 3 + 0) _ (hf tk k h 0 (by omega)); rwa [e] at this
    · have := hc (k * 3 + 1) _ (hf tk k h 1 (by omega)); rwa [e] at this
    · have := hc (k * 3 + 2) _ (hf tk k h 2 (by omega)); rwa [e] at this

theorem row_slice {w : World} {base e size n : Nat} {v : Value} {xs : List Value} (h : w.ownsRow base e size v n xs) : ∃ a c, v = .slice a n c := by
  rcases h.2 with ⟨rfl, rfl⟩ | ⟨g, cap, cur, rfl, _⟩
  · exact ⟨_, _, rfl⟩
  · exact ⟨_, _, rfl⟩

set_option maxRecDepth 100000 in
set_option maxHeartbeats 3200000 in
theorem refEnds_any (base : Nat) (v : Value) (tk : List Tok) (w : World) (ho : w.ownsRow base 45 3 v tk.length (flat tk)) (hl : tk.length ≤ 1000000) :
    Calls Tryd.prog 21 #[v] w fun e w' => e = .returned (.bool (endsB tk)) ∧ Below w.heap.size w w' := by
  by_cases h0 : tk = []
  · subst h0
    obtain ⟨a, c, rfl⟩ := row_slice ho
    clear ho
    go_enter Tryd.func21, Tryd.ntmps21
    go_wp2_with fail
    go_ret
    exact ⟨rfl, Below.refl _ _⟩
  · obtain ⟨g, c, rfl, hg, hcs⟩ := row_cells ho h0
    obtain ⟨m, hm⟩ : ∃ m, tk.length = m + 1 := ⟨tk.length - 1, by have := List.length_pos_iff.2 h0; omega⟩
    obtain ⟨e0, e1, e2⟩ := hcs m (by omega)
    have hE : endsB tk = endsT tk[m] := by
      unfold endsB
      rw [List.getLast?_eq_getElem?, show tk.length - 1 = m from by omega, List.getElem?_eq_getElem (show m < tk.length by omega)]
    rw [hE]
    clear hcs ho hE h0
    generalize tk[m] = t at e0 e1 e2 ⊢
    rw [hm]
    obtain ⟨kd, x, at_⟩ := t
    simp only at e0 e1 e2
    have H4 := Lib.hid (fun (g : Nat) (w : World) hc => in_any x fourL g 4 w (by decide) hc)
    have H5 := Lib.hid (fun (g : Nat) (w : World) hc => in_any x fiveL g 5 w (by decide) hc)
    by_cases k1 : kd = 1 ∨ kd = 4 ∨ kd = 5
    · have hT : Hid (endsT ⟨kd, x, at_⟩ = true) := Lib.hid (by unfold endsT; rw [if_pos k1])
      rcases k1 with rfl | rfl | rfl
      all_goals
        go_enter Tryd.func21, Tryd.ntmps21
        go_wp2_with fail
        go_ret
        exact ⟨by rw [hT.out]; rfl, (Below.refl _ _).alloc (Nat.le_refl _) _⟩
    · have n1 : ¬ kd = 1 := fun e => k1 (.inl e)
      have n4 : ¬ kd = 4 := fun e => k1 (.inr (.inl e))
      have n5 : ¬ kd = 5 := fun e => k1 (.inr (.inr e))
      by_cases k2 : kd = 2 ∨ kd = 3
      · have hT : Hid (endsT ⟨kd, x, at_⟩ = inB x fourL) := Lib.hid (by unfold endsT; rw [if_neg k1, if_pos k2])
        clear k1 n1 n4 n5
        rcases k2 with rfl | rfl
        all_goals
          go_enter Tryd.func21, Tryd.ntmps21
          go_wp2_with fail
          go_at_call 29
          refine Calls.mono (H4.out (w.heap.size + 1) ((w.alloc _).alloc (.cells (fourL.map Value.string).toArray 9)) (fun i y h => by rw [cell_of (alloc_at (by simp) _)]; simp [h])) ?_
          rintro e w4 ⟨rfl, hw4⟩
          replace hw4 := hw4.symm
          subst hw4
          generalize inB x fourL = q at hT ⊢
          cases q
          all_goals
            go_wp2_with fail
            go_ret
            exact ⟨by rw [hT.out]; rfl, ((Below.refl _ _).alloc (Nat.le_refl _) _).alloc (by simp) _⟩
      · have hT : Hid (endsT ⟨kd, x, at_⟩ = inB x fiveL) := Lib.hid (by unfold endsT; rw [if_neg k1, if_neg k2])
        have n2 : ¬ kd = 2 := fun e => k2 (.inl e)
        have n3 : ¬ kd = 3 := fun e => k2 (.inr e)
        clear k1 k2
        go_enter Tryd.func21, Tryd.ntmps21
        go_wp2_with fail
        go_at_call 29
        refine Calls.mono (H5.out (w.heap.size + 1) ((w.alloc _).alloc (.cells (fiveL.map Value.string).toArray 9)) (fun i y h => by rw [cell_of (alloc_at (by simp) _)]; simp [h])) ?_
        rintro e w4 ⟨rfl, hw4⟩
        replace hw4 := hw4.symm
        subst hw4
        generalize inB x fiveL = q at hT ⊢
        cases q
        all_goals
          go_wp2_with fail
          go_ret
          exact ⟨by rw [hT.out]; rfl, ((Below.refl _ _).alloc (Nat.le_refl _) _).alloc (by simp) _⟩
end Go.Proofs.YtaboimjnhocajaaDoor
