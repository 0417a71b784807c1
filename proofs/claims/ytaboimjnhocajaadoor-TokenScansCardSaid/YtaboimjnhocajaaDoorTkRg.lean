import Derived.Test.YtaboimjnhocajaaDoorTkRe
import Derived.Test.YtaboimjnhocajaaDoorReg
namespace Go.Proofs.YtaboimjnhocajaaDoor
open Go.RowKit
set_option linter.unusedSimpArgs false
set_option linter.unusedVariables false

set_option maxRecDepth 100000 in
set_option maxHeartbeats 3200000 in
/-- Two rows of the same tokens, the program's and the document's. -/
theorem told_any (b1 b2 : Nat) (v1 v2 : Value) (tk : List Tok) (w : World) (h1 : w.ownsRow b1 38 3 v1 tk.length (flat tk)) (h2 : w.ownsRow b2 45 3 v2 tk.length (flat tk)) (hl : tk.length ≤ 1000000) :
    Calls Tryd.prog 12 #[v1, v2] w fun e w' => e = .returned (.bool true) ∧ Below w.heap.size w w' := by
  by_cases h0 : tk = []
  · subst h0
    obtain ⟨a1, c1, rfl⟩ := row_slice h1
    obtain ⟨a2, c2, rfl⟩ := row_slice h2
    clear h1 h2
    go_enter Tryd.func12, Tryd.ntmps12
    go_wp2_with fail
    go_loopw [5] (fun v wr => v = .int .i64 0 ∧ Below w.heap.size w wr) (fun _ _ => 0)
    case atStart => exact ⟨rfl, Below.refl _ _⟩
    case round =>
      obtain ⟨rfl, hbr⟩ := hrel
      go_wp2_with fail
      go_ret
      exact ⟨rfl, hbr⟩
  · obtain ⟨g1, c1, rfl, hg1, hc1⟩ := row_cells h1 h0
    obtain ⟨g2, c2, rfl, hg2, hc2⟩ := row_cells h2 h0
    obtain ⟨n, hn⟩ : ∃ n, tk.length = n := ⟨_, rfl⟩
    have HN := Lib.hid hn
    have HC1 := Lib.hid hc1
    have HC2 := Lib.hid hc2
    clear h1 h2 hc1 hc2 h0
    rw [hn] at hl ⊢
    clear hn
    go_enter Tryd.func12, Tryd.ntmps12
    go_wp2_with fail
    go_loopw [5] (fun v wr => ∃ k : Nat, v = .int .i64 k ∧ k ≤ n ∧ Below w.heap.size w wr) (fun v _ => n - (intOf v).toNat)
    case atStart => exact ⟨0, rfl, by omega, Below.refl _ _⟩
    case round =>
      obtain ⟨k, rfl, hk, hbr⟩ := hrel
      have HBR := Lib.hid hbr
      clear hbr
      by_cases hlk : k < n
      · obtain ⟨x1, x2, x3⟩ := HC1.out k (by rw [HN.out]; exact hlk)
        obtain ⟨y1, y2, y3⟩ := HC2.out k (by rw [HN.out]; exact hlk)
        have p1 := (HBR.out.cell (p := ⟨g1, k * 3, none⟩) hg1).trans x1
        have p2 := (HBR.out.cell (p := ⟨g1, k * 3 + 1, none⟩) hg1).trans x2
        have p3 := (HBR.out.cell (p := ⟨g1, k * 3 + 2, none⟩) hg1).trans x3
        have q1 := (HBR.out.cell (p := ⟨g2, k * 3, none⟩) hg2).trans y1
        have q2 := (HBR.out.cell (p := ⟨g2, k * 3 + 1, none⟩) hg2).trans y2
        have q3 := (HBR.out.cell (p := ⟨g2, k * 3 + 2, none⟩) hg2).trans y3
        clear x1 x2 x3 y1 y2 y3
        generalize (tk[k]'(by rw [HN.out]; exact hlk)) = t at p1 p2 p3 q1 q2 q3
        obtain ⟨kd, x, a⟩ := t
        simp only at p1 p2 p3 q1 q2 q3
        have hxx : (x.toList == x.toList) = true := by simp
        obtain ⟨cs, hcs⟩ : ∃ cs : List (Nat × Nat × Value), cs = [(g1, k * 3, .int .i64 kd), (g1, k * 3 + 1, .string x), (g1, k * 3 + 2, .int .i64 a), (g2, k * 3, .int .i64 kd), (g2, k * 3 + 1, .string x), (g2, k * 3 + 2, .int .i64 a)] := ⟨_, rfl⟩
        have r1 : ∀ i : Wld (InvC wr cs), i.w.cell? ⟨g1, k * 3, none⟩ = some (.int .i64 kd) := fun i => InvC.cell i (by rw [hcs]; simp)
        have r2 : ∀ i : Wld (InvC wr cs), i.w.cell? ⟨g1, k * 3 + 1, none⟩ = some (.string x) := fun i => InvC.cell i (by rw [hcs]; simp)
        have r3 : ∀ i : Wld (InvC wr cs), i.w.cell? ⟨g1, k * 3 + 2, none⟩ = some (.int .i64 a) := fun i => InvC.cell i (by rw [hcs]; simp)
        have r4 : ∀ i : Wld (InvC wr cs), i.w.cell? ⟨g2, k * 3, none⟩ = some (.int .i64 kd) := fun i => InvC.cell i (by rw [hcs]; simp)
        have r5 : ∀ i : Wld (InvC wr cs), i.w.cell? ⟨g2, k * 3 + 1, none⟩ = some (.string x) := fun i => InvC.cell i (by rw [hcs]; simp)
        have r6 : ∀ i : Wld (InvC wr cs), i.w.cell? ⟨g2, k * 3 + 2, none⟩ = some (.int .i64 a) := fun i => InvC.cell i (by rw [hcs]; simp)
        have hI0 : Hid (InvC wr cs wr.drew) := by
          refine InvC.start (Below.refl _ _) ?_
          rw [hcs]; simp [p1, p2, p3, q1, q2, q3]
        have hne5 : Nonempty (Wld (InvC wr cs)) := ⟨⟨_, hI0.out⟩⟩
        clear hcs p1 p2 p3 q1 q2 q3
        go_wp2_with fail
        refine wp_region_inv (InvC wr cs) (by kernel_rfl) (by kernel_rfl) hI0.out ?_
        repeat (go_big_quiet_step (fail))
        refine wpQuiet_nil ?_
        intro w6 hw6
        have HI6 : Hid (InvC wr cs w6) := by obtain ⟨i, rfl⟩ := hw6; exact i.ok
        clear hw6 r1 r2 r3 r4 r5 r6 hne5
        have hb6 : Below w.heap.size w w6 := HBR.out.trans (HI6.out.1.mono HBR.out.size)
        have HB6 := Lib.hid hb6
        clear hb6
        go_wp2_with fail
        exact ⟨⟨k + 1, by go_num, by omega, HB6.out⟩, by simp [intOf]; omega⟩
      · obtain rfl : k = n := by omega
        go_wp2_with fail
        go_ret
        exact ⟨rfl, HBR.out⟩
end Go.Proofs.YtaboimjnhocajaaDoor
