import Derived.Test.YtjgpopjnmonlkaaGreatDoorTgY
import Derived.Defers
import Derived.Recover
import Derived.Laws.Pointers
namespace Go.Proofs.YtjgpopjnmonlkaaGreatDoor
open Go.RowKit Go.Shelf
set_option linter.unusedSimpArgs false
set_option linter.unusedVariables false
set_option linter.unusedSectionVars false

/-! Layer 5: read, with its deferred closure. -/
set_option maxHeartbeats 1600000 in
theorem caught (A : Nat) (va vb vc ve : Value) (older : List PanicEntry) (w : World)
    (h0 : w.heap[A]? = some (.cells #[va, vb, vc] 29 (0, 0))) (h1 : w.heap[A + 1]? = some (.cells #[ve] 39 (0, 0))) :
    CallsD Tryz.prog 40 #[.pointer (some ⟨A, 0, none⟩), .pointer (some ⟨A + 1, 0, none⟩)] (.panicking ({ v := .iface 39 (.int .i64 8), recovered := false } :: older)) w fun e u' w' =>
      e = .returned (.tuple #[]) ∧ u' = .panicking ({ v := .iface 39 (.int .i64 8), recovered := true } :: older) ∧ w' = ((put3 w A (.string ⟨#[]⟩) (.string ⟨#[]⟩) (.slice none 0 0)).setCell ⟨A + 1, 0, none⟩ (.int .i64 8)).setCell ⟨A + 1, 0, none⟩ (.int .i64 8) := by
  refine callsD_of_wpS Tryz.func40 rfl fun c₀ cs hu => ?_
  apply wpS_seq
  apply wpS_region
  simp [wpOpsS, go_sem, recoverD, hu, Tryz.ntmps40, Exit.thenS]
  refine wpS_of_wp ?_
  have hta : ∀ w, (Instr.typeAssert (.iface 39 (.int .i64 8)) 20 39 true).run Tryz.prog w = .ok (.tuple #[.int .i64 8, .bool true]) w := fun _ => by kernel_rfl
  obtain ⟨p1, p2⟩ := put3_at h0 (.string ⟨#[]⟩) (.string ⟨#[]⟩) (.slice none 0 0)
  have q1 := (p2.block (A + 1) (lt_of_block h1) (fun e => by cases e)).trans h1
  unfold put3 at *
  have a0 := cell_of h0 0
  have a1 := cell_of h0 1
  have a2 := cell_of h0 2
  have b0 := free_of h0 0
  have b1 := free_of h0 1
  have b2 := free_of h0 2
  have c0 := cell_of h1 0
  have d0 := free_of h1 0
  have e0 := cell_of q1 0
  have g0 := free_of q1 0
  have hz : #[Value.pointer (some ⟨A, 0, none⟩), .pointer (some ⟨A + 1, 0, none⟩)] ++
          ((Array.replicate 14 undef).setIfInBounds 3 (Value.iface 39 (Value.int IntKind.i64 8))).setIfInBounds 0
            (Value.iface 39 (Value.int IntKind.i64 8)) = #[.pointer (some ⟨A, 0, none⟩), .pointer (some ⟨A + 1, 0, none⟩), .iface 39 (.int .i64 8), undef, undef, .iface 39 (.int .i64 8), undef, undef, undef, undef, undef, undef, undef, undef, undef, undef] := rfl
  rw [hz]
  clear hz
  go_wp2_with fail
  exact ⟨rfl, _, rfl, _, results_none rfl _ _ _, rfl, rfl, rfl⟩

set_option maxHeartbeats 400000 in
theorem idle (a b : Value) (w : World) :
    CallsD Tryz.prog 40 #[a, b] .returning w fun e u' w' => e = .returned (.tuple #[]) ∧ u' = .returning ∧ w' = w := by
  refine callsD_of_wpS Tryz.func40 rfl fun c₀ cs hu => ?_
  apply wpS_seq
  apply wpS_region
  simp [wpOpsS, go_sem, recoverD, hu, Tryz.ntmps40, Exit.thenS]
  refine wpS_of_wp ?_
  have hz : #[a, b] ++ ((Array.replicate 14 undef).setIfInBounds 3 Value.nilIface).setIfInBounds 0 Value.nilIface = #[a, b, .nilIface, undef, undef, .nilIface, undef, undef, undef, undef, undef, undef, undef, undef, undef, undef] := rfl
  rw [hz]
  clear hz
  go_wp2_with fail
  refine ⟨rfl, .returning, ?_, _, results_none rfl _ _ _, rfl, rfl, rfl⟩
  cases c₀
  simp at hu
  subst hu
  rfl
/-- The named results and the reader, in blocks of their own. -/
def boxR (W : World) (l : List UInt8) : World := ((W.alloc (.cells #[.string ⟨#[]⟩, .string ⟨#[]⟩, .slice none 0 0] 29)).alloc (.cells #[.int .i64 0] 39)).alloc (.cells #[.string (bs l), .int .i64 0] 59)
theorem boxR_new (W : World) (l : List UInt8) : (boxR W l).heap[W.heap.size]? = some (.cells #[.string ⟨#[]⟩, .string ⟨#[]⟩, .slice none 0 0] 29 (0, 0)) ∧ (boxR W l).heap[W.heap.size + 1]? = some (.cells #[.int .i64 0] 39 (0, 0)) ∧
    RdAt (boxR W l) (W.heap.size + 1 + 1) l 0 ∧ (boxR W l).heap.size = W.heap.size + 1 + 1 + 1 ∧ Below W.heap.size W (boxR W l) := by
  have e1 := heap_alloc_new W (.cells #[.string ⟨#[]⟩, .string ⟨#[]⟩, .slice none 0 0] 29)
  have e2 := heap_alloc_new (W.alloc (.cells #[.string ⟨#[]⟩, .string ⟨#[]⟩, .slice none 0 0] 29)) (.cells #[.int .i64 0] 39)
  have e3 := heap_alloc_new ((W.alloc (.cells #[.string ⟨#[]⟩, .string ⟨#[]⟩, .slice none 0 0] 29)).alloc (.cells #[.int .i64 0] 39)) (.cells #[.string (bs l), .int .i64 0] 59)
  refine ⟨?_, ?_, ?_, by simp [boxR], (((Below.refl _ _).alloc (Nat.le_refl _) _).alloc (by simp) _).alloc (by simp; omega) _⟩
  · unfold boxR
    rw [Below.heap_alloc _ _ _ (by simp; omega), Below.heap_alloc _ _ _ (by simp)]; exact e1
  · unfold boxR
    rw [Below.heap_alloc _ _ _ (by simp)]; simpa using e2
  · unfold boxR RdAt
    simpa using e3
/-- What stands at last, where it was thrown. -/
theorem caught_end {W w2 : World} {va vb vc ve : Value} (h0 : w2.heap[W.heap.size]? = some (.cells #[va, vb, vc] 29 (0, 0))) (h1 : w2.heap[W.heap.size + 1]? = some (.cells #[ve] 39 (0, 0))) (hb : Below W.heap.size W w2) (v0 v1 v2 v3 v4 : Value) :
    (((put3 w2 W.heap.size v0 v1 v2).setCell ⟨W.heap.size + 1, 0, none⟩ v3).setCell ⟨W.heap.size + 1, 0, none⟩ v4).heap[W.heap.size]? = some (.cells #[v0, v1, v2] 29 (0, 0)) ∧ (((put3 w2 W.heap.size v0 v1 v2).setCell ⟨W.heap.size + 1, 0, none⟩ v3).setCell ⟨W.heap.size + 1, 0, none⟩ v4).heap[W.heap.size + 1]? = some (.cells #[v4] 39 (0, 0)) ∧
    Below W.heap.size W (((put3 w2 W.heap.size v0 v1 v2).setCell ⟨W.heap.size + 1, 0, none⟩ v3).setCell ⟨W.heap.size + 1, 0, none⟩ v4) := by
  obtain ⟨p1, p2⟩ := put3_at h0 v0 v1 v2
  have q1 := (p2.block (W.heap.size + 1) (lt_of_block h1) (fun e => by have := Option.some.inj e; omega)).trans h1
  have k1 := heap_setCell_same _ _ 0 _ _ v3 q1
  have k2 := heap_setCell_same _ _ 0 _ _ v4 k1
  refine ⟨?_, k2, ?_⟩
  · rw [heap_setCell_other _ _ _ _ (by show W.heap.size ≠ W.heap.size + 1; omega), heap_setCell_other _ _ _ _ (by show W.heap.size ≠ W.heap.size + 1; omega)]
    exact p1
  · unfold put3
    exact ((((hb.setCell (p := ⟨W.heap.size, 0, none⟩) (Nat.le_refl _) _).setCell (p := ⟨W.heap.size, 1, none⟩) (Nat.le_refl _) _).setCell (p := ⟨W.heap.size, 2, none⟩) (Nat.le_refl _) _).setCell (p := ⟨W.heap.size + 1, 0, none⟩) (by show W.heap.size ≤ W.heap.size + 1; omega) _).setCell (p := ⟨W.heap.size + 1, 0, none⟩) (by show W.heap.size ≤ W.heap.size + 1; omega) _
theorem read_end {W w2 : World} {va vb vc ve : Value} {x : Ex} {vs : List Value} (h0 : w2.heap[W.heap.size]? = some (.cells #[va, vb, vc] 29 (0, 0))) (h1 : w2.heap[W.heap.size + 1]? = some (.cells #[ve] 39 (0, 0))) (hb : Below W.heap.size W w2) (hx : ExAt w2 (fun b => W.heap.size + 1 + 1 + 1 ≤ b) x vs) (v0 v1 v2 v3 : Value) :
    ((put3 w2 W.heap.size v0 v1 v2).setCell ⟨W.heap.size + 1, 0, none⟩ v3).heap[W.heap.size]? = some (.cells #[v0, v1, v2] 29 (0, 0)) ∧ ((put3 w2 W.heap.size v0 v1 v2).setCell ⟨W.heap.size + 1, 0, none⟩ v3).heap[W.heap.size + 1]? = some (.cells #[v3] 39 (0, 0)) ∧
    Below W.heap.size W ((put3 w2 W.heap.size v0 v1 v2).setCell ⟨W.heap.size + 1, 0, none⟩ v3) ∧ ExAt ((put3 w2 W.heap.size v0 v1 v2).setCell ⟨W.heap.size + 1, 0, none⟩ v3) (fun b => W.heap.size ≤ b) x vs := by
  obtain ⟨p1, p2⟩ := put3_at h0 v0 v1 v2
  have q1 := (p2.block (W.heap.size + 1) (lt_of_block h1) (fun e => by have := Option.some.inj e; omega)).trans h1
  have k1 := heap_setCell_same _ _ 0 _ _ v3 q1
  have hB : Below W.heap.size W ((put3 w2 W.heap.size v0 v1 v2).setCell ⟨W.heap.size + 1, 0, none⟩ v3) := by
    unfold put3
    exact (((hb.setCell (p := ⟨W.heap.size, 0, none⟩) (Nat.le_refl _) _).setCell (p := ⟨W.heap.size, 1, none⟩) (Nat.le_refl _) _).setCell (p := ⟨W.heap.size, 2, none⟩) (Nat.le_refl _) _).setCell (p := ⟨W.heap.size + 1, 0, none⟩) (by show W.heap.size ≤ W.heap.size + 1; omega) _
  refine ⟨?_, k1, hB, hx.keep ⟨by simpa using p2.size, fun b hb hlt => ?_⟩ (fun b hb _ => by omega) x _⟩
  · rw [heap_setCell_other _ _ _ _ (by show W.heap.size ≠ W.heap.size + 1; omega)]
    exact p1
  · rw [heap_setCell_other _ _ _ _ (by show b ≠ W.heap.size + 1; omega)]
    exact p2.block b hlt (fun e => by have := Option.some.inj e; omega)
theorem resR {tmps : Array Value} {w : World} {A : Nat} {v0 v1 v2 v3 : Value} (t0 : tmps[2]? = some (.pointer (some ⟨A, 0, none⟩))) (t1 : tmps[3]? = some (.pointer (some ⟨A + 1, 0, none⟩)))
    (h0 : w.heap[A]? = some (.cells #[v0, v1, v2] 29 (0, 0))) (h1 : w.heap[A + 1]? = some (.cells #[v3] 39 (0, 0))) :
    (results Tryz.f28 tmps).run Tryz.prog w = .ok (.tuple #[.agg #[v0, v1, v2], v3]) w := by
  have a0 := cell_of h0 0
  have a1 := cell_of h0 1
  have a2 := cell_of h0 2
  have b0 := cell_of h1 0
  simp [results, Tryz.results28, go_sem, t0, t1, a0, a1, a2, b0]
/-- What read gives. -/
def ReadP (W : World) (r : Option Ex) (e : Ending) (w' : World) : Prop := Below W.heap.size W w' ∧ match r with
  | some x => ∃ vs, e = .returned (.tuple #[.agg vs.toArray, .int .i64 0]) ∧ ExAt w' (fun b => W.heap.size ≤ b) x vs
  | none => e = .returned (.tuple #[.agg #[.string ⟨#[]⟩, .string ⟨#[]⟩, .slice none 0 0], .int .i64 8])
set_option maxHeartbeats 1600000 in
theorem read_none (l : List UInt8) (W : World) (hl : l.length ≤ 500) (hr : consF (factorF 100) l = none) :
    Calls Tryz.prog 28 #[.string (bs l)] W (ReadP W none) := by
  have hmf : ∀ (fn : Fn) (first cap : Array Value) (w : World), (Instr.makeFunc fn first cap).run Tryz.prog w = .ok (.func fn first cap) w := fun _ _ _ _ => rfl
  obtain ⟨hx0, hx1, hrd, hsz, hbl⟩ := boxR_new W l
  have HC := constraint_v 100 (fac_any 100) (W.heap.size + 1 + 1) 0 l _ (by omega) hrd (by omega)
  rw [hr] at HC
  unfold ReadP
  go_enter_defers Tryz.func28, Tryz.ntmps28
  go_wp2_with fail
  change Calls Tryz.prog 41 _ (boxR W l) _
  generalize boxR W l = w1 at *
  (with_reducible refine Calls.mono HC ?_)
  rintro e w2 ⟨hg2, hth⟩
  unfold thrown at hth
  subst hth
  have hx2 := (hg2.block _ (by omega) (fun e => by have := Option.some.inj e; omega)).trans hx0
  have hx3 := (hg2.block _ (by omega) (fun e => by have := Option.some.inj e; omega)).trans hx1
  have hb2 : Below W.heap.size W w2 := hbl.trans ⟨hg2.os, hg2.tape, hg2.output, hg2.size, fun j hj => hg2.block j (by omega) (fun e => by have := Option.some.inj e; omega)⟩
  clear hg2 hx0 hx1 hrd HC
  go_wp2_with fail
  refine leaves_cons (f := 40) (args := #[.pointer (some ⟨W.heap.size, 0, none⟩), .pointer (some ⟨W.heap.size + 1, 0, none⟩)]) (by simp) (by simp [go_sem]) ?_
  refine (caught W.heap.size _ _ _ _ [] w2 hx2 hx3).mono ?_
  rintro e u' w'' ⟨rfl, rfl, rfl⟩
  obtain ⟨r0, r1, r2⟩ := caught_end hx2 hx3 hb2 (.string ⟨#[]⟩) (.string ⟨#[]⟩) (.slice none 0 0) (.int .i64 8) (.int .i64 8)
  exact ⟨_, resR rfl rfl r0 r1, r2, rfl⟩
/-- What stands when the constraint was read. -/
structure Got (W : World) (rb d : Nat) (x : Ex) (vs : List Value) (l : List UInt8) (w : World) : Prop where
  h0 : ∃ v0 v1 v2, w.heap[W.heap.size]? = some (.cells #[v0, v1, v2] 29 (0, 0)) ∧ (vs = [v0, v1, v2] ∨ vs = [])
  h1 : ∃ ve, w.heap[W.heap.size + 1]? = some (.cells #[ve] 39 (0, 0))
  rd : RdAt w rb l d
  bl : Below W.heap.size W w
set_option maxHeartbeats 1600000 in
theorem read_some (l : List UInt8) (W : World) (hl : l.length ≤ 500) (x : Ex) (r : List UInt8) (hr : consF (factorF 100) l = some (x, r)) (RV : Option Ex) (hRV : RV = if skipF r = [] ∧ rightF 100 x = true then some x else none) :
    Calls Tryz.prog 28 #[.string (bs l)] W (ReadP W RV) := by
  have HRV := Lib.hid hRV
  clear hRV
  have hmf : ∀ (fn : Fn) (first cap : Array Value) (w : World), (Instr.makeFunc fn first cap).run Tryz.prog w = .ok (.func fn first cap) w := fun _ _ _ _ => rfl
  obtain ⟨hx0, hx1, hrd, hsz, hbl⟩ := boxR_new W l
  have HC := constraint_v 100 (fac_any 100) (W.heap.size + 1 + 1) 0 l _ (by omega) hrd (by omega)
  have hok := consF_ok 100 l x r (by omega) hr
  rw [hr] at HC
  have HN := Lib.hid need_not
  have HO := Lib.hid need_ok
  go_enter_defers Tryz.func28, Tryz.ntmps28
  go_wp2_with fail
  change Calls Tryz.prog 41 _ (boxR W l) _
  generalize boxR W l = w1 at *
  (with_reducible refine Calls.mono HC ?_)
  rintro e w2 ⟨hg2, vs, rfl, hex, hr2⟩
  obtain ⟨yo, yt, ya, yn, yc, rfl⟩ := hex.shape
  have hx2 := (hg2.block _ (by omega) (fun e => by have := Option.some.inj e; omega)).trans hx0
  have hx3 := (hg2.block _ (by omega) (fun e => by have := Option.some.inj e; omega)).trans hx1
  have hb2 : Below W.heap.size W w2 := hbl.trans ⟨hg2.os, hg2.tape, hg2.output, hg2.size, fun j hj => hg2.block j (by omega) (fun e => by have := Option.some.inj e; omega)⟩
  obtain ⟨p1, p2⟩ := put3_at hx2 (.string yo) (.string yt) (.slice ya yn yc)
  have hx5 := (p2.block (W.heap.size + 1) (lt_of_block hx3) (fun e => by have := Option.some.inj e; omega)).trans hx3
  have hr5 := hr2.far p2 (by omega)
  have hge := hg2.size
  have hex5 := hex.keep (T := fun b => w1.heap.size ≤ b) (W' := put3 w2 W.heap.size (.string yo) (.string yt) (.slice ya yn yc)) ⟨p2.size, fun b hb hlt => p2.block b hlt (fun e => by have := Option.some.inj e; omega)⟩ (fun b hb _ => hb) x _
  have hb5 : Below W.heap.size W (put3 w2 W.heap.size (.string yo) (.string yt) (.slice ya yn yc)) := by
    unfold put3
    exact ((hb2.setCell (p := ⟨W.heap.size, 0, none⟩) (Nat.le_refl _) _).setCell (p := ⟨W.heap.size, 1, none⟩) (Nat.le_refl _) _).setCell (p := ⟨W.heap.size, 2, none⟩) (Nat.le_refl _) _
  have a0 := cell_of hx2 0
  have a1 := cell_of hx2 1
  have a2 := cell_of hx2 2
  have b0 := free_of hx2 0
  have b1 := free_of hx2 1
  have b2 := free_of hx2 2
  clear hg2 hx0 hx1 hrd HC hr2 hx2 hx3 hb2 p2 hex hmf
  have HP1 := Lib.hid p1
  have HX5 := Lib.hid hx5
  have HR5 := Lib.hid hr5
  have HE5 := Lib.hid hex5
  have HB5 := Lib.hid hb5
  clear p1 hx5 hr5 hex5 hb5
  have HS := Lib.hid (skip_v _ r 0 _ HR5.out)
  generalize hsk : skipF r = sk at *
  unfold put3 at *
  have HZ6 : Hid (∀ w', (put3 w2 W.heap.size (.string yo) (.string yt) (.slice ya yn yc)).grownBy w' (some (W.heap.size + 1 + 1)) → w'.heap[W.heap.size]? = some (.cells #[.string yo, .string yt, .slice ya yn yc] 29 (0, 0)) ∧ w'.heap[W.heap.size + 1]? = some (.cells #[.int .i64 0] 39 (0, 0)) ∧
      ExAt w' (fun b => W.heap.size + 1 + 1 + 1 ≤ b) x [.string yo, .string yt, .slice ya yn yc] ∧ Below W.heap.size W w') := Lib.hid (fun w' hg => by
    refine ⟨(hg.block _ (lt_of_block HP1.out) (fun e => by have := Option.some.inj e; omega)).trans HP1.out, (hg.block _ (lt_of_block HX5.out) (fun e => by have := Option.some.inj e; omega)).trans HX5.out, ?_, ?_⟩
    · refine HE5.out.keep ⟨hg.size, fun b hb hlt => hg.block b hlt (fun e => by have := Option.some.inj e; omega)⟩ (fun b hb _ => by omega) x _
    · have hlt5 : W.heap.size + 1 < (put3 w2 W.heap.size (.string yo) (.string yt) (.slice ya yn yc)).heap.size := lt_of_block HX5.out
      exact HB5.out.trans ⟨hg.os, hg.tape, hg.output, hg.size, fun j hj => hg.block j (by omega) (fun e => by have := Option.some.inj e; omega)⟩)
  have HZ7 : Hid (∀ w w', (w.heap[W.heap.size]? = some (.cells #[.string yo, .string yt, .slice ya yn yc] 29 (0, 0)) ∧ w.heap[W.heap.size + 1]? = some (.cells #[.int .i64 0] 39 (0, 0)) ∧
      ExAt w (fun b => W.heap.size + 1 + 1 + 1 ≤ b) x [.string yo, .string yt, .slice ya yn yc] ∧ Below W.heap.size W w) → Below w.heap.size w w' → w'.heap[W.heap.size]? = some (.cells #[.string yo, .string yt, .slice ya yn yc] 29 (0, 0)) ∧ w'.heap[W.heap.size + 1]? = some (.cells #[.int .i64 0] 39 (0, 0)) ∧
      ExAt w' (fun b => W.heap.size + 1 + 1 + 1 ≤ b) x [.string yo, .string yt, .slice ya yn yc] ∧ Below W.heap.size W w') := Lib.hid (fun w w' ⟨h0, h1, h2, h3⟩ hb =>
    ⟨(hb.block _ (lt_of_block h0)).trans h0, (hb.block _ (lt_of_block h1)).trans h1, h2.below hb, h3.trans (hb.mono h3.size)⟩)
  have HRT := Lib.hid (fun (w : World) (h : ExAt w (fun b => W.heap.size + 1 + 1 + 1 ≤ b) x [.string yo, .string yt, .slice ya yn yc]) => Right_v x [.string yo, .string yt, .slice ya yn yc] _ w h hok)
  unfold put3 at *
  clear hok hr hge
  by_cases hn : sk = []
  · have hem : (bs sk).toList.isEmpty = true := by rw [ByteArray.toList_eq, bs_list, hn]; rfl
    have HN0 := Lib.hid hn
    clear hn
    generalize rightF 100 x = R at *
    cases R with
    | false =>
      go_wp2_with (first
      | (go_at_call 43; (with_reducible refine Calls.mono HS.out ?_); rintro e w6 ⟨rfl, hr6, hg6⟩; have HR6 := Lib.hid hr6; have HG6 := Lib.hid hg6; have hz6 := HZ6.out _ hg6; have HH6 := Lib.hid hz6; have d0 := cell_of hz6.1 0; have d1 := cell_of hz6.1 1; have d2 := cell_of hz6.1 2; have f0 := free_of hz6.1 0; have f1 := free_of hz6.1 1; have f2 := free_of hz6.1 2; clear hr6 hg6 hz6)
      | (go_at_call 42; (with_reducible refine Calls.mono (HO.out _) ?_); rintro e w4 ⟨rfl, hw4⟩; replace hw4 := hw4.symm; subst hw4)
      | (go_at_call 42; (with_reducible refine Calls.mono (HN.out _) ?_); rintro e w4 ⟨rfl, hw4⟩; replace hw4 := hw4.symm; subst hw4; unfold thrown)
      | (go_at_call 11; (with_reducible refine Calls.mono (HRT.out _ HH6.out.2.2.1) ?_); rintro e w7 ⟨rfl, hb7⟩; have hz7 := HZ7.out _ _ HH6.out hb7; have HH7 := Lib.hid hz7; have g0 := cell_of hz7.1 0; have g1 := cell_of hz7.1 1; have g2 := cell_of hz7.1 2; have h0 := free_of hz7.1 0; have h1 := free_of hz7.1 1; have h2 := free_of hz7.1 2; have k0 := free_of hz7.2.1 0; have k1 := cell_of hz7.2.1 0; clear hb7 hz7))
      have HH := HH7
      refine leaves_cons (f := 40) (args := #[.pointer (some ⟨W.heap.size, 0, none⟩), .pointer (some ⟨W.heap.size + 1, 0, none⟩)]) (by simp) (by simp [go_sem]) ?_
      refine (caught W.heap.size _ _ _ _ [] _ HH.out.1 HH.out.2.1).mono ?_
      rintro e u' w'' ⟨rfl, rfl, rfl⟩
      obtain ⟨r0, r1, r2⟩ := caught_end HH.out.1 HH.out.2.1 HH.out.2.2.2 (.string ⟨#[]⟩) (.string ⟨#[]⟩) (.slice none 0 0) (.int .i64 8) (.int .i64 8)
      have hrv : RV = none := HRV.out.trans (if_neg (by simp))
      rw [hrv]
      exact ⟨_, resR rfl rfl r0 r1, r2, rfl⟩
    | true =>
      go_wp2_with (first
      | (go_at_call 43; (with_reducible refine Calls.mono HS.out ?_); rintro e w6 ⟨rfl, hr6, hg6⟩; have HR6 := Lib.hid hr6; have HG6 := Lib.hid hg6; have hz6 := HZ6.out _ hg6; have HH6 := Lib.hid hz6; have d0 := cell_of hz6.1 0; have d1 := cell_of hz6.1 1; have d2 := cell_of hz6.1 2; have f0 := free_of hz6.1 0; have f1 := free_of hz6.1 1; have f2 := free_of hz6.1 2; clear hr6 hg6 hz6)
      | (go_at_call 42; (with_reducible refine Calls.mono (HO.out _) ?_); rintro e w4 ⟨rfl, hw4⟩; replace hw4 := hw4.symm; subst hw4)
      | (go_at_call 42; (with_reducible refine Calls.mono (HO.out _) ?_); rintro e w4 ⟨rfl, hw4⟩; replace hw4 := hw4.symm; subst hw4)
      | (go_at_call 11; (with_reducible refine Calls.mono (HRT.out _ HH6.out.2.2.1) ?_); rintro e w7 ⟨rfl, hb7⟩; have hz7 := HZ7.out _ _ HH6.out hb7; have HH7 := Lib.hid hz7; have g0 := cell_of hz7.1 0; have g1 := cell_of hz7.1 1; have g2 := cell_of hz7.1 2; have h0 := free_of hz7.1 0; have h1 := free_of hz7.1 1; have h2 := free_of hz7.1 2; have k0 := free_of hz7.2.1 0; have k1 := cell_of hz7.2.1 0; clear hb7 hz7))
      refine leaves_cons (f := 40) (args := #[.pointer (some ⟨W.heap.size, 0, none⟩), .pointer (some ⟨W.heap.size + 1, 0, none⟩)]) (by simp) (by simp [go_sem]) ?_
      refine (idle _ _ _).mono ?_
      rintro e u' w'' ⟨rfl, rfl, rfl⟩
      have hrv : RV = some x := HRV.out.trans (if_pos ⟨HN0.out, by simp⟩)
      rw [hrv]
      obtain ⟨m1, m2, m3, m4⟩ := read_end HH7.out.1 HH7.out.2.1 HH7.out.2.2.2 HH7.out.2.2.1 (.string yo) (.string yt) (.slice ya yn yc) (.int .i64 0)
      unfold put3 at *
      exact ⟨_, resR rfl rfl m1 m2, m3, [.string yo, .string yt, .slice ya yn yc], rfl, m4⟩
  · have hem : (bs sk).toList.isEmpty = false := by rw [ByteArray.toList_eq, bs_list]; cases sk with | nil => exact absurd rfl hn | cons _ _ => rfl
    have HN0 := Lib.hid hn
    clear hn
    go_wp2_with (first
      | (go_at_call 43; (with_reducible refine Calls.mono HS.out ?_); rintro e w6 ⟨rfl, hr6, hg6⟩; have HR6 := Lib.hid hr6; have HG6 := Lib.hid hg6; have hz6 := HZ6.out _ hg6; have HH6 := Lib.hid hz6; have d0 := cell_of hz6.1 0; have d1 := cell_of hz6.1 1; have d2 := cell_of hz6.1 2; have f0 := free_of hz6.1 0; have f1 := free_of hz6.1 1; have f2 := free_of hz6.1 2; clear hr6 hg6 hz6)
      | (go_at_call 42; (with_reducible refine Calls.mono (HN.out _) ?_); rintro e w4 ⟨rfl, hw4⟩; replace hw4 := hw4.symm; subst hw4; unfold thrown))
    have HH := HH6
    clear a0 a1 a2 b0 b1 b2 d0 d1 d2 f0 f1 f2 HS
    refine leaves_cons (f := 40) (args := #[.pointer (some ⟨W.heap.size, 0, none⟩), .pointer (some ⟨W.heap.size + 1, 0, none⟩)]) (by simp) (by simp [go_sem]) ?_
    refine (caught W.heap.size _ _ _ _ [] _ HH.out.1 HH.out.2.1).mono ?_
    rintro e u' w'' ⟨rfl, rfl, rfl⟩
    obtain ⟨r0, r1, r2⟩ := caught_end HH.out.1 HH.out.2.1 HH.out.2.2.2 (.string ⟨#[]⟩) (.string ⟨#[]⟩) (.slice none 0 0) (.int .i64 8) (.int .i64 8)
    have hrv : RV = none := HRV.out.trans (if_neg (fun h => HN0.out h.1))
    rw [hrv]
    exact ⟨_, resR rfl rfl r0 r1, r2, rfl⟩
theorem read_any (l : List UInt8) (W : World) (hl : l.length ≤ 500) : Calls Tryz.prog 28 #[.string (bs l)] W (ReadP W (readF l)) := by
  cases hc : consF (factorF 100) l with
  | none =>
    have e : readF l = none := by unfold readF; rw [hc]
    rw [e]
    exact read_none l W hl hc
  | some xr =>
    obtain ⟨x, r⟩ := xr
    exact read_some l W hl x r hc _ (by unfold readF; rw [hc])
/-- What Read gives: a text that is too long is none. -/
def readV (l : List UInt8) : Option Ex := if 500 < l.length then none else readF l
def ReadV (W : World) (l : List UInt8) (e : Ending) (w' : World) : Prop := Below W.heap.size W w' ∧ match readV l with
  | some x => ∃ vs, e = .returned (.tuple #[.agg vs.toArray, .int .i64 0]) ∧ ExAt w' (fun b => W.heap.size ≤ b) x vs
  | none => e = .returned (.tuple #[.agg #[.string ⟨#[]⟩, .string ⟨#[]⟩, .slice none 0 0], .int .i64 (if 500 < l.length then 12 else 8)])
theorem put_end {W w2 : World} {va vb vc : Value} (h0 : w2.heap[W.heap.size]? = some (.cells #[va, vb, vc] 29 (0, 0))) (hb : Below W.heap.size W w2) (v0 v1 v2 : Value) :
    (put3 w2 W.heap.size v0 v1 v2).heap[W.heap.size]? = some (.cells #[v0, v1, v2] 29 (0, 0)) ∧ Below W.heap.size W (put3 w2 W.heap.size v0 v1 v2) ∧ ∀ (x : Ex) (vs : List Value), ExAt w2 (fun b => W.heap.size + 1 ≤ b) x vs → ExAt (put3 w2 W.heap.size v0 v1 v2) (fun b => W.heap.size ≤ b) x vs := by
  obtain ⟨p1, p2⟩ := put3_at h0 v0 v1 v2
  refine ⟨p1, ?_, fun x vs hx => hx.keep ⟨p2.size, fun b hb hlt => p2.block b hlt (fun e => by have := Option.some.inj e; omega)⟩ (fun b hb _ => by omega) x _⟩
  unfold put3
  exact ((hb.setCell (p := ⟨W.heap.size, 0, none⟩) (Nat.le_refl _) _).setCell (p := ⟨W.heap.size, 1, none⟩) (Nat.le_refl _) _).setCell (p := ⟨W.heap.size, 2, none⟩) (Nat.le_refl _) _
set_option maxHeartbeats 1600000 in
theorem Read_v (l : List UInt8) (W : World) (hl : l.length ≤ 1000000000) : Calls Tryz.prog 19 #[.string (bs l)] W (ReadV W l) := by
  have hA := heap_alloc_new W (.cells #[.string ⟨#[]⟩, .string ⟨#[]⟩, .slice none 0 0] 29)
  have hbl : Below W.heap.size W (W.alloc (.cells #[.string ⟨#[]⟩, .string ⟨#[]⟩, .slice none 0 0] 29)) := (Below.refl _ _).alloc (Nat.le_refl _) _
  have hsa : (W.alloc (.cells #[.string ⟨#[]⟩, .string ⟨#[]⟩, .slice none 0 0] 29)).heap.size = W.heap.size + 1 := by simp
  have hsz := bs_size l
  by_cases h5 : 500 < l.length
  · have hd : (500 : Int) < (l.length : Int) := by omega
    go_enter Tryz.func19, Tryz.ntmps19
    go_wp2_with fail
    have a0 := cell_of hA 0
    have a1 := cell_of hA 1
    have a2 := cell_of hA 2
    refine bodyPost_ret (v := .tuple #[.agg #[.string ⟨#[]⟩, .string ⟨#[]⟩, .slice none 0 0], .int .i64 12]) ?_ rfl ⟨hbl, ?_⟩
    · simp [results, Tryz.results19, go_sem, a0, a1, a2]
    · unfold readV
      rw [if_pos h5, if_pos h5]
  · have hd : (l.length : Int) ≤ (500 : Int) := by omega
    have hcall := read_any l (W.alloc (.cells #[.string ⟨#[]⟩, .string ⟨#[]⟩, .slice none 0 0] 29)) (by omega)
    unfold ReadP at hcall
    rw [hsa] at hcall
    cases hr : readF l with
    | none =>
      rw [hr] at hcall
      have HC := Lib.hid hcall
      have HZ := Lib.hid (fun (w' : World) (hb : Below (W.heap.size + 1) (W.alloc (.cells #[.string ⟨#[]⟩, .string ⟨#[]⟩, .slice none 0 0] 29)) w') => put_end ((hb.block W.heap.size (by omega)).trans hA) (hbl.trans (hb.mono (by omega))))
      have HZ0 := Lib.hid (fun (w' : World) (hb : Below (W.heap.size + 1) (W.alloc (.cells #[.string ⟨#[]⟩, .string ⟨#[]⟩, .slice none 0 0] 29)) w') => (hb.block W.heap.size (by omega)).trans hA)
      clear hcall
      go_enter Tryz.func19, Tryz.ntmps19
      go_wp2_with (go_at_call 28; (with_reducible refine Calls.mono HC.out ?_); rintro e w2 ⟨hb2, rfl⟩; have HB2 := Lib.hid hb2; have hz2 := HZ0.out _ hb2; have d0 := cell_of hz2 0; have d1 := cell_of hz2 1; have d2 := cell_of hz2 2; have f0 := free_of hz2 0; have f1 := free_of hz2 1; have f2 := free_of hz2 2; clear hb2 hz2)
      obtain ⟨p1, p2, p3⟩ := HZ.out _ HB2.out (.string ⟨#[]⟩) (.string ⟨#[]⟩) (.slice none 0 0)
      have a0 := cell_of p1 0
      have a1 := cell_of p1 1
      have a2 := cell_of p1 2
      unfold put3 at *
      refine bodyPost_ret (v := .tuple #[.agg #[.string ⟨#[]⟩, .string ⟨#[]⟩, .slice none 0 0], .int .i64 8]) ?_ rfl ⟨p2, ?_⟩
      · simp [results, Tryz.results19, go_sem, a0, a1, a2]
      · unfold readV
        rw [if_neg h5, if_neg h5, hr]
    | some x =>
      rw [hr] at hcall
      have HC := Lib.hid hcall
      have HZ := Lib.hid (fun (w' : World) (hb : Below (W.heap.size + 1) (W.alloc (.cells #[.string ⟨#[]⟩, .string ⟨#[]⟩, .slice none 0 0] 29)) w') => put_end ((hb.block W.heap.size (by omega)).trans hA) (hbl.trans (hb.mono (by omega))))
      have HZ0 := Lib.hid (fun (w' : World) (hb : Below (W.heap.size + 1) (W.alloc (.cells #[.string ⟨#[]⟩, .string ⟨#[]⟩, .slice none 0 0] 29)) w') => (hb.block W.heap.size (by omega)).trans hA)
      clear hcall
      go_enter Tryz.func19, Tryz.ntmps19
      go_wp2_with (go_at_call 28; (with_reducible refine Calls.mono HC.out ?_); rintro e w2 ⟨hb2, vs, rfl, hx⟩; obtain ⟨yo, yt, ya, yn, yc, rfl⟩ := hx.shape; have HX := Lib.hid hx; have HB2 := Lib.hid hb2; have hz2 := HZ0.out _ hb2; have d0 := cell_of hz2 0; have d1 := cell_of hz2 1; have d2 := cell_of hz2 2; have f0 := free_of hz2 0; have f1 := free_of hz2 1; have f2 := free_of hz2 2; clear hb2 hz2 hx)
      obtain ⟨p1, p2, p3⟩ := HZ.out _ HB2.out (.string yo) (.string yt) (.slice ya yn yc)
      have hxw := p3 _ _ HX.out
      have a0 := cell_of p1 0
      have a1 := cell_of p1 1
      have a2 := cell_of p1 2
      unfold put3 at *
      refine bodyPost_ret (v := .tuple #[.agg #[.string yo, .string yt, .slice ya yn yc], .int .i64 0]) ?_ rfl ⟨p2, ?_⟩
      · simp [results, Tryz.results19, go_sem, a0, a1, a2]
      · unfold readV
        rw [if_neg h5, hr]
        exact ⟨[.string yo, .string yt, .slice ya yn yc], rfl, hxw⟩
end Go.Proofs.YtjgpopjnmonlkaaGreatDoor
