import Derived.Test.YtppnjliamfnlkaaLtH
import Derived.Test.YtppnjliamfnlkaaLtF
namespace Go.Proofs.Ytppnjliamfnlkaa
open Go.RowKit
set_option linter.unusedSimpArgs false
set_option linter.unusedVariables false
set_option linter.unusedSectionVars false

/-! Layer 3: answer at a closure that is known by its contract; Number. -/
structure Box2 (A : Nat) (w : World) (v0 v1 : Value) : Prop where
  h0 : w.heap[A]? = some (.cells #[v0] 9)
  h1 : w.heap[A + 1]? = some (.cells #[v1] 22)
def box2 (w : World) : World := (w.alloc (.cells #[.string ⟨#[]⟩] 9)).alloc (.cells #[.int .i64 0] 22)
theorem box2_new (w : World) : Box2 w.heap.size (box2 w) (.string ⟨#[]⟩) (.int .i64 0) ∧ (box2 w).heap.size = w.heap.size + 1 + 1 ∧ Below w.heap.size w (box2 w) := by
  have e1 := heap_alloc_new w (.cells #[.string ⟨#[]⟩] 9)
  have e2 := heap_alloc_new (w.alloc (.cells #[.string ⟨#[]⟩] 9)) (.cells #[.int .i64 0] 22)
  refine ⟨⟨?_, ?_⟩, by simp [box2], ((Below.refl _ _).alloc (Nat.le_refl _) _).alloc (by simp) _⟩
  · unfold box2
    rw [Below.heap_alloc _ _ _ (by simp)]; exact e1
  · unfold box2
    simpa using e2
theorem Box2.below {A B : Nat} {w w' : World} {v0 v1 : Value} (h : Box2 A w v0 v1) (hb : Below B w w') (hB : A + 1 < B) : Box2 A w' v0 v1 :=
  ⟨(hb.block _ (by omega)).trans h.h0, (hb.block _ (by omega)).trans h.h1⟩
theorem Box2.set0 {A : Nat} {w : World} {v0 v1 : Value} (h : Box2 A w v0 v1) (u : Value) : Box2 A (w.setCell ⟨A, 0, none⟩ u) u v1 := by
  refine ⟨by simpa using heap_setCell h.h0 (i := 0) u, ?_⟩
  rw [Below.heap_setCell _ _ _ _ (by simp)]; exact h.h1
theorem Box2.set1 {A : Nat} {w : World} {v0 v1 : Value} (h : Box2 A w v0 v1) (u : Value) : Box2 A (w.setCell ⟨A + 1, 0, none⟩ u) v0 u := by
  refine ⟨?_, by simpa using heap_setCell h.h1 (i := 0) u⟩
  rw [Below.heap_setCell _ _ _ _ (by simp)]; exact h.h0
theorem Box2.res {A : Nat} {w : World} {v0 v1 : Value} (h : Box2 A w v0 v1) {tmps : Array Value} (t0 : tmps[2]? = some (.pointer (some ⟨A, 0, none⟩))) (t1 : tmps[3]? = some (.pointer (some ⟨A + 1, 0, none⟩))) :
    (results Try.f17 tmps).run Try.prog w = .ok (.tuple #[v0, v1]) w :=
  resA t0 t1 (cell_of h.h0 0) (cell_of h.h1 0)
theorem below_cells {A : Nat} {w0 w : World} (h : Below A w0 w) (k : Nat) (u : Value) : Below A w0 (w.setCell ⟨A + k, 0, none⟩ u) :=
  h.setCell (p := ⟨A + k, 0, none⟩) (by show A ≤ A + k; omega) _

set_option maxHeartbeats 1600000 in
theorem ansN_ok (caps : Array Value) (r : ByteArray) (w : World)
    (h : ∀ w1, Below w.heap.size w w1 → Calls Try.prog 18 caps w1 fun e w2 => e = .returned (.string r) ∧ Below w1.heap.size w1 w2) :
    Calls Try.prog 17 #[.func (.func 18) #[] caps] w fun e w' => e = .returned (.tuple #[.string r, .int .i64 0]) ∧ Below w.heap.size w w' := by
  have hmf : ∀ (fn : Fn) (first cap : Array Value) (w : World), (Instr.makeFunc fn first cap).run Try.prog w = .ok (.func fn first cap) w := fun _ _ _ _ => rfl
  obtain ⟨hx, hz, hbl⟩ := box2_new w
  have hcall := h (box2 w) hbl
  go_enter_defers Try.func17, Try.ntmps17
  go_wp2_with fail
  change Calls Try.prog 18 _ (box2 w) _
  generalize box2 w = w1 at *
  have HBL := Lib.hid hbl
  generalize hA : w.heap.size = A at *
  refine hcall.mono ?_
  rintro e w2 ⟨rfl, hb2⟩
  have hx2 := hx.below hb2 (by omega)
  have HX2 := Lib.hid hx2
  have a0 := cell_of hx2.h0 0
  have a1 := cell_of hx2.h1 0
  have b0 := free_of hx2.h0 0
  have b1 := free_of hx2.h1 0
  have HBB : Hid (Below A w w2) := Lib.hid (HBL.out.trans (hb2.mono (by omega)))
  clear hx2 hx hb2 hbl hcall h
  go_wp2_with fail
  refine leaves_cons (f := 27) (args := #[.pointer (some ⟨A, 0, none⟩), .pointer (some ⟨A + 1, 0, none⟩)]) (by simp) (by simp [go_sem]) ?_
  refine (idle _ _ _).mono ?_
  rintro e u' w'' ⟨rfl, rfl, rfl⟩
  refine ⟨_, ((HX2.out.set0 (.string r)).set1 (.int .i64 0)).res rfl rfl, rfl, ?_⟩
  rw [hA]
  exact below_cells (below_cells HBB.out 0 _) 1 _

set_option maxHeartbeats 1600000 in
theorem ansN_no (caps : Array Value) (n : Int) (w : World)
    (h : ∀ w1, Below w.heap.size w w1 → Calls Try.prog 18 caps w1 fun e w2 => e = .panicked [{ v := .iface 22 (.int .i64 n), recovered := false }] ∧ Below w1.heap.size w1 w2) :
    Calls Try.prog 17 #[.func (.func 18) #[] caps] w fun e w' => e = .returned (.tuple #[.string ⟨#[]⟩, .int .i64 n]) ∧ Below w.heap.size w w' := by
  have hmf : ∀ (fn : Fn) (first cap : Array Value) (w : World), (Instr.makeFunc fn first cap).run Try.prog w = .ok (.func fn first cap) w := fun _ _ _ _ => rfl
  obtain ⟨hx, hz, hbl⟩ := box2_new w
  have hcall := h (box2 w) hbl
  go_enter_defers Try.func17, Try.ntmps17
  go_wp2_with fail
  change Calls Try.prog 18 _ (box2 w) _
  generalize box2 w = w1 at *
  have HBL := Lib.hid hbl
  generalize hA : w.heap.size = A at *
  refine hcall.mono ?_
  rintro e w2 ⟨rfl, hb2⟩
  have hx2 := hx.below hb2 (by omega)
  have HBB : Hid (Below A w w2) := Lib.hid (HBL.out.trans (hb2.mono (by omega)))
  clear hx hb2 hbl hcall h
  go_wp2_with fail
  refine leaves_cons (f := 27) (args := #[.pointer (some ⟨A, 0, none⟩), .pointer (some ⟨A + 1, 0, none⟩)]) (by simp) (by simp [go_sem]) ?_
  refine (caught A _ _ n [] w2 ⟨_, hx2.h0⟩ ⟨_, hx2.h1⟩).mono ?_
  rintro e u' w'' ⟨rfl, rfl, rfl⟩
  refine ⟨_, (((hx2.set0 (.string ⟨#[]⟩)).set1 (.int .i64 4)).set1 (.int .i64 n)).res rfl rfl, rfl, ?_⟩
  rw [hA]
  exact below_cells (below_cells (below_cells HBB.out 0 _) 1 _) 1 _

set_option maxHeartbeats 1600000 in
theorem ansT_ok (caps : Array Value) (r : ByteArray) (w : World)
    (h : ∀ w1, Below w.heap.size w w1 → Calls Try.prog 23 caps w1 fun e w2 => e = .returned (.string r) ∧ Below w1.heap.size w1 w2) :
    Calls Try.prog 17 #[.func (.func 23) #[] caps] w fun e w' => e = .returned (.tuple #[.string r, .int .i64 0]) ∧ Below w.heap.size w w' := by
  have hmf : ∀ (fn : Fn) (first cap : Array Value) (w : World), (Instr.makeFunc fn first cap).run Try.prog w = .ok (.func fn first cap) w := fun _ _ _ _ => rfl
  obtain ⟨hx, hz, hbl⟩ := box2_new w
  have hcall := h (box2 w) hbl
  go_enter_defers Try.func17, Try.ntmps17
  go_wp2_with fail
  change Calls Try.prog 23 _ (box2 w) _
  generalize box2 w = w1 at *
  have HBL := Lib.hid hbl
  generalize hA : w.heap.size = A at *
  refine hcall.mono ?_
  rintro e w2 ⟨rfl, hb2⟩
  have hx2 := hx.below hb2 (by omega)
  have HX2 := Lib.hid hx2
  have a0 := cell_of hx2.h0 0
  have a1 := cell_of hx2.h1 0
  have b0 := free_of hx2.h0 0
  have b1 := free_of hx2.h1 0
  have HBB : Hid (Below A w w2) := Lib.hid (HBL.out.trans (hb2.mono (by omega)))
  clear hx2 hx hb2 hbl hcall h
  go_wp2_with fail
  refine leaves_cons (f := 27) (args := #[.pointer (some ⟨A, 0, none⟩), .pointer (some ⟨A + 1, 0, none⟩)]) (by simp) (by simp [go_sem]) ?_
  refine (idle _ _ _).mono ?_
  rintro e u' w'' ⟨rfl, rfl, rfl⟩
  refine ⟨_, ((HX2.out.set0 (.string r)).set1 (.int .i64 0)).res rfl rfl, rfl, ?_⟩
  rw [hA]
  exact below_cells (below_cells HBB.out 0 _) 1 _

set_option maxHeartbeats 1600000 in
theorem ansT_no (caps : Array Value) (n : Int) (w : World)
    (h : ∀ w1, Below w.heap.size w w1 → Calls Try.prog 23 caps w1 fun e w2 => e = .panicked [{ v := .iface 22 (.int .i64 n), recovered := false }] ∧ Below w1.heap.size w1 w2) :
    Calls Try.prog 17 #[.func (.func 23) #[] caps] w fun e w' => e = .returned (.tuple #[.string ⟨#[]⟩, .int .i64 n]) ∧ Below w.heap.size w w' := by
  have hmf : ∀ (fn : Fn) (first cap : Array Value) (w : World), (Instr.makeFunc fn first cap).run Try.prog w = .ok (.func fn first cap) w := fun _ _ _ _ => rfl
  obtain ⟨hx, hz, hbl⟩ := box2_new w
  have hcall := h (box2 w) hbl
  go_enter_defers Try.func17, Try.ntmps17
  go_wp2_with fail
  change Calls Try.prog 23 _ (box2 w) _
  generalize box2 w = w1 at *
  have HBL := Lib.hid hbl
  generalize hA : w.heap.size = A at *
  refine hcall.mono ?_
  rintro e w2 ⟨rfl, hb2⟩
  have hx2 := hx.below hb2 (by omega)
  have HBB : Hid (Below A w w2) := Lib.hid (HBL.out.trans (hb2.mono (by omega)))
  clear hx hb2 hbl hcall h
  go_wp2_with fail
  refine leaves_cons (f := 27) (args := #[.pointer (some ⟨A, 0, none⟩), .pointer (some ⟨A + 1, 0, none⟩)]) (by simp) (by simp [go_sem]) ?_
  refine (caught A _ _ n [] w2 ⟨_, hx2.h0⟩ ⟨_, hx2.h1⟩).mono ?_
  rintro e u' w'' ⟨rfl, rfl, rfl⟩
  refine ⟨_, (((hx2.set0 (.string ⟨#[]⟩)).set1 (.int .i64 4)).set1 (.int .i64 n)).res rfl rfl, rfl, ?_⟩
  rw [hA]
  exact below_cells (below_cells (below_cells HBB.out 0 _) 1 _) 1 _


theorem number_ok (s r : ByteArray) (w : World) (hs : s.size ≤ 10000) (h : numR s = some r) :
    Calls Try.prog 20 #[.string s] w fun e w' => e = .returned (.string r) ∧ Below w.heap.size w w' := by
  unfold numR at h
  split at h
  · simp at h
  · rename_i b n hsp
    refine (number_some s b n w hs hsp).mono ?_
    rintro e w' ⟨he, hb⟩
    cases hd : digF (s.extract n s.size) b ((s.extract n s.size).size + 1) 0 0 [] with
    | none => rw [hd] at h; simp at h
    | some l =>
      rw [hd] at h he
      simp only [Option.map_some, Option.some.injEq] at h
      exact ⟨by rw [← h]; exact he, hb⟩
set_option maxHeartbeats 800000 in
theorem number_none (s : ByteArray) (w : World) (hs : s.size ≤ 10000) (h : splitF s = none) :
    Calls Try.prog 20 #[.string s] w fun e w' => e = .panicked [{ v := .iface 22 (.int .i64 4), recovered := false }] ∧ Below w.heap.size w w' := by
  have hsp := split_any s w (by omega)
  rw [h] at hsp
  simp only [thrown] at hsp
  clear h
  go_enter Try.func20, Try.ntmps20
  go_wp2_with (go_at_call 28; with_reducible refine Calls.mono hsp ?_; rintro e w2 ⟨rfl, hb⟩)
  exact ⟨rfl, rfl, by assumption⟩
theorem number_no (s : ByteArray) (w : World) (hs : s.size ≤ 10000) (h : numR s = none) :
    Calls Try.prog 20 #[.string s] w fun e w' => e = .panicked [{ v := .iface 22 (.int .i64 4), recovered := false }] ∧ Below w.heap.size w w' := by
  unfold numR at h
  split at h
  · rename_i hsp
    exact number_none s w hs hsp
  · rename_i b n hsp
    refine (number_some s b n w hs hsp).mono ?_
    rintro e w' ⟨he, hb⟩
    cases hd : digF (s.extract n s.size) b ((s.extract n s.size).size + 1) 0 0 [] with
    | none => rw [hd] at he; exact ⟨he, hb⟩
    | some l => rw [hd] at h; simp at h

def numV (s : ByteArray) : ByteArray := if 200 < s.size then ⟨#[]⟩ else (numR s).getD ⟨#[]⟩
def numE (s : ByteArray) : Int := if 200 < s.size then 12 else if numR s = none then 4 else 0
set_option maxHeartbeats 800000 in
theorem Number1_ok (A : Nat) (s r : ByteArray) (w : World) (hc : w.cell? ⟨A, 0, none⟩ = some (.string s)) (hs : s.size ≤ 200) (h : numR s = some r) :
    Calls Try.prog 18 #[.pointer (some ⟨A, 0, none⟩)] w fun e w' => e = .returned (.string r) ∧ Below w.heap.size w w' := by
  have hn := number_ok s r w (by omega) h
  clear h
  have hd : decide ((s.size : Int) ≤ 200) = true := by simp; omega
  go_enter Try.func18, Try.ntmps18
  go_wp2_with (first
    | (go_at_call 19; with_reducible refine Calls.mono (need_yes _ _) ?_; rintro e w2 ⟨rfl, hw2⟩; replace hw2 := hw2.symm; subst hw2)
    | (go_at_call 20; with_reducible refine Calls.mono hn ?_; rintro e w2 ⟨rfl, hb⟩))
  go_ret
  exact ⟨rfl, by assumption⟩
set_option maxHeartbeats 800000 in
theorem Number1_no (A : Nat) (s : ByteArray) (w : World) (hc : w.cell? ⟨A, 0, none⟩ = some (.string s)) (hs : s.size ≤ 200) (h : numR s = none) :
    Calls Try.prog 18 #[.pointer (some ⟨A, 0, none⟩)] w fun e w' => e = .panicked [{ v := .iface 22 (.int .i64 4), recovered := false }] ∧ Below w.heap.size w w' := by
  have hn := number_no s w (by omega) h
  clear h
  have hd : decide ((s.size : Int) ≤ 200) = true := by simp; omega
  go_enter Try.func18, Try.ntmps18
  go_wp2_with (first
    | (go_at_call 19; with_reducible refine Calls.mono (need_yes _ _) ?_; rintro e w2 ⟨rfl, hw2⟩; replace hw2 := hw2.symm; subst hw2)
    | (go_at_call 20; with_reducible refine Calls.mono hn ?_; rintro e w2 ⟨rfl, hb⟩))
  exact ⟨rfl, rfl, by assumption⟩
set_option maxHeartbeats 800000 in
theorem Number1_long (A : Nat) (s : ByteArray) (w : World) (hc : w.cell? ⟨A, 0, none⟩ = some (.string s)) (hs : 200 < s.size) (hs2 : s.size ≤ 4611686018427387904) :
    Calls Try.prog 18 #[.pointer (some ⟨A, 0, none⟩)] w fun e w' => e = .panicked [{ v := .iface 22 (.int .i64 12), recovered := false }] ∧ Below w.heap.size w w' := by
  have hd : decide ((s.size : Int) ≤ 200) = false := by simp; omega
  go_enter Try.func18, Try.ntmps18
  go_wp2_with (first
    | (go_at_call 19; with_reducible refine Calls.mono (need_no _ _) ?_; rintro e w2 ⟨rfl, hw2⟩; replace hw2 := hw2.symm; subst hw2))
  exact ⟨rfl, rfl, Below.refl _ _⟩
theorem Number_in (A : Nat) (s : ByteArray) (w : World) (hc : w.cell? ⟨A, 0, none⟩ = some (.string s)) (hs2 : s.size ≤ 4611686018427387904) :
    Calls Try.prog 17 #[.func (.func 18) #[] #[.pointer (some ⟨A, 0, none⟩)]] w fun e w' => e = .returned (.tuple #[.string (numV s), .int .i64 (numE s)]) ∧ Below w.heap.size w w' := by
  have hlt := World.block_lt_of_cell? _ _ hc
  have hcc : ∀ w1, Below w.heap.size w w1 → w1.cell? ⟨A, 0, none⟩ = some (.string s) := fun w1 hb => (hb.cell hlt).trans hc
  by_cases h1 : 200 < s.size
  · rw [numV, numE, if_pos h1, if_pos h1]
    exact ansN_no _ 12 w fun w1 hb => Number1_long A s w1 (hcc w1 hb) h1 hs2
  · rw [numV, numE, if_neg h1, if_neg h1]
    cases h2 : numR s with
    | none => exact ansN_no _ 4 w fun w1 hb => Number1_no A s w1 (hcc w1 hb) (by omega) h2
    | some r => exact ansN_ok _ r w fun w1 hb => Number1_ok A s r w1 (hcc w1 hb) (by omega) h2
set_option maxHeartbeats 800000 in
theorem Number_any (s : ByteArray) (w : World) (hs2 : s.size ≤ 4611686018427387904) :
    Calls Try.prog 8 #[.string s] w fun e w' => e = .returned (.tuple #[.string (numV s), .int .i64 (numE s)]) ∧ Below w.heap.size w w' := by
  have hmf : ∀ (fn : Fn) (first cap : Array Value) (w : World), (Instr.makeFunc fn first cap).run Try.prog w = .ok (.func fn first cap) w := fun _ _ _ _ => rfl
  have hin := Number_in w.heap.size s (w.alloc (.cells #[.string s] 9)) (by simp) hs2
  go_enter Try.func8, Try.ntmps8
  go_wp2_with (go_at_call 17; with_reducible refine Calls.mono hin ?_; rintro e w2 ⟨rfl, hb⟩)
  go_ret2
  exact ⟨rfl, ((Below.refl _ _).alloc (Nat.le_refl _) _).trans (hb.mono (by simp))⟩
end Go.Proofs.Ytppnjliamfnlkaa
