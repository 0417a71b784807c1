import Derived.Test.YtghfmfgdcpihfaaDoorTkJ
import Derived.Test.YtghfmfgdcpihfaaDoorPlF1
import Derived.Defers
import Derived.Recover
import Derived.Laws.Pointers
namespace Go.Proofs.YtghfmfgdcpihfaaDoor
open Go.RowKit
set_option linter.unusedSimpArgs false
set_option linter.unusedVariables false
set_option linter.unusedSectionVars false

theorem res17 {tmps : Array Value} {w : World} {A : Nat} {v0 v1 v2 v3 : Value} (t0 : tmps[2]? = some (.pointer (some ⟨A, 0, none⟩))) (t1 : tmps[3]? = some (.pointer (some ⟨A + 1, 0, none⟩)))
    (t2 : tmps[4]? = some (.pointer (some ⟨A + 1 + 1, 0, none⟩))) (t3 : tmps[5]? = some (.pointer (some ⟨A + 1 + 1 + 1, 0, none⟩)))
    (c0 : w.cell? ⟨A, 0, none⟩ = some v0) (c1 : w.cell? ⟨A + 1, 0, none⟩ = some v1) (c2 : w.cell? ⟨A + 1 + 1, 0, none⟩ = some v2) (c3 : w.cell? ⟨A + 1 + 1 + 1, 0, none⟩ = some v3) :
    (results Tryd.f6 tmps).run Tryd.prog w = .ok (.tuple #[v0, v1, v2, v3]) w := by
  simp [results, Tryd.results6, go_sem, t0, t1, t2, t3, c0, c1, c2, c3]

set_option maxHeartbeats 1600000 in
theorem scan_long (p : Option Addr) (cap : Nat) (s : ByteArray) (w : World) (hs : 65536 < s.size) (hs2 : s.size ≤ 4611686018427387904) :
    Calls Tryd.prog 6 #[.slice p s.size cap] w fun e w' => e = .returned (.tuple #[.slice none 0 0, .slice none 0 0, .int .i64 65536, .int .i64 12]) ∧ Below w.heap.size w w' := by
  have hmf : ∀ (fn : Fn) (first cap : Array Value) (w : World), (Instr.makeFunc fn first cap).run Tryd.prog w = .ok (.func fn first cap) w := fun _ _ _ _ => rfl
  go_enter_defers Tryd.func6, Tryd.ntmps6
  go_wp2_with fail
  refine ⟨_, res17 (A := w.heap.size) rfl rfl rfl rfl (v0 := .slice none 0 0) (v1 := .slice none 0 0) (v2 := .int .i64 65536) (v3 := .int .i64 12) ?_ ?_ ?_ ?_, rfl, ?_⟩
  · simp [go_sem]
  · simp [go_sem]
  · simp [go_sem]
  · simp [go_sem]
  · exact ((((Below.refl _ _).alloc (Nat.le_refl _) _).alloc (by simp) _).alloc (by simp; omega) _).alloc (by simp; omega) _

set_option maxHeartbeats 1600000 in
theorem catch_panicking (A : Nat) (va vb vc vd : Value) (at_ : Nat) (older : List PanicEntry) (w : World)
    (h0 : ∃ t, w.heap[A]? = some (.cells #[va] t (0, 0))) (h1 : ∃ t, w.heap[A + 1]? = some (.cells #[vb] t (0, 0))) (h2 : ∃ t, w.heap[A + 1 + 1]? = some (.cells #[vc] t (0, 0))) (h3 : ∃ t, w.heap[A + 1 + 1 + 1]? = some (.cells #[vd] t (0, 0))) :
    CallsD Tryd.prog 8 #[.pointer (some ⟨A, 0, none⟩), .pointer (some ⟨A + 1, 0, none⟩), .pointer (some ⟨A + 1 + 1, 0, none⟩), .pointer (some ⟨A + 1 + 1 + 1, 0, none⟩)] (.panicking ({ v := .iface 34 (.int .i64 at_), recovered := false } :: older)) w fun e u' w' =>
      e = .returned (.tuple #[]) ∧ u' = .panicking ({ v := .iface 34 (.int .i64 at_), recovered := true } :: older) ∧ w' = (((w.setCell ⟨A, 0, none⟩ (.slice none 0 0)).setCell ⟨A + 1, 0, none⟩ (.slice none 0 0)).setCell ⟨A + 1 + 1, 0, none⟩ (.int .i64 at_)).setCell ⟨A + 1 + 1 + 1, 0, none⟩ (.int .i64 3) := by
  refine callsD_of_wpS Tryd.func8 rfl fun c₀ cs hu => ?_
  apply wpS_seq
  apply wpS_region
  simp [wpOpsS, go_sem, recoverD, hu, Tryd.ntmps8, Exit.thenS]
  refine wpS_of_wp ?_
  have hz : #[Value.pointer (some ⟨A, 0, none⟩), .pointer (some ⟨A + 1, 0, none⟩), .pointer (some ⟨A + 1 + 1, 0, none⟩), .pointer (some ⟨A + 1 + 1 + 1, 0, none⟩)] ++
          ((Array.replicate 12 undef).setIfInBounds 3 (Value.iface 34 (Value.int IntKind.i64 ↑at_))).setIfInBounds 0
            (Value.iface 34 (Value.int IntKind.i64 ↑at_)) = #[.pointer (some ⟨A, 0, none⟩), .pointer (some ⟨A + 1, 0, none⟩), .pointer (some ⟨A + 1 + 1, 0, none⟩), .pointer (some ⟨A + 1 + 1 + 1, 0, none⟩), .iface 34 (.int .i64 at_), undef, undef, .iface 34 (.int .i64 at_), undef, undef, undef, undef, undef, undef, undef, undef] := rfl
  rw [hz]
  clear hz
  have hta : ∀ w, (Instr.typeAssert (.iface 34 (.int .i64 at_)) 20 34 true).run Tryd.prog w = .ok (.tuple #[.int .i64 at_, .bool true]) w := fun _ => by kernel_rfl
  obtain ⟨t0, h0⟩ := h0
  obtain ⟨t1, h1⟩ := h1
  obtain ⟨t2, h2⟩ := h2
  obtain ⟨t3, h3⟩ := h3
  have a0 := cell_of h0 0
  have a1 := cell_of h1 0
  have a2 := cell_of h2 0
  have a3 := cell_of h3 0
  have b0 := free_of h0 0
  have b1 := free_of h1 0
  have b2 := free_of h2 0
  have b3 := free_of h3 0
  go_wp2_with fail
  exact ⟨rfl, _, rfl, _, results_none rfl _ _ _, rfl, rfl, rfl⟩

set_option maxHeartbeats 400000 in
theorem catch_idle (a b c d : Value) (w : World) :
    CallsD Tryd.prog 8 #[a, b, c, d] .returning w fun e u' w' => e = .returned (.tuple #[]) ∧ u' = .returning ∧ w' = w := by
  refine callsD_of_wpS Tryd.func8 rfl fun c₀ cs hu => ?_
  apply wpS_seq
  apply wpS_region
  simp [wpOpsS, go_sem, recoverD, hu, Tryd.ntmps8, Exit.thenS]
  refine wpS_of_wp ?_
  have hz : #[a, b, c, d] ++ ((Array.replicate 12 undef).setIfInBounds 3 Value.nilIface).setIfInBounds 0 Value.nilIface = #[a, b, c, d, .nilIface, undef, undef, .nilIface, undef, undef, undef, undef, undef, undef, undef, undef] := rfl
  rw [hz]
  clear hz
  go_wp2_with fail
  refine ⟨rfl, .returning, ?_, _, results_none rfl _ _ _, rfl, rfl, rfl⟩
  cases c₀
  simp at hu
  subst hu
  rfl

/-- The four named results, in blocks of their own from A on. -/
structure Boxes (A : Nat) (w : World) (v0 v1 v2 v3 : Value) : Prop where
  h0 : w.heap[A]? = some (.cells #[v0] 23)
  h1 : w.heap[A + 1]? = some (.cells #[v1] 23)
  h2 : w.heap[A + 1 + 1]? = some (.cells #[v2] 3)
  h3 : w.heap[A + 1 + 1 + 1]? = some (.cells #[v3] 24)

def boxed (w : World) : World := (((w.alloc (.cells #[.slice none 0 0] 23)).alloc (.cells #[.slice none 0 0] 23)).alloc (.cells #[.int .i64 0] 3)).alloc (.cells #[.int .i64 0] 24)
theorem boxed_new (w : World) : Boxes w.heap.size (boxed w) (.slice none 0 0) (.slice none 0 0) (.int .i64 0) (.int .i64 0) ∧ (boxed w).heap.size = w.heap.size + 1 + 1 + 1 + 1 ∧ Below w.heap.size w (boxed w) := by
  have e1 := heap_alloc_new w (.cells #[.slice none 0 0] 23)
  have e2 := heap_alloc_new (w.alloc (.cells #[.slice none 0 0] 23)) (.cells #[.slice none 0 0] 23)
  have e3 := heap_alloc_new ((w.alloc (.cells #[.slice none 0 0] 23)).alloc (.cells #[.slice none 0 0] 23)) (.cells #[.int .i64 0] 3)
  have e4 := heap_alloc_new (((w.alloc (.cells #[.slice none 0 0] 23)).alloc (.cells #[.slice none 0 0] 23)).alloc (.cells #[.int .i64 0] 3)) (.cells #[.int .i64 0] 24)
  refine ⟨⟨?_, ?_, ?_, ?_⟩, by simp [boxed], ((((Below.refl _ _).alloc (Nat.le_refl _) _).alloc (by simp) _).alloc (by simp <;> omega) _).alloc (by simp <;> omega) _⟩
  · unfold boxed
    rw [Below.heap_alloc _ _ _ (by simp <;> omega), Below.heap_alloc _ _ _ (by simp <;> omega), Below.heap_alloc _ _ _ (by simp)]; exact e1
  · unfold boxed
    rw [Below.heap_alloc _ _ _ (by simp), Below.heap_alloc _ _ _ (by simp)]; simpa using e2
  · unfold boxed
    rw [Below.heap_alloc _ _ _ (by simp)]; simpa using e3
  · unfold boxed
    simpa using e4
theorem Boxes.below {A B : Nat} {w w' : World} {v0 v1 v2 v3 : Value} (h : Boxes A w v0 v1 v2 v3) (hb : Below B w w') (hB : A + 1 + 1 + 1 < B) : Boxes A w' v0 v1 v2 v3 :=
  ⟨(hb.block _ (by omega)).trans h.h0, (hb.block _ (by omega)).trans h.h1, (hb.block _ (by omega)).trans h.h2, (hb.block _ (by omega)).trans h.h3⟩
theorem Boxes.drew {A : Nat} {w : World} {v0 v1 v2 v3 : Value} (h : Boxes A w v0 v1 v2 v3) : Boxes A w.drew v0 v1 v2 v3 := ⟨h.h0, h.h1, h.h2, h.h3⟩
theorem Boxes.res {A : Nat} {w : World} {v0 v1 v2 v3 : Value} (h : Boxes A w v0 v1 v2 v3) {tmps : Array Value} (t0 : tmps[2]? = some (.pointer (some ⟨A, 0, none⟩))) (t1 : tmps[3]? = some (.pointer (some ⟨A + 1, 0, none⟩)))
    (t2 : tmps[4]? = some (.pointer (some ⟨A + 1 + 1, 0, none⟩))) (t3 : tmps[5]? = some (.pointer (some ⟨A + 1 + 1 + 1, 0, none⟩))) : (results Tryd.f6 tmps).run Tryd.prog w = .ok (.tuple #[v0, v1, v2, v3]) w :=
  res17 t0 t1 t2 t3 (cell_of h.h0 0) (cell_of h.h1 0) (cell_of h.h2 0) (cell_of h.h3 0)
theorem Boxes.set {A : Nat} {w : World} {v0 v1 v2 v3 : Value} (h : Boxes A w v0 v1 v2 v3) (u0 u1 u2 u3 : Value) :
    Boxes A ((((w.setCell ⟨A, 0, none⟩ u0).setCell ⟨A + 1, 0, none⟩ u1).setCell ⟨A + 1 + 1, 0, none⟩ u2).setCell ⟨A + 1 + 1 + 1, 0, none⟩ u3) u0 u1 u2 u3 := by
  have g0 := heap_setCell h.h0 (i := 0) u0
  have g1 : (w.setCell ⟨A, 0, none⟩ u0).heap[A + 1]? = some (.cells #[v1] 23) := by rw [Below.heap_setCell _ _ _ _ (by simp)]; exact h.h1
  have g2 : ((w.setCell ⟨A, 0, none⟩ u0).setCell ⟨A + 1, 0, none⟩ u1).heap[A + 1 + 1]? = some (.cells #[v2] 3) := by rw [Below.heap_setCell _ _ _ _ (by simp), Below.heap_setCell _ _ _ _ (by simp <;> omega)]; exact h.h2
  have g3 : (((w.setCell ⟨A, 0, none⟩ u0).setCell ⟨A + 1, 0, none⟩ u1).setCell ⟨A + 1 + 1, 0, none⟩ u2).heap[A + 1 + 1 + 1]? = some (.cells #[v3] 24) := by
    rw [Below.heap_setCell _ _ _ _ (by simp), Below.heap_setCell _ _ _ _ (by simp <;> omega), Below.heap_setCell _ _ _ _ (by simp <;> omega)]; exact h.h3
  have k1 := heap_setCell g1 (i := 0) u1
  have k2 := heap_setCell g2 (i := 0) u2
  have k3 := heap_setCell g3 (i := 0) u3
  refine ⟨?_, ?_, ?_, k3⟩
  · rw [Below.heap_setCell _ _ _ _ (by simp <;> omega), Below.heap_setCell _ _ _ _ (by simp <;> omega), Below.heap_setCell _ _ _ _ (by simp)]; exact g0
  · rw [Below.heap_setCell _ _ _ _ (by simp <;> omega), Below.heap_setCell _ _ _ _ (by simp)]; exact k1
  · rw [Below.heap_setCell _ _ _ _ (by simp)]; exact k2

theorem below_set {A : Nat} {w0 w : World} (h : Below A w0 w) (u0 u1 u2 u3 : Value) :
    Below A w0 ((((w.setCell ⟨A, 0, none⟩ u0).setCell ⟨A + 1, 0, none⟩ u1).setCell ⟨A + 1 + 1, 0, none⟩ u2).setCell ⟨A + 1 + 1 + 1, 0, none⟩ u3) :=
  (((h.setCell (p := ⟨A, 0, none⟩) (Nat.le_refl _) _).setCell (p := ⟨A + 1, 0, none⟩) (by show A ≤ A + 1; omega) _).setCell (p := ⟨A + 1 + 1, 0, none⟩) (by show A ≤ A + 1 + 1; omega) _).setCell (p := ⟨A + 1 + 1 + 1, 0, none⟩) (by show A ≤ A + 1 + 1 + 1; omega) _

set_option maxHeartbeats 1600000 in
theorem scan_wrong (p : Option Addr) (cap : Nat) (s : ByteArray) (w : World) (hb : BSl w p s) (hs : s.size ≤ 65536) (hw : 0 ≤ wrongF s) :
    Calls Tryd.prog 6 #[.slice p s.size cap] w fun e w' => e = .returned (.tuple #[.slice none 0 0, .slice none 0 0, .int .i64 (wrongF s), .int .i64 2]) ∧ Below w.heap.size w w' := by
  have hmf : ∀ (fn : Fn) (first cap : Array Value) (w : World), (Instr.makeFunc fn first cap).run Tryd.prog w = .ok (.func fn first cap) w := fun _ _ _ _ => rfl
  obtain ⟨hx, hz, hbl⟩ := boxed_new w
  have HB := Lib.hid hb
  clear hb
  generalize hr : wrongF s = r at hw ⊢
  have HR := Lib.hid hr
  clear hr
  go_enter_defers Tryd.func6, Tryd.ntmps6
  go_wp2_with fail
  change Calls Tryd.prog 7 _ (boxed w) _
  generalize boxed w = w1 at *
  have HW := Lib.hid hw
  have HBL := Lib.hid hbl
  have hb1 := HB.out.below hbl
  generalize hA : w.heap.size = A at *
  go_at_call 7
  refine (wrong_b p cap s w1 hb1 (by omega)).mono ?_
  rintro e w2 ⟨rfl, hb2⟩
  rw [HR.out]
  have hx2 := hx.below hb2 (by omega)
  have HX2 := Lib.hid hx2
  have a0 := cell_of hx2.h0 0
  have a1 := cell_of hx2.h1 0
  have a2 := cell_of hx2.h2 0
  have a3 := cell_of hx2.h3 0
  have b0 := free_of hx2.h0 0
  have b1 := free_of hx2.h1 0
  have b2 := free_of hx2.h2 0
  have b3 := free_of hx2.h3 0
  have HBB : Hid (Below A w w2) := Lib.hid (HBL.out.trans (hb2.mono (by omega)))
  clear hx2 hx hb2 hb1 hbl
  go_wp2_with fail
  refine ⟨_, (HX2.out.set (.slice none 0 0) (.slice none 0 0) (.int .i64 r) (.int .i64 2)).res rfl rfl rfl rfl, rfl, ?_⟩
  rw [hA]
  exact below_set HBB.out _ _ _ _

theorem own_nil (w : World) (base : Nat) : w.ownsRow base 29 3 (.slice none 0 0) ([] : List Tok).length (flat []) := ⟨rfl, .inl ⟨rfl, rfl⟩⟩
theorem own_base {w : World} {base base' e size n : Nat} {v : Value} {xs : List Value} (h : w.ownsRow base e size v n xs) (hb : base' ≤ base) : w.ownsRow base' e size v n xs := by
  refine ⟨h.1, ?_⟩
  rcases h.2 with h | ⟨g, cap, cur, a, b, c⟩
  · exact .inl h
  · exact .inr ⟨g, cap, cur, a, Nat.le_trans hb b, c⟩

theorem own_slice {w : World} {base e size n : Nat} {v : Value} {xs : List Value} (h : w.ownsRow base e size v n xs) : ∃ a c, v = .slice a n c := by
  rcases h.2 with ⟨rfl, rfl⟩ | ⟨g, cap, cur, rfl, _⟩
  · exact ⟨_, _, rfl⟩
  · exact ⟨_, _, rfl⟩

theorem own_set {w : World} {base e size n A : Nat} {v : Value} {xs : List Value} (h : w.ownsRow base e size v n xs) (hA : A + 1 + 1 + 1 < base) (u0 u1 u2 u3 : Value) :
    ((((w.setCell ⟨A, 0, none⟩ u0).setCell ⟨A + 1, 0, none⟩ u1).setCell ⟨A + 1 + 1, 0, none⟩ u2).setCell ⟨A + 1 + 1 + 1, 0, none⟩ u3).drew.ownsRow base e size v n xs := by
  have hne : ∀ k, k < base → v.ownBlock ≠ some k := fun k hk e => by have := (h.lt k e).1; omega
  exact ownsRow_setCell_other (ownsRow_setCell_other (ownsRow_setCell_other (ownsRow_setCell_other h (hne A (by omega)) _) (hne (A + 1) (by omega)) _) (hne (A + 1 + 1) (by omega)) _) (hne (A + 1 + 1 + 1) hA) _

/-- What the whole of the scanner comes to. -/
def scanF (s : ByteArray) : Except (Int × Int) (List Tok × List Tok) :=
  if 65536 < s.size then .error (65536, 12)
  else if 0 ≤ wrongF s then .error (wrongF s, 2)
  else match allF s (s.size + 1) 0 0 [] [] with
    | .ok r => .ok r
    | .error at_ => .error (at_, 3)
def ScanP (w : World) : Except (Int × Int) (List Tok × List Tok) → Ending → World → Prop
  | .ok (tk, nt), e, w' => ∃ vt vn, e = .returned (.tuple #[vt, vn, .int .i64 0, .int .i64 0]) ∧ Below w.heap.size w w' ∧ w'.ownsRow w.heap.size 29 3 vt tk.length (flat tk) ∧ w'.ownsRow w.heap.size 29 3 vn nt.length (flat nt)
  | .error (at_, n), e, w' => e = .returned (.tuple #[.slice none 0 0, .slice none 0 0, .int .i64 at_, .int .i64 n]) ∧ Below w.heap.size w w'

set_option maxHeartbeats 1600000 in
theorem scan_inner (p : Option Addr) (cap : Nat) (s : ByteArray) (w : World) (hb : BSl w p s) (hE : Env w) (h2 : 2 ≤ w.heap.size) (hs : s.size ≤ 65536) (hw : wrongF s < 0) (R : Except (Int × Int) (List Tok × List Tok))
    (hR : R = match allF s (s.size + 1) 0 0 [] [] with | .ok r => .ok r | .error at_ => .error (at_, 3)) :
    Calls Tryd.prog 6 #[.slice p s.size cap] w (ScanP w R) := by
  have hmf : ∀ (fn : Fn) (first cap : Array Value) (w : World), (Instr.makeFunc fn first cap).run Tryd.prog w = .ok (.func fn first cap) w := fun _ _ _ _ => rfl
  obtain ⟨hx, hz, hbl⟩ := boxed_new w
  have HB := Lib.hid hb
  have HRR := Lib.hid hR
  clear hb hR
  generalize hr : wrongF s = r at hw ⊢
  have HR := Lib.hid hr
  clear hr
  go_enter_defers Tryd.func6, Tryd.ntmps6
  go_wp2_with fail
  change Calls Tryd.prog 7 _ (boxed w) _
  generalize boxed w = w1 at *
  have HW := Lib.hid hw
  have HBL := Lib.hid hbl
  have hb1 := HB.out.below hbl
  have HE := Lib.hid hE
  clear hE
  generalize hA : w.heap.size = A at h2 hx hz hbl HBL ⊢
  go_at_call 7
  refine (wrong_b p cap s w1 hb1 (by omega)).mono ?_
  rintro e w2 ⟨rfl, hb2⟩
  rw [HR.out]
  have hcv := conv_at (hb1.below hb2) cap
  have hx2 := hx.below hb2 (by omega)
  have HX2 := Lib.hid hx2
  have a0 := cell_of hx2.h0 0
  have a1 := cell_of hx2.h1 0
  have a2 := cell_of hx2.h2 0
  have a3 := cell_of hx2.h3 0
  have b0 := free_of hx2.h0 0
  have b1 := free_of hx2.h1 0
  have b2 := free_of hx2.h2 0
  have b3 := free_of hx2.h3 0
  have HBB : Hid (Below A w w2) := Lib.hid (HBL.out.trans (hb2.mono (by omega)))
  have hsz2 : A + 1 + 1 + 1 < w2.heap.size := by have := hb2.size; omega
  clear hx2 hx hb2 hb1 hbl
  go_wp2_with fail
  clear a0 a1 a2 a3 b0 b1 b2 b3 hcv
  have HEE : Hid (Env w2) := Lib.hid (HE.out.below HBB.out h2)
  generalize hw3 : w2.alloc (Obj.cells #[Value.string s, Value.slice none 0 0, Value.slice none 0 0] 37) = w3
  have hal : Below w2.heap.size w2 w3 := by rw [← hw3]; exact (Below.refl _ _).alloc (Nat.le_refl _) _
  have hsc : Sc w2.heap.size w2.heap.size s [] [] w3 := ⟨Nat.le_refl _, _, _, by rw [← hw3]; exact heap_alloc_new w2 _, own_nil _ _, own_nil _ _, by simp [Value.ownBlock]⟩
  have hcall := all_any w2.heap.size w2.heap.size s w3 hsc (HEE.out.below hal (by omega)) (by omega) (by omega)
  have HAL := Lib.hid hal
  clear hw3 hsc hal
  generalize allF s (s.size + 1) 0 0 [] [] = X at hcall HRR
  go_at_call 9
  refine hcall.mono ?_
  intro e w4 h
  rcases X with at_ | ⟨tk, nt⟩
  · obtain ⟨rfl, hf4⟩ := h
    have hx4 := HX2.out.below ((HAL.out.mono (Nat.le_refl _)).trans hf4.1) hsz2
    have hb4 : Below A w w4 := HBB.out.trans ((HAL.out.trans hf4.1).mono (by omega))
    go_wp2_with fail
    refine leaves_cons (f := 8) (args := #[.pointer (some ⟨A, 0, none⟩), .pointer (some ⟨A + 1, 0, none⟩), .pointer (some ⟨A + 1 + 1, 0, none⟩), .pointer (some ⟨A + 1 + 1 + 1, 0, none⟩)]) (by simp) (by simp [go_sem]) ?_
    refine (catch_panicking A _ _ _ _ at_ [] w4 ⟨_, hx4.h0⟩ ⟨_, hx4.h1⟩ ⟨_, hx4.h2⟩ ⟨_, hx4.h3⟩).mono ?_
    rintro e u' w'' ⟨rfl, rfl, rfl⟩
    refine ⟨_, (hx4.set (.slice none 0 0) (.slice none 0 0) (.int .i64 at_) (.int .i64 3)).res rfl rfl rfl rfl, ?_⟩
    rw [HRR.out]
    refine ⟨rfl, ?_⟩
    rw [hA]
    exact below_set hb4 _ _ _ _
  · obtain ⟨rfl, hs4, hf4⟩ := h
    have hx4 := HX2.out.below ((HAL.out.mono (Nat.le_refl _)).trans hf4.1) hsz2
    have hb4 : Below A w w4 := HBB.out.trans ((HAL.out.trans hf4.1).mono (by omega))
    obtain ⟨_, vt, vn, k1, k2, k3, k4⟩ := hs4
    obtain ⟨p1, q1, rfl⟩ := own_slice k2
    obtain ⟨p2, q2, rfl⟩ := own_slice k3
    have c1 := cell_of k1 1
    have c2 := cell_of k1 2
    have a0 := cell_of hx4.h0 0
    have a1 := cell_of hx4.h1 0
    have a2 := cell_of hx4.h2 0
    have a3 := cell_of hx4.h3 0
    have b0 := free_of hx4.h0 0
    have b1 := free_of hx4.h1 0
    have b2 := free_of hx4.h2 0
    have b3 := free_of hx4.h3 0
    have HX4 := Lib.hid hx4
    have HB4 := Lib.hid hb4
    have K2 := Lib.hid k2
    have K3 := Lib.hid k3
    clear hx4 hb4 k1 k2 k3 k4 hf4
    go_wp2_with fail
    go_region
    all_goals
      go_wp2_with fail
      refine leaves_cons (f := 8) (args := #[.pointer (some ⟨A, 0, none⟩), .pointer (some ⟨A + 1, 0, none⟩), .pointer (some ⟨A + 1 + 1, 0, none⟩), .pointer (some ⟨A + 1 + 1 + 1, 0, none⟩)]) (by simp) (by simp [go_sem]) ?_
      refine (catch_idle _ _ _ _ _).mono ?_
      rintro e u' w'' ⟨rfl, rfl, rfl⟩
      have hset := HX4.out.set (.slice p1 tk.length q1) (.slice p2 nt.length q2) (.int .i64 0) (.int .i64 0)
      refine ⟨_, hset.drew.res rfl rfl rfl rfl, ?_⟩
      rw [HRR.out]
      have hbs := below_set HB4.out (.slice p1 tk.length q1) (.slice p2 nt.length q2) (.int .i64 0) (.int .i64 0)
      have hle : w.heap.size ≤ w2.heap.size := by rw [hA]; omega
      refine ⟨_, _, rfl, ?_, own_base (own_set K2.out hsz2 _ _ _ _) hle, own_base (own_set K3.out hsz2 _ _ _ _) hle⟩
      rw [hA]
      exact ⟨hbs.os, hbs.tape, hbs.output, hbs.size, hbs.block⟩

theorem scan_any (p : Option Addr) (cap : Nat) (s : ByteArray) (w : World) (hb : BSl w p s) (hE : Env w) (h2 : 2 ≤ w.heap.size) (hs : s.size ≤ 4611686018427387904) :
    Calls Tryd.prog 6 #[.slice p s.size cap] w (ScanP w (scanF s)) := by
  by_cases h1 : 65536 < s.size
  · rw [scanF, if_pos h1]
    exact scan_long p cap s w h1 hs
  · by_cases h3 : 0 ≤ wrongF s
    · rw [scanF, if_neg h1, if_pos h3]
      exact scan_wrong p cap s w hb (by omega) h3
    · refine scan_inner p cap s w hb hE h2 (by omega) (by omega) _ ?_
      rw [scanF, if_neg h1, if_neg h3]
end Go.Proofs.YtghfmfgdcpihfaaDoor
