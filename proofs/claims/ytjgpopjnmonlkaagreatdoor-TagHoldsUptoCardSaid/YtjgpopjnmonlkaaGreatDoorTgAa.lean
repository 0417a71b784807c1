import Derived.Test.YtjgpopjnmonlkaaGreatDoorTgZ
namespace Go.Proofs.YtjgpopjnmonlkaaGreatDoor
open Go.RowKit Go.Shelf
set_option linter.unusedSimpArgs false
set_option linter.unusedVariables false
set_option linter.unusedSectionVars false

/-! Layer 5: the law's own examples. -/
abbrev sA : List UInt8 := [103, 111, 49, 46, 50, 49, 32, 38, 38, 32, 33, 120]
abbrev sB : List UInt8 := [97, 32, 124, 124, 32, 103, 111, 49, 46, 49, 56]
def exA : Ex := .node ⟨#[38, 38]⟩ ⟨#[]⟩ [.node ⟨#[]⟩ ⟨#[103, 111, 49, 46, 50, 49]⟩ [], .node ⟨#[33]⟩ ⟨#[]⟩ [.node ⟨#[]⟩ ⟨#[120]⟩ []]]
def exB : Ex := .node ⟨#[124, 124]⟩ ⟨#[]⟩ [.node ⟨#[]⟩ ⟨#[97]⟩ [], .node ⟨#[]⟩ ⟨#[103, 111, 49, 46, 49, 56]⟩ []]
theorem readA : readV sA = some exA := by kernel_rfl
theorem readB : readV sB = some exB := by kernel_rfl
theorem leastA : LeastF exA = 21 := by decide +kernel
theorem leastB : LeastF exB = -1 := by decide +kernel
theorem holdsA : HoldsF exA [] = true := by decide +kernel
theorem writeA : WriteF exA = ⟨#[103, 111, 49, 46, 50, 49, 32, 38, 38, 32, 33, 120]⟩ := by decide +kernel
theorem okA : exA.ok := by
  refine ⟨by decide, ?_⟩
  simp only [exA, Ex.fits, Ex.fitsL]
  decide
theorem okB : exB.ok := by
  refine ⟨by decide, ?_⟩
  simp only [exB, Ex.fits, Ex.fitsL]
  decide
/-- Both constraints in memory. -/
structure Both (w : World) (v1 v2 : List Value) (w' : World) : Prop where
  a : ExAt w' (fun b => w.heap.size ≤ b) exA v1
  b : ExAt w' (fun b => w.heap.size ≤ b) exB v2
  bl : Below w.heap.size w w'
theorem Both.below {w w' w2 : World} {v1 v2 : List Value} (h : Both w v1 v2 w') (hb : Below w'.heap.size w' w2) : Both w v1 v2 w2 :=
  ⟨h.a.below hb, h.b.below hb, h.bl.trans (hb.mono h.bl.size)⟩
theorem ExAt.more {w w' : World} {x : Ex} {vs : List Value} {B : Nat} (h : ExAt w' (fun b => w.heap.size ≤ b) x vs) (hB : B ≤ w.heap.size) : ExAt w' (fun b => B ≤ b) x vs :=
  h.keep ⟨Nat.le_refl _, fun _ _ _ => rfl⟩ (fun b hb _ => Nat.le_trans hB hb) x _
abbrev C3 (x y z : Value) : Obj := .cells #[x, y, z] 29 (0, 0)
/-- Both constraints in memory, and in boxes of their own. -/
structure St (w : World) (b1 b2 : Nat) (x1 y1 z1 x2 y2 z2 : Value) (w' : World) : Prop where
  h1 : w'.heap[b1]? = some (C3 x1 y1 z1)
  h2 : w'.heap[b2]? = some (C3 x2 y2 z2)
  both : Both w [x1, y1, z1] [x2, y2, z2] w'
theorem St.below {w w' w2 : World} {b1 b2 : Nat} {x1 y1 z1 x2 y2 z2 : Value} (h : St w b1 b2 x1 y1 z1 x2 y2 z2 w') (hb : Below w'.heap.size w' w2) : St w b1 b2 x1 y1 z1 x2 y2 z2 w2 :=
  ⟨(hb.block _ (lt_of_block h.h1)).trans h.h1, (hb.block _ (lt_of_block h.h2)).trans h.h2, h.both.below hb⟩
theorem st_new {w w2 w4 : World} {x1 y1 z1 x2 y2 z2 : Value} (hb2 : Below w.heap.size w w2) (hx1 : ExAt w2 (fun b => w.heap.size ≤ b) exA [x1, y1, z1]) (hb4 : Below (w2.alloc (C3 x1 y1 z1)).heap.size (w2.alloc (C3 x1 y1 z1)) w4) (hx2 : ExAt w4 (fun b => (w2.alloc (C3 x1 y1 z1)).heap.size ≤ b) exB [x2, y2, z2]) :
    St w w2.heap.size w4.heap.size x1 y1 z1 x2 y2 z2 (w4.alloc (C3 x2 y2 z2)) := by
  have hs1 : (w2.alloc (C3 x1 y1 z1)).heap.size = w2.heap.size + 1 := by simp
  have hbA : Below w2.heap.size w2 (w2.alloc (C3 x1 y1 z1)) := (Below.refl _ _).alloc (Nat.le_refl _) _
  have hbB : Below w4.heap.size w4 (w4.alloc (C3 x2 y2 z2)) := (Below.refl _ _).alloc (Nat.le_refl _) _
  have hn := (hb4.block w2.heap.size (by omega)).trans (heap_alloc_new w2 (C3 x1 y1 z1))
  have h2 := hb2.size
  have h4 := hb4.size
  refine ⟨(hbB.block _ (lt_of_block hn)).trans hn, heap_alloc_new w4 _, ⟨((hx1.below hbA).below hb4).below hbB, ?_, ?_⟩⟩
  · exact (hx2.below hbB).keep ⟨Nat.le_refl _, fun _ _ _ => rfl⟩ (fun b hb _ => by omega) _ _
  · exact ((hb2.trans (hbA.mono h2)).trans (hb4.mono (by omega))).trans (hbB.mono (by omega))
set_option maxHeartbeats 1600000 in
theorem awake_v (w : World) (hE : EnvV w) :
    Calls Tryz.prog 15 #[] w fun e w' => e = .returned (.bool true) ∧ Below w.heap.size w w' := by
  have h8 := hE.2.2.2
  have hra := Read_v sA w (by decide)
  have hrb := fun w1 => Read_v sB w1 (by decide)
  rw [show bs sA = (⟨#[103, 111, 49, 46, 50, 49, 32, 38, 38, 32, 33, 120]⟩ : ByteArray) from rfl] at hra
  rw [show bs sB = (⟨#[97, 32, 124, 124, 32, 103, 111, 49, 46, 49, 56]⟩ : ByteArray) from rfl] at hrb
  have HRA := Lib.hid hra
  have HRB := Lib.hid hrb
  clear hra hrb
  have HL1 : Hid (∀ b1 b2 x1 y1 z1 x2 y2 z2 w', St w b1 b2 x1 y1 z1 x2 y2 z2 w' → Calls Tryz.prog 13 #[.agg #[x1, y1, z1]] w' fun e w'' => e = .returned (.int .i64 21) ∧ St w b1 b2 x1 y1 z1 x2 y2 z2 w'') := Lib.hid (fun b1 b2 x1 y1 z1 x2 y2 z2 w' h => by
    have := Least_v exA [x1, y1, z1] _ w' h.both.a okA (hE.below h.both.bl h8)
    rw [leastA] at this
    exact this.mono (fun e w'' ⟨q1, q2⟩ => ⟨q1, h.below q2⟩))
  have HL2 : Hid (∀ b1 b2 x1 y1 z1 x2 y2 z2 w', St w b1 b2 x1 y1 z1 x2 y2 z2 w' → Calls Tryz.prog 13 #[.agg #[x2, y2, z2]] w' fun e w'' => e = .returned (.int .i64 (-1)) ∧ St w b1 b2 x1 y1 z1 x2 y2 z2 w'') := Lib.hid (fun b1 b2 x1 y1 z1 x2 y2 z2 w' h => by
    have := Least_v exB [x2, y2, z2] _ w' h.both.b okB (hE.below h.both.bl h8)
    rw [leastB] at this
    exact this.mono (fun e w'' ⟨q1, q2⟩ => ⟨q1, h.below q2⟩))
  have HH1 : Hid (∀ b1 b2 x1 y1 z1 x2 y2 z2 w', St w b1 b2 x1 y1 z1 x2 y2 z2 w' → Calls Tryz.prog 12 #[.agg #[x1, y1, z1], .slice none 0 0] w' fun e w'' => e = .returned (.bool true) ∧ St w b1 b2 x1 y1 z1 x2 y2 z2 w'') := Lib.hid (fun b1 b2 x1 y1 z1 x2 y2 z2 w' h => by
    have := Holds_v exA [x1, y1, z1] _ w' none 0 [] h.both.a okA (.inl rfl) (by decide) (hE.below h.both.bl h8)
    rw [holdsA] at this
    exact this.mono (fun e w'' ⟨q1, q2⟩ => ⟨q1, h.below q2⟩))
  have HW1 : Hid (∀ b1 b2 x1 y1 z1 x2 y2 z2 w', St w b1 b2 x1 y1 z1 x2 y2 z2 w' → Calls Tryz.prog 14 #[.agg #[x1, y1, z1]] w' fun e w'' => e = .returned (.string ⟨#[103, 111, 49, 46, 50, 49, 32, 38, 38, 32, 33, 120]⟩) ∧ St w b1 b2 x1 y1 z1 x2 y2 z2 w'') := Lib.hid (fun b1 b2 x1 y1 z1 x2 y2 z2 w' h => by
    have := Write_v exA [x1, y1, z1] _ w' h.both.a okA
    rw [writeA] at this
    exact this.mono (fun e w'' ⟨q1, q2⟩ => ⟨q1, h.below q2⟩))
  clear hE
  go_enter Tryz.func15, Tryz.ntmps15
  go_wp2_with (first
    | (go_at_call 19; (with_reducible refine Calls.mono HRA.out ?_); rintro e w2 ⟨hb2, hv⟩; rw [readA] at hv; obtain ⟨v1, rfl, hx1⟩ := hv; obtain ⟨yo, yt, ya, yn, yc, rfl⟩ := hx1.shape; have HB2 := Lib.hid hb2; have HX1 := Lib.hid hx1; clear hb2 hx1)
    | (go_at_call 19; (with_reducible refine Calls.mono (HRB.out _) ?_); rintro e w4 ⟨hb4, hv⟩; rw [readB] at hv; obtain ⟨v2, rfl, hx2⟩ := hv; obtain ⟨zo, zt, za, zn, zc, rfl⟩ := hx2.shape; have hst := st_new HB2.out HX1.out hb4 hx2; have ST := Lib.hid hst; have c0 := cell_of hst.h1 0; have c1 := cell_of hst.h1 1; have c2 := cell_of hst.h1 2; have d0 := cell_of hst.h2 0; have d1 := cell_of hst.h2 1; have d2 := cell_of hst.h2 2; clear hb4 hx2 hst)
    | (go_at_call 13; (with_reducible refine Calls.mono (HL1.out _ _ _ _ _ _ _ _ _ ST.out) ?_); rintro e w5 ⟨rfl, hst⟩; have ST := Lib.hid hst; have c0 := cell_of hst.h1 0; have c1 := cell_of hst.h1 1; have c2 := cell_of hst.h1 2; have d0 := cell_of hst.h2 0; have d1 := cell_of hst.h2 1; have d2 := cell_of hst.h2 2; clear hst)
    | (go_at_call 12; (with_reducible refine Calls.mono (HH1.out _ _ _ _ _ _ _ _ _ ST.out) ?_); rintro e w6 ⟨rfl, hst⟩; have ST := Lib.hid hst; have c0 := cell_of hst.h1 0; have c1 := cell_of hst.h1 1; have c2 := cell_of hst.h1 2; have d0 := cell_of hst.h2 0; have d1 := cell_of hst.h2 1; have d2 := cell_of hst.h2 2; clear hst)
    | (go_at_call 13; (with_reducible refine Calls.mono (HL2.out _ _ _ _ _ _ _ _ _ ST.out) ?_); rintro e w7 ⟨rfl, hst⟩; have ST := Lib.hid hst; have c0 := cell_of hst.h1 0; have c1 := cell_of hst.h1 1; have c2 := cell_of hst.h1 2; have d0 := cell_of hst.h2 0; have d1 := cell_of hst.h2 1; have d2 := cell_of hst.h2 2; clear hst)
    | (go_at_call 14; (with_reducible refine Calls.mono (HW1.out _ _ _ _ _ _ _ _ _ ST.out) ?_); rintro e w8 ⟨rfl, hst⟩; have ST := Lib.hid hst; clear hst))
  go_ret
  exact ⟨by first | rfl | simp, ST.out.both.bl⟩
end Go.Proofs.YtjgpopjnmonlkaaGreatDoor
