import Derived.Test.YtghfmfgdcpihfaaDoorTkK
namespace Go.Proofs.YtghfmfgdcpihfaaDoor
open Go.RowKit
set_option linter.unusedSimpArgs false
set_option linter.unusedVariables false
set_option linter.unusedSectionVars false

/-- What Scan comes to. -/
def ScanQ (w : World) : Except (Int × Int) (List Tok × List Tok) → Ending → World → Prop
  | .ok (tk, _), e, w' => ∃ vt, e = .returned (.tuple #[vt, .int .i64 0, .int .i64 0]) ∧ Below w.heap.size w w' ∧ w'.ownsRow w.heap.size 29 3 vt tk.length (flat tk)
  | .error (at_, n), e, w' => e = .returned (.tuple #[.slice none 0 0, .int .i64 at_, .int .i64 n]) ∧ Below w.heap.size w w'
/-- What Notes comes to. -/
def NotesQ (w : World) : Except (Int × Int) (List Tok × List Tok) → Ending → World → Prop
  | .ok (_, nt), e, w' => ∃ vn, e = .returned vn ∧ Below w.heap.size w w' ∧ w'.ownsRow w.heap.size 29 3 vn nt.length (flat nt)
  | .error _, e, w' => e = .returned (.slice none 0 0) ∧ Below w.heap.size w w'

set_option maxHeartbeats 800000 in
theorem Scan_any (p : Option Addr) (cap : Nat) (s : ByteArray) (w : World) (hb : BSl w p s) (hE : Env w) (h2 : 2 ≤ w.heap.size) (hs : s.size ≤ 4611686018427387904) :
    Calls Tryd.prog 4 #[.slice p s.size cap] w (ScanQ w (scanF s)) := by
  have H := Lib.hid (scan_any p cap s w hb hE h2 hs)
  clear hb hE
  generalize scanF s = R at H ⊢
  rcases R with ⟨at_, n⟩ | ⟨tk, nt⟩
  · go_enter Tryd.func4, Tryd.ntmps4
    go_wp2_with (go_at_call 6; refine H.out.mono ?_; rintro e w2 ⟨rfl, hb2⟩)
    refine bodyPost_ret (v := .tuple #[.slice none 0 0, .int .i64 at_, .int .i64 n]) ?_ rfl ⟨rfl, hb2⟩
    simp [results, Tryd.results4, go_sem]
  · go_enter Tryd.func4, Tryd.ntmps4
    go_wp2_with (go_at_call 6; refine H.out.mono ?_; rintro e w2 ⟨vt, vn, rfl, hb2, ho, _⟩)
    refine bodyPost_ret (v := .tuple #[vt, .int .i64 0, .int .i64 0]) ?_ rfl ⟨vt, rfl, hb2, ho⟩
    simp [results, Tryd.results4, go_sem]

def exB : ByteArray := ⟨#[97, 10, 43, 98]⟩
def exL : List Tok := [⟨1, ⟨#[97]⟩, 0⟩, ⟨6, ⟨#[10]⟩, 1⟩, ⟨6, ⟨#[43]⟩, 2⟩, ⟨1, ⟨#[98]⟩, 3⟩, ⟨6, ⟨#[10]⟩, 4⟩]
theorem scan_ex : scanF exB = .ok (exL, []) := by kernel_rfl

theorem ex_scan (cap : Nat) (p : Option Addr) (w : World) (hb : BSl w p exB) (hE : Env w) (h2 : 2 ≤ w.heap.size) :
    Calls Tryd.prog 4 #[.slice p 4 cap] w fun e w' => ∃ g c, e = .returned (.tuple #[.slice (some ⟨g, 0, none⟩) 5 c, .int .i64 0, .int .i64 0]) ∧ Below w.heap.size w w' ∧ ∀ j v, (flat exL)[j]? = some v → w'.cell? ⟨g, j, none⟩ = some v := by
  have h := Scan_any p cap exB w hb hE h2 (by decide)
  rw [scan_ex] at h
  refine h.mono ?_
  rintro e w' ⟨vt, rfl, hb, ho⟩
  rcases ho.2 with ⟨_, h0⟩ | ⟨g, c, cur, rfl, _⟩
  · exact absurd h0 (by decide)
  · refine ⟨g, c, rfl, hb, fun j v hj => ?_⟩
    have := ho.cells (g := g) rfl _ _ hj
    have e : (⟨g, 0, none⟩ : Addr).add j = ⟨g, j, none⟩ := by unfold Addr.add; split <;> simp_all
    rwa [e] at this

set_option maxHeartbeats 1600000 in
theorem awake_any (w : World) (hE : Env w) (h2 : 2 ≤ w.heap.size) :
    Calls Tryd.prog 5 #[] w fun e w' => e = .returned (.bool true) ∧ Below w.heap.size w w' := by
  have hc := fun (w : World) (C : Array Value) (n c : Nat) => Lib.run_convert_bytes_const (P := Tryd.prog) w 22 5 C n c Tryd.underlying22 Tryd.underlying5
  obtain ⟨w1, hw1⟩ : ∃ w1, w1 = w.alloc (Obj.cells #[Value.int IntKind.u8 97, Value.int IntKind.u8 10, Value.int IntKind.u8 43, Value.int IntKind.u8 98] 5 (4, 5)) := ⟨_, rfl⟩
  have hb1 : BSl w1 (some ⟨w.heap.size, 0, none⟩) exB := by
    refine .inr ⟨_, _, rfl, fun i hi => ?_, by rw [hw1]; simp⟩
    have hi' : i < 4 := hi
    have hh : w1.heap[w.heap.size]? = some (Obj.cells #[Value.int IntKind.u8 97, Value.int IntKind.u8 10, Value.int IntKind.u8 43, Value.int IntKind.u8 98] 5 (4, 5)) := by rw [hw1]; exact alloc_at rfl _
    rw [cell_of hh]
    match i, hi' with
    | 0, _ => rfl
    | 1, _ => rfl
    | 2, _ => rfl
    | 3, _ => rfl
  have h0 : Hid (Below w.heap.size w w1) := by rw [hw1]; exact Lib.hid ((Below.refl _ _).alloc (Nat.le_refl _) _)
  have HE : Hid (Env w1) := Lib.hid (hE.below h0.out h2)
  have HW := Lib.hid hw1
  have HB := Lib.hid hb1
  have h21 : 2 ≤ w1.heap.size := by have := h0.out.size; omega
  clear hb1 hw1 hE
  go_enter Tryd.func5, Tryd.ntmps5
  go_wp2_with fail
  rw [← HW.out]
  go_at_call 4
  refine (ex_scan _ _ _ HB.out HE.out h21).mono ?_
  rintro e w2 ⟨g, c, rfl, hb2, hc2⟩
  have HB2 : Hid (Below w.heap.size w w2) := Lib.hid (h0.out.trans (hb2.mono h0.out.size))
  have d0 := hc2 0 _ rfl
  have d1 := hc2 1 _ rfl
  have d2 := hc2 2 _ rfl
  have d3 := hc2 3 _ rfl
  have d4 := hc2 4 _ rfl
  have d5 := hc2 5 _ rfl
  have d6 := hc2 6 _ rfl
  have d7 := hc2 7 _ rfl
  have d8 := hc2 8 _ rfl
  have d12 := hc2 12 _ rfl
  have d13 := hc2 13 _ rfl
  have d14 := hc2 14 _ rfl
  clear hc2 hb2 h0
  go_wp2_with fail
  go_ret
  exact ⟨rfl, HB2.out⟩
end Go.Proofs.YtghfmfgdcpihfaaDoor
