import Derived.Test.YtjgpopjnmonlkaaGreatDoorProg
import Derived.Test.YtjgpopjnmonlkaaGreatDoorKit
import Derived.Test.YtjgpopjnmonlkaaGreatDoorPlM
import Derived.Test.YtjgpopjnmonlkaaGreatDoorPlA
namespace Go.Proofs.YtjgpopjnmonlkaaGreatDoor
open Go.RowKit
set_option linter.unusedSimpArgs false
set_option linter.unusedVariables false
set_option linter.unusedSectionVars false

/-! Layer 4: signs; all. -/
def figV (r : Int) : Bool := decide (48 ≤ r) && decide (r ≤ 57)
def blankV (r : Int) : Bool := (r == 32) || (r == 9) || (r == 13)
def inNameV (r : Int) : Bool := figV r || (decide (97 ≤ r) && decide (r ≤ 122)) || (decide (65 ≤ r) && decide (r ≤ 90)) || (r == 95) || (r == 45) || (r == 46)
theorem retb {a b : Bool} (h : a = b) : Ending.returned (.bool a) = Ending.returned (.bool b) := by rw [h]
set_option maxHeartbeats 400000 in
theorem figure_v (r : Int) (w : World) :
    Calls Tryz.prog 60 #[.int .i32 r] w fun e w' => e = .returned (.bool (figV r)) ∧ w' = w := by
  go_enter Tryz.func60, Tryz.ntmps60
  go_wp2_with fail
  all_goals (go_ret; refine ⟨retb ?_, rfl⟩; unfold figV; rw [Bool.eq_iff_iff]; simp <;> try omega)
/-- Does q hold of each sign? -/
def allV (s : ByteArray) (q : Int → Bool) : Nat → Nat → Bool
  | 0, _ => true
  | f + 1, i => if i < s.size then (if q (Utf8.decode s i).1 then allV s q f (i + (Utf8.decode s i).2) else false) else true
theorem dec_wid (s : ByteArray) (i : Nat) (h : i < s.size) : 1 ≤ (Utf8.decode s i).2 ∧ i + (Utf8.decode s i).2 ≤ s.size := dec_width s i h
set_option maxHeartbeats 800000 in
theorem all_v (q : Int → Bool) (k : Nat) (s : ByteArray) (w : World) (hs : s.size ≤ 4611686018427387904)
    (hk : ∀ args (w : World), (callFunc k args).run Tryz.prog w = .ok (.enter k args) w)
    (hq : ∀ (r : Int) (w : World), Calls Tryz.prog k #[.int .i32 r] w fun e w' => e = .returned (.bool (q r)) ∧ w' = w) :
    Calls Tryz.prog 79 #[.string s, .func (.func k) #[] #[]] w fun e w' => e = .returned (.bool (allV s q (s.size + 1) 0)) ∧ Below w.heap.size w w' := by
  go_enter Tryz.func79, Tryz.ntmps79
  go_wp2_with fail
  go_loopw [4] (fun vb wr => ∃ (f pos : Nat), vb = .bool false ∧ s.size < f + pos ∧ pos ≤ s.size ∧ allV s q (s.size + 1) 0 = allV s q f pos ∧ Below w.heap.size w wr ∧
     wr.heap[w.heap.size]? = some (.stringIter s pos)) (fun _ wr => s.size - wr.iterPos w.heap.size)
  case atStart => exact ⟨s.size + 1, 0, rfl, by omega, by omega, rfl, (Below.refl _ _).alloc (Nat.le_refl _) _, iter_at rfl _ _⟩
  case round =>
    obtain ⟨f, pos, rfl, hf, hpos, he, hb, hi⟩ := hrel
    obtain ⟨f, rfl⟩ : ∃ g, f = g + 1 := ⟨f - 1, by omega⟩
    have HE := Lib.hid he; clear he
    have HB := Lib.hid hb; clear hb
    have HI := Lib.hid hi
    by_cases hlt : pos < s.size
    · have hn := Lib.run_next_any_at (P := Tryz.prog) wr w.heap.size s pos 0 hi hlt
      have hst : allV s q (f + 1) pos = if q (Utf8.decode s pos).1 then allV s q f (pos + (Utf8.decode s pos).2) else false := by rw [allV, if_pos hlt]
      obtain ⟨n1, n2⟩ := dec_wid s pos hlt
      generalize hw1 : wr.iterAt w.heap.size s (pos + (Utf8.decode s pos).2) = w1 at hn
      have HB1 : Hid (Below w.heap.size w w1) := by rw [← hw1]; exact Lib.below_iterAt HB.out (Nat.le_refl _) _ _
      have HI1 : Hid (w1.heap[w.heap.size]? = some (.stringIter s (pos + (Utf8.decode s pos).2))) := by rw [← hw1]; exact Lib.iterAt_heap _ _ _ _ _ hi
      have HST := Lib.hid hst
      clear hw1 hi hst
      go_wp2_with fail
      refine (hq _ w1).mono ?_
      rintro e w' ⟨rfl, rfl⟩
      generalize hqq : q ((Utf8.decode s pos).1 : Int) = b at HST ⊢
      clear hqq
      cases b
      · go_wp2_with fail
        go_ret
        exact ⟨by rw [HE.out, HST.out]; rfl, HB1.out⟩
      · go_wp2_with fail
        go_roundw
        case rel => exact ⟨f, pos + (Utf8.decode s pos).2, rfl, by omega, by omega, by rw [HE.out, HST.out]; rfl, HB1.out, HI1.out⟩
        case measure => rw [iterPos_of HI.out, iterPos_of HI1.out]; omega
    · have hn := Lib.run_next_end_at (P := Tryz.prog) wr w.heap.size s pos 0 hi hlt
      have hst : allV s q (f + 1) pos = true := by rw [allV, if_neg hlt]
      have HST := Lib.hid hst
      clear hi hst
      go_wp2_with fail
      go_ret
      exact ⟨by rw [HE.out, HST.out]; rfl, HB.out⟩
end Go.Proofs.YtjgpopjnmonlkaaGreatDoor
