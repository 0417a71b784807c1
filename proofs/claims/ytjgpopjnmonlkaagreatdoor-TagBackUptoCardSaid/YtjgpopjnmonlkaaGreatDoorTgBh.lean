import Derived.Test.YtjgpopjnmonlkaaGreatDoorTgBd
import Derived.Test.YtjgpopjnmonlkaaGreatDoorTgBb
import Derived.Test.YtjgpopjnmonlkaaGreatDoorTgAa
namespace Go.Proofs.YtjgpopjnmonlkaaGreatDoor
open Go.RowKit Go.Shelf
set_option linter.unusedSimpArgs false
set_option linter.unusedVariables false
set_option linter.unusedSectionVars false

/-! The law's same, at two that are the same. -/
def SameC (m : Nat) : Prop := ∀ (x : Ex) (vs us : List Value) (S T : Nat → Prop) (W : World), x.size ≤ m → m ≤ 2000000 → ExAt W S x vs → ExAt W T x us →
  Calls Tryz.prog 20 #[.agg vs.toArray, .agg us.toArray] W fun e w' => e = .returned (.bool true) ∧ Below W.heap.size W w'
set_option maxRecDepth 100000 in
set_option maxHeartbeats 3200000 in
theorem same_succ (m : Nat) (hr : SameC m) : SameC (m + 1) := by
  intro x vs us S T W hm hm2 hex hey
  cases x with
  | node op tag kids =>
    obtain ⟨a, cap, rfl, hrow⟩ := hex.row
    obtain ⟨a9, cap9, rfl, hrow9⟩ := hey.row
    simp only [Ex.size] at hm
    have hkl := Ex.sizes_len kids
    obtain ⟨bx, hbx⟩ : ∃ bx, W.heap.size = bx := ⟨_, rfl⟩
    obtain ⟨n, hn⟩ : ∃ n, kids.length = n := ⟨_, rfl⟩
    rw [hn] at hkl ⊢
    have hb1 : Below W.heap.size W (W.alloc (.cells #[.string op, .string tag, .slice a n cap] 29)) := (Below.refl _ _).alloc (Nat.le_refl _) _
    obtain ⟨w1, hw1⟩ : ∃ w1, W.alloc (.cells #[.string op, .string tag, .slice a n cap] 29) = w1 := ⟨_, rfl⟩
    have hsz1 : w1.heap.size = bx + 1 := by rw [← hbx, ← hw1]; simp
    have hbk : w1.heap[bx]? = some (.cells #[.string op, .string tag, .slice a n cap] 29 (0, 0)) := by rw [← hbx, ← hw1]; exact heap_alloc_new W _
    rw [hw1] at hb1
    have hb2 : Below w1.heap.size w1 (w1.alloc (.cells #[.string op, .string tag, .slice a9 n cap9] 24)) := (Below.refl _ _).alloc (Nat.le_refl _) _
    obtain ⟨w2, hw2⟩ : ∃ w2, w1.alloc (.cells #[.string op, .string tag, .slice a9 n cap9] 24) = w2 := ⟨_, rfl⟩
    have hsz2 : w2.heap.size = bx + 2 := by rw [← hw2]; simp; omega
    have hbk9 : w2.heap[bx + 1]? = some (.cells #[.string op, .string tag, .slice a9 n cap9] 24 (0, 0)) := by rw [← hsz1, ← hw2]; exact heap_alloc_new w1 _
    rw [hw2] at hb2
    have hbk2 : w2.heap[bx]? = some (.cells #[.string op, .string tag, .slice a n cap] 29 (0, 0)) := (hb2.block bx (by omega)).trans hbk
    have hbw2 : Below W.heap.size W w2 := hb1.trans (hb2.mono (by omega))
    have HN := Lib.hid hn
    have HB := Lib.hid hbw2
    have HBK := Lib.hid hbk2
    have HBK9 := Lib.hid hbk9
    have HROW := Lib.hid hrow
    have HROW9 := Lib.hid hrow9
    have HW1 := Lib.hid hw1
    have HW2 := Lib.hid hw2
    have HS2 := Lib.hid hsz2
    have HKID := Lib.hid (fun (k : Ex) (hk : k ∈ kids) (vs us : List Value) (W' : World) (hx : ExAt W' S k vs) (hy : ExAt W' T k us) => hr k vs us S T W' (by have := Ex.sizes_mem kids k hk; omega) (by omega) hx hy)
    have hnl : n ≤ 2000000 := by omega
    have HLT : Hid (W.heap.size = bx) := Lib.hid hbx
    clear hb1 hb2 hsz1 hsz2 hbk hbk2 hbk9 hbw2 hrow hrow9 hex hey hr hm hm2 hkl hn hw1 hw2 hbx
    rw [HLT.out]
    go_enter Tryz.func20, Tryz.ntmps20
    go_wp2_with fail
    go_loopw [5] (fun kv wr => ∃ (k : Nat), kv = .int .i64 k ∧ k ≤ n ∧ Below (bx + 2) w2 wr) (fun kv _ => n - (intOf kv).toNat)
    case atStart => exact ⟨0, rfl, by omega, by rw [HW1.out, HW2.out]; exact Below.refl _ _⟩
    case round =>
      obtain ⟨k, rfl, hk, hbl⟩ := hrel
      have HBL := Lib.hid hbl
      have hge : bx + 2 ≤ wr.heap.size := by have := hbl.size; have := HS2.out; omega
      have hbw : Below W.heap.size W wr := HB.out.trans (hbl.mono (by rw [HLT.out]; omega))
      have HBW := Lib.hid hbw
      have c2 : wr.cell? ⟨W.heap.size, 2, none⟩ = some (.slice a n cap) := by rw [HLT.out]; exact (hbl.cell (p := ⟨bx, 2, none⟩) (by show bx < bx + 2; omega)).trans (cell_of HBK.out 2)
      have d2 : wr.cell? ⟨W.heap.size + 1, 2, none⟩ = some (.slice a9 n cap9) := by rw [HLT.out]; exact (hbl.cell (p := ⟨bx + 1, 2, none⟩) (by show bx + 1 < bx + 2; omega)).trans (cell_of HBK9.out 2)
      clear hbl hbw
      by_cases hlt : k < n
      · have hlti : (k : Int) < (n : Int) := by omega
        obtain ⟨x, hx⟩ : ∃ x, kids[k]? = some x := ⟨_, List.getElem?_eq_getElem (by rw [HN.out]; exact hlt)⟩
        rcases HROW.out with h0 | ⟨b, o, rfl, hS, hbb, hcap, hkids⟩
        · exfalso; have := HN.out; rw [h0] at this; simp at this; omega
        rcases HROW9.out with h0 | ⟨b9, o9, rfl, hS9, hbb9, hcap9, hkids9⟩
        · exfalso; have := HN.out; rw [h0] at this; simp at this; omega
        obtain ⟨vs, hvl, hxk, hcl⟩ := KidsAt.get kids o k x hkids hx
        obtain ⟨op2, tag2, a2, n2, cap2, rfl⟩ := hxk.shape
        obtain ⟨us, hul, hyk, hcl9⟩ := KidsAt.get kids o9 k x hkids9 hx
        obtain ⟨op3, tag3, a3, n3, cap3, rfl⟩ := hyk.shape
        have k0 := (HBW.out.cell (p := ⟨b, o + k * 3, none⟩) hbb).trans (hcl 0 _ rfl)
        have k1 := (HBW.out.cell (p := ⟨b, o + k * 3 + 1, none⟩) hbb).trans (hcl 1 _ rfl)
        have k2 := (HBW.out.cell (p := ⟨b, o + k * 3 + 2, none⟩) hbb).trans (hcl 2 _ rfl)
        have l0 := (HBW.out.cell (p := ⟨b9, o9 + k * 3, none⟩) hbb9).trans (hcl9 0 _ rfl)
        have l1 := (HBW.out.cell (p := ⟨b9, o9 + k * 3 + 1, none⟩) hbb9).trans (hcl9 1 _ rfl)
        have l2 := (HBW.out.cell (p := ⟨b9, o9 + k * 3 + 2, none⟩) hbb9).trans (hcl9 2 _ rfl)
        have hkc : k < cap := by have := HN.out; omega
        have hkc9 : k < cap9 := by have := HN.out; omega
        have hx5 : ExAt wr.drew S x [.string op2, .string tag2, .slice a2 n2 cap2] := ExAt.keep (W := wr) (W' := wr.drew) (S := S) (T := S) ⟨Nat.le_refl _, fun _ _ _ => rfl⟩ (fun _ h _ => h) x _ (hxk.keep (Same.of_below HBW.out) (fun _ h _ => h) x _)
        have hy5 : ExAt wr.drew T x [.string op3, .string tag3, .slice a3 n3 cap3] := ExAt.keep (W := wr) (W' := wr.drew) (S := T) (T := T) ⟨Nat.le_refl _, fun _ _ _ => rfl⟩ (fun _ h _ => h) x _ (hyk.keep (Same.of_below HBW.out) (fun _ h _ => h) x _)
        have HC := Lib.hid (HKID.out x (List.mem_of_getElem? hx) _ _ _ hx5 hy5)
        have HBD : Hid (Below wr.heap.size wr wr.drew) := Lib.hid ⟨rfl, rfl, rfl, Nat.le_refl _, fun _ _ => rfl⟩
        clear hx hkids hxk hcl hx5 hvl hkids9 hyk hcl9 hy5 hul
        go_wp2_with fail
        go_region_law (go_simp; go_at_call 20; (with_reducible refine Calls.mono HC.out ?_); rintro e w6 ⟨rfl, hb6⟩; have HB6 := Lib.hid (HBL.out.trans ((HBD.out.trans hb6).mono hge)); clear hb6)
        all_goals
          go_wp2_with fail
          go_roundw
          case rel => exact ⟨k + 1, by go_num, by omega, HB6.out⟩
          case measure => simp [intOf] <;> omega
      · have hke : k = n := by omega
        have hlti : ¬ (k : Int) < (n : Int) := by omega
        have HBF : Hid (Below bx W wr) := Lib.hid (HBW.out.mono (by rw [HLT.out]; exact Nat.le_refl _))
        go_wp2_with fail
        go_ret
        exact ⟨by first | rfl | simp, HBF.out⟩
theorem same_any : ∀ m : Nat, SameC m
  | 0 => fun x vs us S T W hm _ _ _ => by have := x.size_pos; omega
  | m + 1 => same_succ m (same_any m)
theorem same_v (x : Ex) (vs us : List Value) (S T : Nat → Prop) (W : World) (h : x.size ≤ 2000000) (hex : ExAt W S x vs) (hey : ExAt W T x us) :
    Calls Tryz.prog 20 #[.agg vs.toArray, .agg us.toArray] W fun e w' => e = .returned (.bool true) ∧ Below W.heap.size W w' :=
  same_any x.size x vs us S T W (Nat.le_refl _) h hex hey
end Go.Proofs.YtjgpopjnmonlkaaGreatDoor
