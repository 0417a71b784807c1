import Derived.Test.YtjgpopjnmonlkaaGreatDoorTgI
namespace Go.Proofs.YtjgpopjnmonlkaaGreatDoor
open Go.RowKit Go.Shelf
set_option linter.unusedSimpArgs false
set_option linter.unusedVariables false
set_option linter.unusedSectionVars false

/-! Layer 5: Least. -/
theorem least_any : ∀ m : Nat, LeastC m
  | 0 => fun x vs S W hm _ _ _ _ => by have := x.size_pos; omega
  | m + 1 => least_succ m (least_any m)
def LeastF (x : Ex) : Int := if rightF 100 x = true then leastF relF x else -1
set_option maxHeartbeats 1600000 in
theorem Least_v (x : Ex) (vs : List Value) (S : Nat → Prop) (W : World) (hex : ExAt W S x vs) (hok : x.ok) (hE : EnvV W) :
    Calls Tryz.prog 13 #[.agg vs.toArray] W fun e w' => e = .returned (.int .i64 (LeastF x)) ∧ Below W.heap.size W w' := by
  obtain ⟨v0, v1, v2, rfl⟩ := three hex.len
  have hb1 : Below W.heap.size W (W.alloc (.cells #[v0, v1, v2] 29)) := (Below.refl _ _).alloc (Nat.le_refl _) _
  have hlt : W.heap.size < (W.alloc (.cells #[v0, v1, v2] 29)).heap.size := by simp
  have H := Lib.hid (Right_v x [v0, v1, v2] S _ (hex.below hb1) hok)
  have hcell : ∀ w' i v, Below (W.alloc (.cells #[v0, v1, v2] 29)).heap.size (W.alloc (.cells #[v0, v1, v2] 29)) w' → [v0, v1, v2][i]? = some v → w'.cell? ⟨W.heap.size, i, none⟩ = some v := fun w' i v hb hv => by
    rw [hb.cell (p := ⟨W.heap.size, i, none⟩) hlt, cell_of (heap_alloc_new W _) i]
    simpa using hv
  have HC := Lib.hid hcell
  have HH := Lib.hid (fun (hr : rightF 100 x = true) (w' : World) (hb : Below (W.alloc (.cells #[v0, v1, v2] 29)).heap.size (W.alloc (.cells #[v0, v1, v2] 29)) w') =>
    least_any x.size x [v0, v1, v2] S w' (Nat.le_refl _) ((hex.below hb1).below hb) hok ⟨100, hr⟩ ((hE.below hb1 hE.2.2.2).below hb (by have := hE.2.2.2; have := hb1.size; omega)))
  have HB := Lib.hid hb1
  unfold LeastF
  clear hb1 hex hcell hlt hE
  generalize leastF relF x = R at *
  cases hr : rightF 100 x with
  | false =>
    rw [hr] at H
    rw [if_neg (by decide)]
    go_enter Tryz.func13, Tryz.ntmps13
    go_wp2_with (go_at_call 11; with_reducible refine Calls.mono H.out ?_; rintro e w2 ⟨rfl, hb2⟩; have HB2 := Lib.hid (HB.out.trans (hb2.mono HB.out.size)); clear hb2)
    go_ret
    exact ⟨by first | rfl | simp, HB2.out⟩
  | true =>
    rw [hr] at H
    rw [if_pos rfl]
    have HH2 := Lib.hid (HH.out hr)
    clear HH
    go_enter Tryz.func13, Tryz.ntmps13
    go_wp2_with (first
      | (go_at_call 11; with_reducible refine Calls.mono H.out ?_; rintro e w2 ⟨rfl, hb2⟩; have HB0 := Lib.hid hb2; have HB2 := Lib.hid (HB.out.trans (hb2.mono HB.out.size)); clear hb2; have c0 := HC.out _ 0 v0 HB0.out rfl; have c1 := HC.out _ 1 v1 HB0.out rfl; have c2 := HC.out _ 2 v2 HB0.out rfl)
      | (go_at_call 25; with_reducible refine Calls.mono (HH2.out _ HB0.out) ?_; rintro e w3 ⟨rfl, hb3⟩; have HB3 := Lib.hid (HB2.out.trans (hb3.mono HB2.out.size)); clear hb3))
    go_ret
    exact ⟨by first | rfl | simp, HB3.out⟩
end Go.Proofs.YtjgpopjnmonlkaaGreatDoor
