import Derived.Test.YtjgpopjnmonlkaaGreatDoorTgC
namespace Go.Proofs.YtjgpopjnmonlkaaGreatDoor
open Go.RowKit Go.Shelf
set_option linter.unusedSimpArgs false
set_option linter.unusedVariables false
set_option linter.unusedSectionVars false

/-! Layer 5: does it hold for each of them? -/
theorem three {vs : List Value} (h : vs.length = 3) : ∃ v0 v1 v2, vs = [v0, v1, v2] := by
  match vs, h with
  | [v0, v1, v2], _ => exact ⟨v0, v1, v2, rfl⟩
set_option maxHeartbeats 800000 in
theorem all1_v (q : Bool) (g : Nat) (lb : Array Value) (eg : ∀ args w, (callFunc g args).run Tryz.prog w = .ok (.enter g args) w) (bx : Nat) (vs : List Value) (W : World) (hv : vs.length = 3)
    (hc : W.cell? ⟨bx, 0, none⟩ = some (.func (.func g) #[] lb))
    (hcall : ∀ W', Below W.heap.size W W' → Calls Tryz.prog g (#[.agg vs.toArray] ++ lb) W' fun e w' => e = .returned (.bool q) ∧ Below W.heap.size W w') :
    Calls Tryz.prog 45 #[.agg vs.toArray, .pointer (some ⟨bx, 0, none⟩)] W fun e w' => e = .returned (.bool (!q)) ∧ Below W.heap.size W w' := by
  obtain ⟨v0, v1, v2, rfl⟩ := three hv
  have hlt := World.block_lt_of_cell? _ _ hc
  have HC := Lib.hid hcall
  clear hcall hv
  go_enter Tryz.func45, Tryz.ntmps45
  have hb1 : Below W.heap.size W (W.alloc (.cells #[v0, v1, v2] 29)) := (Below.refl _ _).alloc (Nat.le_refl _) _
  have hc1 : (W.alloc (.cells #[v0, v1, v2] 29)).cell? ⟨bx, 0, none⟩ = some (.func (.func g) #[] lb) := by rw [hb1.cell (p := ⟨bx, 0, none⟩) hlt]; exact hc
  have hcl := HC.out _ hb1
  go_wp2_with (go_at_fn g; refine hcl.mono ?_; rintro e w' ⟨rfl, hb'⟩)
  go_ret
  exact ⟨by first | rfl | simp, hb'⟩
theorem all_not (p : Ex → Bool) : ∀ ks : List Ex, (!(ks.any fun k => !p k)) = ks.all p
  | [] => rfl
  | k :: ks => by
    rw [List.any_cons, List.all_cons, ← all_not p ks]
    cases p k <;> simp
theorem all1k : ∀ args (w : World), (callFunc 45 args).run Tryz.prog w = .ok (.enter 45 args) w := enters_of Tryz.func45 (by kernel_rfl) rfl
set_option maxHeartbeats 800000 in
theorem all_v5 (p : Ex → Bool) (g : Nat) (lb : Array Value) (eg : ∀ args w, (callFunc g args).run Tryz.prog w = .ok (.enter g args) w) (a : Option Addr) (cap : Nat) (ks : List Ex) (S : Nat → Prop) (w : World)
    (hrow : RowX w S a cap ks) (hl : ks.length ≤ 1000000) (hp : PredX g lb p ks S w) :
    Calls Tryz.prog 30 #[.slice a ks.length cap, .func (.func g) #[] lb] w fun e w' => e = .returned (.bool (ks.all p)) ∧ Below w.heap.size w w' := by
  have hb1 : Below w.heap.size w (w.alloc (.cells #[.func (.func g) #[] lb] 32)) := (Below.refl _ _).alloc (Nat.le_refl _) _
  have hc1 : (w.alloc (.cells #[.func (.func g) #[] lb] 32)).cell? ⟨w.heap.size, 0, none⟩ = some (.func (.func g) #[] lb) := cell_of (heap_alloc_new w _) 0
  have hP : PredX 45 #[.pointer (some ⟨w.heap.size, 0, none⟩)] (fun k => !p k) ks S (w.alloc (.cells #[.func (.func g) #[] lb] 32)) := by
    intro W k vs hW hk hex
    have hlt : w.heap.size < (w.alloc (.cells #[.func (.func g) #[] lb] 32)).heap.size := by simp
    have hcW : W.cell? ⟨w.heap.size, 0, none⟩ = some (.func (.func g) #[] lb) := by rw [hW.cell (p := ⟨w.heap.size, 0, none⟩) hlt]; exact hc1
    have hsz := hW.size
    refine (all1_v (p k) g lb eg w.heap.size vs W hex.len hcW (fun W' hW' => ?_)).mono fun e w' ⟨he, hb⟩ => ⟨he, hb⟩
    have hww : Below w.heap.size w W := hb1.trans (hW.mono (by simp))
    have hww' : Below w.heap.size w W' := hww.trans (hW'.mono (by simp at hsz; omega))
    exact (hp W' k vs hww' hk (hex.below hW')).mono fun e w' ⟨he, hb⟩ => ⟨he, hW'.trans (hb.mono hW'.size)⟩
  have hcf := containsFunc_v (fun k => !p k) 45 #[.pointer (some ⟨w.heap.size, 0, none⟩)] all1k a cap ks S _ (hrow.below hb1) hl hP
  have hn := all_not p ks
  have H := Lib.hid hcf
  have HB := Lib.hid hb1
  clear hcf hP hb1 hc1 hp hrow
  rw [← hn]
  generalize ks.any (fun k => !p k) = q at *
  clear hn
  go_enter Tryz.func30, Tryz.ntmps30
  go_wp2_with (go_at_call 33; with_reducible refine Calls.mono H.out ?_; rintro e w2 ⟨rfl, hb2⟩; have HB2 := Lib.hid (HB.out.trans (hb2.mono HB.out.size)); clear hb2)
  go_ret
  exact ⟨by first | rfl | simp, HB2.out⟩
end Go.Proofs.YtjgpopjnmonlkaaGreatDoor
