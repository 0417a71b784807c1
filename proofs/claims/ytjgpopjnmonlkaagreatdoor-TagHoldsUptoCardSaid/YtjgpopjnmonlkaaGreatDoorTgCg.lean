import Derived.Test.YtjgpopjnmonlkaaGreatDoorTgCf
namespace Go.Proofs.YtjgpopjnmonlkaaGreatDoor
open Go.RowKit Go.Shelf
set_option linter.unusedSimpArgs false
set_option linter.unusedVariables false
set_option linter.unusedSectionVars false

/-! Layer 5: TagHolds. -/
theorem refHolds_v (x : Ex) (vs : List Value) (S : Nat → Prop) (W : World) (ta : Option Addr) (tcap : Nat) (tags : List ByteArray) (hex : ExAt W S x vs) (hok : x.ok) (hrt : x.rt) (ht : TagsAt W ta tcap tags) (htl : tags.length ≤ 1000) :
    Calls Tryz.prog 16 #[.agg vs.toArray, .slice ta tags.length tcap] W fun e w' => e = .returned (.bool (holdsF relF tags x)) ∧ Below W.heap.size W w' :=
  refHolds_any x.size x vs S W ta tcap tags (Nat.le_refl _) (by have := hok.1; omega) hex hok hrt ht htl
theorem refLeast_v (x : Ex) (vs : List Value) (S : Nat → Prop) (W : World) (hex : ExAt W S x vs) (hok : x.ok) (hrt : x.rt) :
    Calls Tryz.prog 17 #[.agg vs.toArray] W fun e w' => e = .returned (.int .i64 (leastF relF x)) ∧ Below W.heap.size W w' :=
  refLeast_any x.size x vs S W (Nat.le_refl _) (by have := hok.1; omega) hex hok hrt
theorem refWrite_v (x : Ex) (vs : List Value) (S : Nat → Prop) (W : World) (hex : ExAt W S x vs) (hok : x.ok) (hrt : x.rt) :
    Calls Tryz.prog 18 #[.agg vs.toArray, .string ⟨#[]⟩] W fun e w' => e = .returned (.string (textX x)) ∧ Below W.heap.size W w' := by
  have h := refWrite_any x.size x vs S W ⟨#[]⟩ (Nat.le_refl _) (by have := hok.1; omega) (by decide) hex hok hrt
  rw [show brW (⟨#[]⟩ : ByteArray) x.op = false from brW_nil x.op] at h
  exact h
set_option maxHeartbeats 1600000 in
theorem tholds_big (x : Ex) (vs : List Value) (W : World) (hx : ExAt W (fun _ => True) x vs) (hs : x.size ≤ 1048576) (a : Option Addr) (cap n : Nat) (h : 200 < x.size ∨ 20 < n) :
    Calls Tryz.prog 3 #[.agg vs.toArray, .slice a n cap] W fun e w' => e = .returned (.bool true) ∧ Below W.heap.size W w' := by
  obtain ⟨op, tag, ka, kn, kc, rfl⟩ := hx.shape
  have hb1 : Below W.heap.size W (W.alloc (.cells #[.string op, .string tag, .slice ka kn kc] 24)) := (Below.refl _ _).alloc (Nat.le_refl _) _
  have HC := Lib.hid (size_v x _ _ _ (by omega) (hx.below hb1))
  have HB := Lib.hid hb1
  clear hx hb1
  generalize x.size = z at *
  by_cases hz : 200 < z
  · have hzi : (200 : Int) < (z : Int) := by omega
    go_enter Tryz.func3, Tryz.ntmps3
    go_wp2_with (go_at_call 8; (with_reducible refine Calls.mono HC.out ?_); rintro e w2 ⟨rfl, hb2⟩; have HB2 := Lib.hid (HB.out.trans (hb2.mono HB.out.size)); clear hb2)
    go_ret
    exact ⟨by first | rfl | simp, HB2.out⟩
  · have hn : 20 < n := by omega
    have hni : (20 : Int) < (n : Int) := by omega
    have hzi : ¬ (200 : Int) < (z : Int) := by omega
    clear h
    go_enter Tryz.func3, Tryz.ntmps3
    go_wp2_with (go_at_call 8; (with_reducible refine Calls.mono HC.out ?_); rintro e w2 ⟨rfl, hb2⟩; have HB2 := Lib.hid (HB.out.trans (hb2.mono HB.out.size)); clear hb2)
    go_ret
    exact ⟨by first | rfl | simp, HB2.out⟩
set_option maxRecDepth 100000 in
set_option maxHeartbeats 3200000 in
theorem tholds_no (x : Ex) (vs : List Value) (W : World) (hx : ExAt W (fun _ => True) x vs) (hs : x.size ≤ 200) (hf : x.fits) (a : Option Addr) (cap : Nat) (tags : List ByteArray) (ht : TagsAt W a cap tags) (hl : tags.length ≤ 20) (hE : EnvV W) (hR : rightF 100 x = false) :
    Calls Tryz.prog 3 #[.agg vs.toArray, .slice a tags.length cap] W fun e w' => e = .returned (.bool true) ∧ Below W.heap.size W w' := by
  obtain ⟨op, tag, ka, kn, kc, rfl⟩ := hx.shape
  have hok : x.ok := ⟨by omega, hf⟩
  have h8 := hE.2.2.2
  have hb1 : Below W.heap.size W (W.alloc (.cells #[.string op, .string tag, .slice ka kn kc] 24)) := (Below.refl _ _).alloc (Nat.le_refl _) _
  have hbk := heap_alloc_new W (.cells #[.string op, .string tag, .slice ka kn kc] 24)
  obtain ⟨w1, hw1⟩ : ∃ w1, W.alloc (.cells #[.string op, .string tag, .slice ka kn kc] 24) = w1 := ⟨_, rfl⟩
  rw [hw1] at hb1 hbk
  have hlt1 := lt_of_block hbk
  have hE1 : EnvV w1 := hE.below hb1 h8
  have h81 : 8 ≤ w1.heap.size := hE1.2.2.2
  have ht1 := ht.below hb1
  have HC := Lib.hid (fun (w' : World) (hb : Below w1.heap.size w1 w') => size_v x _ _ w' (by omega) ((hx.below hb1).below hb))
  have HOF := Lib.hid (fun (w' : World) (hb : Below w1.heap.size w1 w') => of_v x _ _ w' (by omega) ((hx.below hb1).below hb))
  have hrr := fun (w' : World) (hb : Below w1.heap.size w1 w') => refRight_v x _ _ w' 100 (by omega) (by omega) hf ((hx.below hb1).below hb)
  rw [hR] at hrr
  have HRR := Lib.hid hrr
  have hpr := fun (w' : World) (S : Nat → Prop) (us : List Value) (hu : ExAt w' S x us) => Right_v x us S w' hu hok
  rw [hR] at hpr
  have HPR := Lib.hid hpr
  have hph := fun (w' : World) (S : Nat → Prop) (us : List Value) (hb : Below w1.heap.size w1 w') (hu : ExAt w' S x us) => Holds_v x us S w' a cap tags hu hok (ht1.below hb) (by omega) (hE1.below hb h81)
  rw [show HoldsF x tags = false by unfold HoldsF; rw [hR]; rfl] at hph
  have HPH := Lib.hid hph
  have hpl := fun (w' : World) (S : Nat → Prop) (us : List Value) (hb : Below w1.heap.size w1 w') (hu : ExAt w' S x us) => Least_v x us S w' hu hok (hE1.below hb h81)
  rw [show LeastF x = -1 by unfold LeastF; rw [hR]; rfl] at hpl
  have HPL := Lib.hid hpl
  have hpw := fun (w' : World) (S : Nat → Prop) (us : List Value) (hu : ExAt w' S x us) => Write_v x us S w' hu hok
  rw [show WriteF x = ⟨#[]⟩ by unfold WriteF; rw [hR]; rfl] at hpw
  have HPW := Lib.hid hpw
  have HAW := Lib.hid (fun (w' : World) (hb : Below w1.heap.size w1 w') => awake_v w' (hE1.below hb h81))
  have HB := Lib.hid hb1
  have HW1 := Lib.hid hw1
  have HBX : Hid (∀ w', Below w1.heap.size w1 w' → ∀ i, w'.cell? ⟨W.heap.size, i, none⟩ = #[Value.string op, .string tag, .slice ka kn kc][i]?) := Lib.hid (fun w' hb i => by
    rw [hb.cell (p := ⟨W.heap.size, i, none⟩) hlt1]
    exact cell_of hbk i)
  have HBc := Lib.hid (Below.refl w1.heap.size w1)
  have hzi : ¬ (200 : Int) < (x.size : Int) := by omega
  have hni : ¬ (20 : Int) < (tags.length : Int) := by omega
  clear hx hb1 hbk hw1 hE hE1 hR ht ht1 hok hf hrr hpr hph hpl hpw
  generalize x.size = z at *
  generalize tags.length = n at *
  go_enter Tryz.func3, Tryz.ntmps3
  go_wp2_with (first
    | (go_at_call 8; rw [HW1.out]; (with_reducible refine Calls.mono (HC.out _ HBc.out) ?_); rintro e w2 ⟨rfl, hb2⟩; replace HBc := Lib.hid (HBc.out.trans (hb2.mono HBc.out.size)); have c0 := HBX.out _ HBc.out 0; have c1 := HBX.out _ HBc.out 1; have c2 := HBX.out _ HBc.out 2; clear hb2)
    | (go_at_call 9; (with_reducible refine Calls.mono (HOF.out _ HBc.out) ?_); rintro e w3 ⟨us, rfl, hex, hb3⟩; obtain ⟨o3, t3, a3, n3, c3, rfl⟩ := hex.shape; replace HBc := Lib.hid (HBc.out.trans (hb3.mono HBc.out.size)); have hb4 : Below w3.heap.size w3 (w3.alloc (.cells #[.string o3, .string t3, .slice a3 n3 c3] 29)) := ((Below.refl _ _).alloc (Nat.le_refl _) _); have HEX0 := Lib.hid (hex.below hb4); replace HBc := Lib.hid (HBc.out.trans (hb4.mono HBc.out.size)); have hpk : (w3.alloc (.cells #[.string o3, .string t3, .slice a3 n3 c3] 29)).heap[w3.heap.size]? = _ := heap_alloc_new w3 _
       have HPX : Hid (∀ w', Below (w3.alloc (.cells #[.string o3, .string t3, .slice a3 n3 c3] 29)).heap.size (w3.alloc (.cells #[.string o3, .string t3, .slice a3 n3 c3] 29)) w' → ∀ i, w'.cell? ⟨w3.heap.size, i, none⟩ = #[Value.string o3, .string t3, .slice a3 n3 c3][i]?) := Lib.hid (fun w' hb i => by
         rw [hb.cell (p := ⟨w3.heap.size, i, none⟩) (lt_of_block hpk)]
         exact cell_of hpk i)
       have c0 := HBX.out _ HBc.out 0; have c1 := HBX.out _ HBc.out 1; have c2 := HBX.out _ HBc.out 2
       have HBp := Lib.hid (Below.refl (w3.alloc (.cells #[.string o3, .string t3, .slice a3 n3 c3] 29)).heap.size (w3.alloc (.cells #[.string o3, .string t3, .slice a3 n3 c3] 29)))
       clear hb3 hex hb4 hpk)
    | (go_at_call 10; (with_reducible refine Calls.mono (HRR.out _ HBc.out) ?_); rintro e w5 ⟨rfl, hb5⟩; replace HBc := Lib.hid (HBc.out.trans (hb5.mono HBc.out.size)); replace HBp := Lib.hid (HBp.out.trans (hb5.mono HBp.out.size)); have HEX := Lib.hid (HEX0.out.below HBp.out); have p0 := HPX.out _ HBp.out 0; have p1 := HPX.out _ HBp.out 1; have p2 := HPX.out _ HBp.out 2; clear hb5)
    | (go_at_call 11; (with_reducible refine Calls.mono (HPR.out _ _ _ HEX.out) ?_); rintro e w5 ⟨rfl, hb5⟩; replace HBc := Lib.hid (HBc.out.trans (hb5.mono HBc.out.size)); replace HBp := Lib.hid (HBp.out.trans (hb5.mono HBp.out.size)); have HEX := Lib.hid (HEX0.out.below HBp.out); have p0 := HPX.out _ HBp.out 0; have p1 := HPX.out _ HBp.out 1; have p2 := HPX.out _ HBp.out 2; clear hb5)
    | (go_at_call 12; (with_reducible refine Calls.mono (HPH.out _ _ _ HBc.out HEX.out) ?_); rintro e w5 ⟨rfl, hb5⟩; replace HBc := Lib.hid (HBc.out.trans (hb5.mono HBc.out.size)); replace HBp := Lib.hid (HBp.out.trans (hb5.mono HBp.out.size)); have HEX := Lib.hid (HEX0.out.below HBp.out); have p0 := HPX.out _ HBp.out 0; have p1 := HPX.out _ HBp.out 1; have p2 := HPX.out _ HBp.out 2; clear hb5)
    | (go_at_call 13; (with_reducible refine Calls.mono (HPL.out _ _ _ HBc.out HEX.out) ?_); rintro e w5 ⟨rfl, hb5⟩; replace HBc := Lib.hid (HBc.out.trans (hb5.mono HBc.out.size)); replace HBp := Lib.hid (HBp.out.trans (hb5.mono HBp.out.size)); have HEX := Lib.hid (HEX0.out.below HBp.out); have p0 := HPX.out _ HBp.out 0; have p1 := HPX.out _ HBp.out 1; have p2 := HPX.out _ HBp.out 2; clear hb5)
    | (go_at_call 14; (with_reducible refine Calls.mono (HPW.out _ _ _ HEX.out) ?_); rintro e w5 ⟨rfl, hb5⟩; replace HBc := Lib.hid (HBc.out.trans (hb5.mono HBc.out.size)); clear hb5)
    | (go_at_call 15; (with_reducible refine Calls.mono (HAW.out _ HBc.out) ?_); rintro e w6 ⟨rfl, hb6⟩; replace HBc := Lib.hid (HBc.out.trans (hb6.mono HBc.out.size)); clear hb6))
  go_ret
  exact ⟨by first | rfl | simp, HB.out.trans (HBc.out.mono HB.out.size)⟩
set_option maxRecDepth 100000 in
set_option maxHeartbeats 3200000 in
theorem tholds_ok (x : Ex) (vs : List Value) (W : World) (hx : ExAt W (fun _ => True) x vs) (hs : x.size ≤ 200) (hf : x.fits) (a : Option Addr) (cap : Nat) (tags : List ByteArray) (ht : TagsAt W a cap tags) (hl : tags.length ≤ 20) (hE : EnvV W) (hR : rightF 100 x = true) :
    Calls Tryz.prog 3 #[.agg vs.toArray, .slice a tags.length cap] W fun e w' => e = .returned (.bool true) ∧ Below W.heap.size W w' := by
  obtain ⟨op, tag, ka, kn, kc, rfl⟩ := hx.shape
  have hok : x.ok := ⟨by omega, hf⟩
  have h8 := hE.2.2.2
  have hb1 : Below W.heap.size W (W.alloc (.cells #[.string op, .string tag, .slice ka kn kc] 24)) := (Below.refl _ _).alloc (Nat.le_refl _) _
  have hbk := heap_alloc_new W (.cells #[.string op, .string tag, .slice ka kn kc] 24)
  obtain ⟨w1, hw1⟩ : ∃ w1, W.alloc (.cells #[.string op, .string tag, .slice ka kn kc] 24) = w1 := ⟨_, rfl⟩
  rw [hw1] at hb1 hbk
  have hlt1 := lt_of_block hbk
  have hE1 : EnvV w1 := hE.below hb1 h8
  have h81 : 8 ≤ w1.heap.size := hE1.2.2.2
  have ht1 := ht.below hb1
  have HC := Lib.hid (fun (w' : World) (hb : Below w1.heap.size w1 w') => size_v x _ _ w' (by omega) ((hx.below hb1).below hb))
  have HOF := Lib.hid (fun (w' : World) (hb : Below w1.heap.size w1 w') => of_v x _ _ w' (by omega) ((hx.below hb1).below hb))
  have hrr := fun (w' : World) (hb : Below w1.heap.size w1 w') => refRight_v x _ _ w' 100 (by omega) (by omega) hf ((hx.below hb1).below hb)
  rw [hR] at hrr
  have HRR := Lib.hid hrr
  have hpr := fun (w' : World) (S : Nat → Prop) (us : List Value) (hu : ExAt w' S x us) => Right_v x us S w' hu hok
  rw [hR] at hpr
  have HPR := Lib.hid hpr
  have hph := fun (w' : World) (S : Nat → Prop) (us : List Value) (hb : Below w1.heap.size w1 w') (hu : ExAt w' S x us) => Holds_v x us S w' a cap tags hu hok (ht1.below hb) (by omega) (hE1.below hb h81)
  rw [show HoldsF x tags = holdsF relF tags x by unfold HoldsF; rw [hR]; rfl] at hph
  have HPH := Lib.hid hph
  have hpl := fun (w' : World) (S : Nat → Prop) (us : List Value) (hb : Below w1.heap.size w1 w') (hu : ExAt w' S x us) => Least_v x us S w' hu hok (hE1.below hb h81)
  rw [show LeastF x = leastF relF x by unfold LeastF; rw [hR]; rfl] at hpl
  have HPL := Lib.hid hpl
  have hpw := fun (w' : World) (S : Nat → Prop) (us : List Value) (hu : ExAt w' S x us) => Write_v x us S w' hu hok
  rw [show WriteF x = textX x by unfold WriteF; rw [hR]; rfl] at hpw
  have HPW := Lib.hid hpw
  have hrt : x.rt := ⟨100, hR⟩
  have HRH := Lib.hid (fun (w' : World) (hb : Below w1.heap.size w1 w') => refHolds_v x _ _ w' a cap tags ((hx.below hb1).below hb) hok hrt (ht1.below hb) (by omega))
  have HRL := Lib.hid (fun (w' : World) (hb : Below w1.heap.size w1 w') => refLeast_v x _ _ w' ((hx.below hb1).below hb) hok hrt)
  have HRW := Lib.hid (fun (w' : World) (hb : Below w1.heap.size w1 w') => refWrite_v x _ _ w' ((hx.below hb1).below hb) hok hrt)
  have HAW := Lib.hid (fun (w' : World) (hb : Below w1.heap.size w1 w') => awake_v w' (hE1.below hb h81))
  have HB := Lib.hid hb1
  have HW1 := Lib.hid hw1
  have HBX : Hid (∀ w', Below w1.heap.size w1 w' → ∀ i, w'.cell? ⟨W.heap.size, i, none⟩ = #[Value.string op, .string tag, .slice ka kn kc][i]?) := Lib.hid (fun w' hb i => by
    rw [hb.cell (p := ⟨W.heap.size, i, none⟩) hlt1]
    exact cell_of hbk i)
  have HBc := Lib.hid (Below.refl w1.heap.size w1)
  have hzi : ¬ (200 : Int) < (x.size : Int) := by omega
  have hni : ¬ (20 : Int) < (tags.length : Int) := by omega
  clear hx hb1 hbk hw1 hE hE1 hR ht ht1 hok hf hrr hpr hph hpl hpw hrt
  generalize x.size = z at *
  generalize tags.length = n at *
  generalize holdsF relF tags x = R at *
  generalize leastF relF x = L at *
  generalize textX x = T at *
  go_enter Tryz.func3, Tryz.ntmps3
  go_wp2_with (first
    | (go_at_call 8; rw [HW1.out]; (with_reducible refine Calls.mono (HC.out _ HBc.out) ?_); rintro e w2 ⟨rfl, hb2⟩; replace HBc := Lib.hid (HBc.out.trans (hb2.mono HBc.out.size)); have c0 := HBX.out _ HBc.out 0; have c1 := HBX.out _ HBc.out 1; have c2 := HBX.out _ HBc.out 2; clear hb2)
    | (go_at_call 9; (with_reducible refine Calls.mono (HOF.out _ HBc.out) ?_); rintro e w3 ⟨us, rfl, hex, hb3⟩; obtain ⟨o3, t3, a3, n3, c3, rfl⟩ := hex.shape; replace HBc := Lib.hid (HBc.out.trans (hb3.mono HBc.out.size)); have hb4 : Below w3.heap.size w3 (w3.alloc (.cells #[.string o3, .string t3, .slice a3 n3 c3] 29)) := ((Below.refl _ _).alloc (Nat.le_refl _) _); have HEX0 := Lib.hid (hex.below hb4); replace HBc := Lib.hid (HBc.out.trans (hb4.mono HBc.out.size)); have hpk : (w3.alloc (.cells #[.string o3, .string t3, .slice a3 n3 c3] 29)).heap[w3.heap.size]? = _ := heap_alloc_new w3 _
       have HPX : Hid (∀ w', Below (w3.alloc (.cells #[.string o3, .string t3, .slice a3 n3 c3] 29)).heap.size (w3.alloc (.cells #[.string o3, .string t3, .slice a3 n3 c3] 29)) w' → ∀ i, w'.cell? ⟨w3.heap.size, i, none⟩ = #[Value.string o3, .string t3, .slice a3 n3 c3][i]?) := Lib.hid (fun w' hb i => by
         rw [hb.cell (p := ⟨w3.heap.size, i, none⟩) (lt_of_block hpk)]
         exact cell_of hpk i)
       have c0 := HBX.out _ HBc.out 0; have c1 := HBX.out _ HBc.out 1; have c2 := HBX.out _ HBc.out 2
       have HBp := Lib.hid (Below.refl (w3.alloc (.cells #[.string o3, .string t3, .slice a3 n3 c3] 29)).heap.size (w3.alloc (.cells #[.string o3, .string t3, .slice a3 n3 c3] 29)))
       clear hb3 hex hb4 hpk)
    | (go_at_call 10; (with_reducible refine Calls.mono (HRR.out _ HBc.out) ?_); rintro e w5 ⟨rfl, hb5⟩; replace HBc := Lib.hid (HBc.out.trans (hb5.mono HBc.out.size)); replace HBp := Lib.hid (HBp.out.trans (hb5.mono HBp.out.size)); have HEX := Lib.hid (HEX0.out.below HBp.out); have p0 := HPX.out _ HBp.out 0; have p1 := HPX.out _ HBp.out 1; have p2 := HPX.out _ HBp.out 2; clear hb5))
  have HI : Hid (InvC w5 [(W.heap.size, 0, .string op), (W.heap.size, 1, .string tag), (W.heap.size, 2, .slice ka kn kc), (w3.heap.size, 0, .string o3), (w3.heap.size, 1, .string t3), (w3.heap.size, 2, .slice a3 n3 c3)] w5.drew) := Lib.hid (InvC.start (Below.refl _ _) (by
    intro y hy
    simp only [List.mem_cons, List.not_mem_nil, or_false] at hy
    rcases hy with rfl | rfl | rfl | rfl | rfl | rfl
    · exact HBX.out _ HBc.out 0
    · exact HBX.out _ HBc.out 1
    · exact HBX.out _ HBc.out 2
    · exact p0
    · exact p1
    · exact p2))
  obtain ⟨cs, hcs⟩ : ∃ cs : List (Nat × Nat × Value), cs = [(W.heap.size, 0, .string op), (W.heap.size, 1, .string tag), (W.heap.size, 2, .slice ka kn kc), (w3.heap.size, 0, .string o3), (w3.heap.size, 1, .string t3), (w3.heap.size, 2, .slice a3 n3 c3)] := ⟨_, rfl⟩
  rw [← hcs] at HI
  have x0 : ∀ i : Wld (InvC w5 cs), i.w.cell? ⟨W.heap.size, 0, none⟩ = some (.string op) := fun i => InvC.cell i (by rw [hcs]; simp)
  have x1 : ∀ i : Wld (InvC w5 cs), i.w.cell? ⟨W.heap.size, 1, none⟩ = some (.string tag) := fun i => InvC.cell i (by rw [hcs]; simp)
  have x2 : ∀ i : Wld (InvC w5 cs), i.w.cell? ⟨W.heap.size, 2, none⟩ = some (.slice ka kn kc) := fun i => InvC.cell i (by rw [hcs]; simp)
  have y0 : ∀ i : Wld (InvC w5 cs), i.w.cell? ⟨w3.heap.size, 0, none⟩ = some (.string o3) := fun i => InvC.cell i (by rw [hcs]; simp)
  have y1 : ∀ i : Wld (InvC w5 cs), i.w.cell? ⟨w3.heap.size, 1, none⟩ = some (.string t3) := fun i => InvC.cell i (by rw [hcs]; simp)
  have y2 : ∀ i : Wld (InvC w5 cs), i.w.cell? ⟨w3.heap.size, 2, none⟩ = some (.slice a3 n3 c3) := fun i => InvC.cell i (by rw [hcs]; simp)
  have HB1 := Lib.hid (fun i : Wld (InvC w5 cs) => HBc.out.trans (i.ok.1.mono HBc.out.size))
  have G1 := Lib.hid (fun i : Wld (InvC w5 cs) => HPR.out i.w _ _ (HEX.out.below i.ok.1))
  have G2 := Lib.hid (fun i : Wld (InvC w5 cs) => HPH.out i.w _ _ (HB1.out i) (HEX.out.below i.ok.1))
  have G3 := Lib.hid (fun i : Wld (InvC w5 cs) => HPL.out i.w _ _ (HB1.out i) (HEX.out.below i.ok.1))
  have G4 := Lib.hid (fun i : Wld (InvC w5 cs) => HPW.out i.w _ _ (HEX.out.below i.ok.1))
  have G5 := Lib.hid (fun i : Wld (InvC w5 cs) => HRH.out i.w (HB1.out i))
  have G6 := Lib.hid (fun i : Wld (InvC w5 cs) => HRL.out i.w (HB1.out i))
  have G7 := Lib.hid (fun i : Wld (InvC w5 cs) => HRW.out i.w (HB1.out i))
  have G8 := Lib.hid (fun i : Wld (InvC w5 cs) => HAW.out i.w (HB1.out i))
  have hI0 := HI.out
  have hne5 : Nonempty (Wld (InvC w5 cs)) := ⟨⟨_, hI0⟩⟩
  have hTT : (T.toList == T.toList) = true := by simp
  have hLL : (L == L) = true := by simp
  clear hcs c0 c1 c2 p0 p1 p2
  cases R
  all_goals
    refine wp_region_inv (InvC w5 cs) (by kernel_rfl) (by kernel_rfl) hI0 ?_
    repeat (go_big_quiet_step ((first
      | (go_at_call 11; exact Calls.inv (G1.out _))
      | (go_at_call 12; exact Calls.inv (G2.out _))
      | (go_at_call 13; exact Calls.inv (G3.out _))
      | (go_at_call 14; exact Calls.inv (G4.out _))
      | (go_at_call 16; exact Calls.inv (G5.out _))
      | (go_at_call 17; exact Calls.inv (G6.out _))
      | (go_at_call 18; exact Calls.inv (G7.out _))
      | (go_at_call 15; exact Calls.inv (G8.out _)))))
    refine wpQuiet_nil ?_
    intro w6 hw6
    obtain ⟨i6, rfl⟩ := hw6
    have HB8 := Lib.hid (HB1.out i6)
    go_wp2_with fail
    go_ret
    exact ⟨by first | rfl | simp, HB.out.trans (HB8.out.mono HB.out.size)⟩
theorem tholds_v (x : Ex) (vs : List Value) (a : Option Addr) (cap : Nat) (tags : List ByteArray) (W : World) (hx : ExAt W (fun _ => True) x vs) (hs : x.size ≤ 1048576) (hf : x.fits) (ht : TagsAt W a cap tags) (hE : EnvV W) :
    Calls Tryz.prog 3 #[.agg vs.toArray, .slice a tags.length cap] W fun e w' => e = .returned (.bool true) ∧ Below W.heap.size W w' := by
  by_cases h : 200 < x.size ∨ 20 < tags.length
  · exact tholds_big x vs W hx hs a cap _ h
  · cases hR : rightF 100 x with
    | true => exact tholds_ok x vs W hx (by omega) hf a cap tags ht (by omega) hE hR
    | false => exact tholds_no x vs W hx (by omega) hf a cap tags ht (by omega) hE hR
end Go.Proofs.YtjgpopjnmonlkaaGreatDoor
