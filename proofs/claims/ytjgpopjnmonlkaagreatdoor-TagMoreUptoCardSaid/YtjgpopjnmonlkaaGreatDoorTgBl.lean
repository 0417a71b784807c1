import Derived.Test.YtjgpopjnmonlkaaGreatDoorTgBk
namespace Go.Proofs.YtjgpopjnmonlkaaGreatDoor
open Go.RowKit Go.Shelf Go.Deep
set_option linter.unusedSimpArgs false
set_option linter.unusedVariables false
set_option linter.unusedSectionVars false

/-! Layer 5: TagMore where it holds. -/
theorem more_run (w : World) (B g cap n : Nat) (ty : TypeId) (tags : List ByteArray) (more : ByteArray) (h : w.ownsRow B 9 1 (.slice (some ⟨g, 0, none⟩) n cap) n (szs tags)) (hB : B ≤ w.heap.size) (hl : n ≤ 1000) (gm : Nat) (hm : w.cell? ⟨gm, 0, none⟩ = some (.string more)) :
    ∃ g' cap' w', (Builtin.append_ #[25, 25] ty #[.slice (some ⟨g, 0, none⟩) n cap, .slice (some ⟨gm, 0, none⟩) 1 1]).run Tryz.prog w = .ok (.slice (some ⟨g', 0, none⟩) (n + 1) cap') w' ∧
      w'.ownsRow B 9 1 (.slice (some ⟨g', 0, none⟩) (n + 1) cap') (n + 1) (szs (tags ++ [more])) ∧ w.grownBy w' (some g) := by
  obtain ⟨i0, hi0, hz0, hz1, hz2⟩ := info_parts info36g
  obtain ⟨g', cap', w', hr, h2, h3, _, _⟩ := run_append_lies (P := Tryz.prog) w 25 ty B 9 i0 _ 1 16 Tryz.underlying25 hi0 hz0 hz1 hz2 rfl (by decide) _ n (szs tags) h ⟨gm, 0, none⟩ 1 1 [.string more] (by simp) (fun j u hu => by
      match j, hu with
      | 0, hu => rw [addr_add]; simpa using hm.trans hu
      | j + 1, hu => simp at hu) (by intro u hu; simp at hu; subst hu; rfl) (by decide) (by unfold maxLen; omega) (by omega) hB _ rfl
  exact ⟨g', cap', w', hr, by simpa [szs] using h2, h3⟩
abbrev A0 : Obj := .cells #[] 9
abbrev A1 (more : ByteArray) : Obj := .cells #[.string more] 9
theorem own_empty (w : World) (B : Nat) (hB : B ≤ w.heap.size) : (w.alloc A0).ownsRow B 9 1 (.slice (some ⟨w.heap.size, 0, none⟩) 0 0) 0 [] :=
  ⟨rfl, .inr ⟨w.heap.size, 0, #[], rfl, hB, heap_alloc_new w _, Nat.le_refl _, by unfold maxLen; omega, rfl, rfl⟩⟩
theorem own_alloc {w : World} {B n : Nat} {v : Value} {xs : List Value} (h : w.ownsRow B 9 1 v n xs) (o : Obj) : (w.alloc o).ownsRow B 9 1 v n xs := rowZ_kept h ((Below.refl _ _).alloc (Nat.le_refl _) o)
theorem grown_below {B g : Nat} {w0 w w' : World} (h : Below B w0 w) (hg : w.grownBy w' (some g)) (hB : B ≤ g) (hw : B ≤ w.heap.size) : Below B w0 w' :=
  h.grown hg hw (fun k hk => by cases hk; exact hB)
theorem tags_row {w : World} {B n g cap : Nat} {l : List ByteArray} (h : w.ownsRow B 9 1 (.slice (some ⟨g, 0, none⟩) n cap) n (szs l)) (hn : n = l.length) : TagsAt w (some ⟨g, 0, none⟩) cap l := by
  obtain ⟨a, c, he, ht⟩ := tags_own h hn
  injection he with e1 e2 e3
  subst e3; subst e1
  exact ht
set_option maxRecDepth 100000 in
set_option maxHeartbeats 8000000 in
theorem more_yes (x : Ex) (vs : List Value) (W : World) (hx : ExAt W (fun _ => True) x vs) (hs : x.size ≤ 200) (hf : x.fits) (a : Option Addr) (cap : Nat) (tags : List ByteArray) (more : ByteArray) (ht : TagsAt W a cap tags) (hl : tags.length ≤ 20) (hd : deniesF x = false) (hE : EnvV W) (hR : HoldsF x tags = true) :
    Calls Tryz.prog 6 #[.agg vs.toArray, .slice a tags.length cap, .string more] W fun e w' => e = .returned (.bool true) ∧ Below W.heap.size W w' := by
  obtain ⟨op, tag, ka, kn, kc, rfl⟩ := hx.shape
  have hok : x.ok := ⟨by omega, hf⟩
  have h8 := hE.2.2.2
  have hb1 : Below W.heap.size W (W.alloc (.cells #[.string op, .string tag, .slice ka kn kc] 24)) := (Below.refl _ _).alloc (Nat.le_refl _) _
  have hbk := heap_alloc_new W (.cells #[.string op, .string tag, .slice ka kn kc] 24)
  obtain ⟨w1, hw1⟩ : ∃ w1, W.alloc (.cells #[.string op, .string tag, .slice ka kn kc] 24) = w1 := ⟨_, rfl⟩
  rw [hw1] at hb1 hbk
  have hlt1 := lt_of_block hbk
  have hE1 : EnvV w1 := hE.below hb1 h8
  have h81 : 8 ≤ w1.heap.size := hE1.2.2.2
  have ht1 := ht.below hb1
  have HC := Lib.hid (fun (w' : World) (hb : Below w1.heap.size w1 w') => size_v x _ _ w' (by omega) ((hx.below hb1).below hb))
  have hdv := fun (w' : World) (hb : Below w1.heap.size w1 w') => denies_v x _ _ w' (by omega) ((hx.below hb1).below hb)
  rw [hd] at hdv
  have HD := Lib.hid hdv
  have HOF := Lib.hid (fun (w' : World) (hb : Below w1.heap.size w1 w') => of_v x _ _ w' (by omega) ((hx.below hb1).below hb))
  have hhv := fun (w' : World) (S : Nat → Prop) (us : List Value) (hb : Below w1.heap.size w1 w') (hu : ExAt w' S x us) => Holds_v x us S w' a cap tags hu hok (ht1.below hb) (by omega) (hE1.below hb h81)
  rw [hR] at hhv
  have HH := Lib.hid hhv
  have hR2 := HoldsF_more x tags more hd hR
  have hln : (tags ++ [more]).length = tags.length + 1 := by simp
  have hhw := fun (w' : World) (S : Nat → Prop) (us : List Value) (a : Option Addr) (cap : Nat) (hb : Below w1.heap.size w1 w') (hu : ExAt w' S x us) (ht : TagsAt w' a cap (tags ++ [more])) => Holds_v x us S w' a cap (tags ++ [more]) hu hok ht (by omega) (hE1.below hb h81)
  rw [hR2, hln] at hhw
  have HH2 := Lib.hid hhw
  have HCP := Lib.hid (fun (w : World) (B g : Nat) (ty : TypeId) h hB (hb : Below w1.heap.size w1 w) => copy_run w B g ty h hB a cap tags (ht1.below hb) (by omega))
  have HMR := Lib.hid (fun (w : World) (B g cap : Nat) (ty : TypeId) h hB gm hm => more_run w B g cap tags.length ty tags more h hB (by omega) gm hm)
  have HTR := Lib.hid (fun (w : World) (B g cap : Nat) (h : w.ownsRow B 9 1 (.slice (some ⟨g, 0, none⟩) (tags.length + 1) cap) (tags.length + 1) (szs (tags ++ [more]))) => tags_row h hln.symm)
  have HAW := Lib.hid (fun (w' : World) (hb : Below w1.heap.size w1 w') => awake_v w' (hE1.below hb h81))
  have HB := Lib.hid hb1
  have HW1 := Lib.hid hw1
  have HBX : Hid (∀ w', Below w1.heap.size w1 w' → ∀ i, w'.cell? ⟨W.heap.size, i, none⟩ = #[Value.string op, .string tag, .slice ka kn kc][i]?) := Lib.hid (fun w' hb i => by
    rw [hb.cell (p := ⟨W.heap.size, i, none⟩) hlt1]
    exact cell_of hbk i)
  have HBc := Lib.hid (Below.refl w1.heap.size w1)
  have hzi : ¬ (200 : Int) < (x.size : Int) := by omega
  have hni : ¬ (20 : Int) < (tags.length : Int) := by omega
  clear hx hb1 hbk hw1 hdv hE hE1 hd hhv hR ht ht1 hok hf hR2 hln hhw
  generalize x.size = z at *
  generalize tags.length = n at *
  go_enter Tryz.func6, Tryz.ntmps6
  go_wp2_with (first
    | (go_at_call 8; rw [HW1.out]; (with_reducible refine Calls.mono (HC.out _ HBc.out) ?_); rintro e w2 ⟨rfl, hb2⟩; replace HBc := Lib.hid (HBc.out.trans (hb2.mono HBc.out.size)); have c0 := HBX.out _ HBc.out 0; have c1 := HBX.out _ HBc.out 1; have c2 := HBX.out _ HBc.out 2; clear hb2)
    | (go_at_call 21; (with_reducible refine Calls.mono (HD.out _ HBc.out) ?_); rintro e w2 ⟨rfl, hb2⟩; replace HBc := Lib.hid (HBc.out.trans (hb2.mono HBc.out.size)); have c0 := HBX.out _ HBc.out 0; have c1 := HBX.out _ HBc.out 1; have c2 := HBX.out _ HBc.out 2; clear hb2)
    | (go_at_call 9; (with_reducible refine Calls.mono (HOF.out _ HBc.out) ?_); rintro e w3 ⟨us, rfl, hex, hb3⟩; obtain ⟨o3, t3, a3, n3, c3, rfl⟩ := hex.shape; replace HBc := Lib.hid (HBc.out.trans (hb3.mono HBc.out.size)); have hb4 : Below w3.heap.size w3 (w3.alloc (.cells #[.string o3, .string t3, .slice a3 n3 c3] 29)).drew := ((Below.refl _ _).alloc (Nat.le_refl _) _).drew; have HEX := Lib.hid (hex.below hb4); replace HBc := Lib.hid (HBc.out.trans (hb4.mono HBc.out.size)); have hpk : (w3.alloc (.cells #[.string o3, .string t3, .slice a3 n3 c3] 29)).heap[w3.heap.size]? = _ := heap_alloc_new w3 _; have HPK := Lib.hid hpk; have p0 := cell_of hpk 0; have p1 := cell_of hpk 1; have p2 := cell_of hpk 2; clear hb3 hex hb4 hpk))
  go_region_law (first
    | ((obtain ⟨g', cap', w7, hr, ho7, hg7⟩ := HCP.out (w4.alloc (.cells #[] 9)) w4.heap.size w4.heap.size _ (own_empty w4 w4.heap.size (Nat.le_refl _)) (by first | exact Nat.le_refl _ | (simp; done) | (simp; omega)) (HBc.out.trans (HA.out.mono HBc.out.size)))
       refine step_run_append (by kernel_rfl) (.tmp 39) (.tmp 40) 25 (by rfl) (.slice (some ⟨w4.heap.size, 0, none⟩) 0 0) (.slice a n cap) (by rfl) (by rfl) _ _ hr ?_
       have hb7 := grown_below HA.out hg7 (by omega) HA.out.size
       have H7 := Lib.hid hb7
       have H71 : Hid (Below w4.heap.size w4 (w7.alloc (.cells #[.string more] 9))) := Lib.hid (hb7.alloc hb7.size _)
       have HO7 := Lib.hid ho7
       have g0 := HPX.out _ H7.out 0; have g1 := HPX.out _ H7.out 1; have g2 := HPX.out _ H7.out 2
       have h0 := HPX.out _ H71.out 0; have h1 := HPX.out _ H71.out 1; have h2 := HPX.out _ H71.out 2
       clear hr ho7 hg7 hb7)
    | ((obtain ⟨g', cap', w7, hr, ho7, hg7⟩ := HCP.out ((w4.alloc (.cells #[] 9)).alloc (.cells #[.string more] 9)) w4.heap.size w4.heap.size _ (own_alloc (own_empty w4 w4.heap.size (Nat.le_refl _)) _) (by first | exact Nat.le_refl _ | (simp; done) | (simp; omega)) (HBc.out.trans (HAB.out.mono HBc.out.size)))
       refine step_run_append (by kernel_rfl) (.tmp 39) (.tmp 40) 25 (by rfl) (.slice (some ⟨w4.heap.size, 0, none⟩) 0 0) (.slice a n cap) (by rfl) (by rfl) _ _ hr ?_
       have hb7 := grown_below HAB.out hg7 (by omega) HAB.out.size
       have H7 := Lib.hid hb7
       have H71 : Hid (Below w4.heap.size w4 (w7.alloc (.cells #[.string more] 9))) := Lib.hid (hb7.alloc hb7.size _)
       have HO7 := Lib.hid ho7
       have HM7 : Hid (w7.cell? ⟨w4.heap.size + 1, 0, none⟩ = some (.string more)) := Lib.hid (by
         have hn := heap_alloc_new (w4.alloc (.cells #[] 9)) (.cells #[.string more] 9)
         rw [show (w4.alloc (.cells #[] 9)).heap.size = w4.heap.size + 1 by simp] at hn
         exact cell_of ((hg7.block _ (by simp <;> omega) (fun e => by have := Option.some.inj e; omega)).trans hn) 0)
       have g0 := HPX.out _ H7.out 0; have g1 := HPX.out _ H7.out 1; have g2 := HPX.out _ H7.out 2
       have h0 := HPX.out _ H71.out 0; have h1 := HPX.out _ H71.out 1; have h2 := HPX.out _ H71.out 2
       clear hr ho7 hg7 hb7)
    | ((obtain ⟨g', cap', w7, hr, ho7, hg7⟩ := HCP.out ((w4.alloc (.cells #[.string more] 9)).alloc (.cells #[] 9)) w4.heap.size (w4.heap.size + 1) _ (by have := own_empty (w4.alloc (.cells #[.string more] 9)) w4.heap.size (by simp); rwa [show (w4.alloc (.cells #[.string more] 9)).heap.size = w4.heap.size + 1 by simp] at this) (by first | exact Nat.le_refl _ | (simp; done) | (simp; omega)) (HBc.out.trans (HBA.out.mono HBc.out.size)))
       refine step_run_append (by kernel_rfl) (.tmp 39) (.tmp 40) 25 (by rfl) (.slice (some ⟨(w4.heap.size + 1), 0, none⟩) 0 0) (.slice a n cap) (by rfl) (by rfl) _ _ hr ?_
       have hb7 := grown_below HBA.out hg7 (by omega) HBA.out.size
       have H7 := Lib.hid hb7
       have H71 : Hid (Below w4.heap.size w4 (w7.alloc (.cells #[.string more] 9))) := Lib.hid (hb7.alloc hb7.size _)
       have HO7 := Lib.hid ho7
       have HM7 : Hid (w7.cell? ⟨w4.heap.size, 0, none⟩ = some (.string more)) := Lib.hid (by
         have hn := heap_alloc_new w4 (.cells #[.string more] 9)
         exact cell_of ((hg7.block _ (by simp <;> omega) (fun e => by have := Option.some.inj e; omega)).trans ((Below.heap_alloc _ _ _ (by simp)).trans hn)) 0)
       have g0 := HPX.out _ H7.out 0; have g1 := HPX.out _ H7.out 1; have g2 := HPX.out _ H7.out 2
       have h0 := HPX.out _ H71.out 0; have h1 := HPX.out _ H71.out 1; have h2 := HPX.out _ H71.out 2
       clear hr ho7 hg7 hb7)
    | ((obtain ⟨g8, cap8, w8, hr, ho8, hg8⟩ := HMR.out (w7.alloc (.cells #[.string more] 9)) w4.heap.size g' cap' _ (own_alloc HO7.out _) H71.out.size w7.heap.size (cell_of (heap_alloc_new w7 (.cells #[.string more] 9)) 0))
       refine step_run_append (by kernel_rfl) (.tmp 41) (.tmp 43) 25 (by rfl) (.slice (some ⟨g', 0, none⟩) n cap') (.slice (some ⟨w7.heap.size, 0, none⟩) 1 1) (by rfl) (by rfl) _ _ hr ?_
       have hb8 := grown_below H71.out hg8 (HO7.out.lt _ rfl).1 H71.out.size
       have H8 := Lib.hid hb8
       have HT8 := Lib.hid (HTR.out _ _ _ _ ho8)
       have hb9 := HBc.out.trans (hb8.mono HBc.out.size)
       have HBd := Lib.hid hb9
       have HX8 := Lib.hid (HX4.out.below hb8)
       have i0 := HPX.out _ H8.out 0; have i1 := HPX.out _ H8.out 1; have i2 := HPX.out _ H8.out 2
       clear hr ho8 hg8 hb8 hb9)
    | ((obtain ⟨g8, cap8, w8, hr, ho8, hg8⟩ := HMR.out w7 w4.heap.size g' cap' _ (HO7.out) H7.out.size (w4.heap.size + 1) (HM7.out))
       refine step_run_append (by kernel_rfl) (.tmp 41) (.tmp 43) 25 (by rfl) (.slice (some ⟨g', 0, none⟩) n cap') (.slice (some ⟨(w4.heap.size + 1), 0, none⟩) 1 1) (by rfl) (by rfl) _ _ hr ?_
       have hb8 := grown_below H7.out hg8 (HO7.out.lt _ rfl).1 H7.out.size
       have H8 := Lib.hid hb8
       have HT8 := Lib.hid (HTR.out _ _ _ _ ho8)
       have hb9 := HBc.out.trans (hb8.mono HBc.out.size)
       have HBd := Lib.hid hb9
       have HX8 := Lib.hid (HX4.out.below hb8)
       have i0 := HPX.out _ H8.out 0; have i1 := HPX.out _ H8.out 1; have i2 := HPX.out _ H8.out 2
       clear hr ho8 hg8 hb8 hb9)
    | ((obtain ⟨g8, cap8, w8, hr, ho8, hg8⟩ := HMR.out w7 w4.heap.size g' cap' _ (HO7.out) H7.out.size w4.heap.size (HM7.out))
       refine step_run_append (by kernel_rfl) (.tmp 41) (.tmp 43) 25 (by rfl) (.slice (some ⟨g', 0, none⟩) n cap') (.slice (some ⟨w4.heap.size, 0, none⟩) 1 1) (by rfl) (by rfl) _ _ hr ?_
       have hb8 := grown_below H7.out hg8 (HO7.out.lt _ rfl).1 H7.out.size
       have H8 := Lib.hid hb8
       have HT8 := Lib.hid (HTR.out _ _ _ _ ho8)
       have hb9 := HBc.out.trans (hb8.mono HBc.out.size)
       have HBd := Lib.hid hb9
       have HX8 := Lib.hid (HX4.out.below hb8)
       have i0 := HPX.out _ H8.out 0; have i1 := HPX.out _ H8.out 1; have i2 := HPX.out _ H8.out 2
       clear hr ho8 hg8 hb8 hb9)
    | (go_simp; go_at_call 12; (with_reducible refine Calls.mono (HH.out _ _ _ HBc.out HEX.out) ?_); rintro e w4 ⟨rfl, hb4⟩
       have HPX : Hid (∀ w', Below w4.heap.size w4 w' → ∀ i, w'.cell? ⟨w3.heap.size, i, none⟩ = #[Value.string o3, .string t3, .slice a3 n3 c3][i]?) := Lib.hid (fun w' hb i => by
         have hlt3 := lt_of_block HPK.out
         have hlt4 : w3.heap.size < w4.heap.size := Nat.lt_of_lt_of_le hlt3 hb4.size
         rw [hb.cell (p := ⟨w3.heap.size, i, none⟩) hlt4, hb4.cell (p := ⟨w3.heap.size, i, none⟩) hlt3]
         exact cell_of HPK.out i)
       have HX4 := Lib.hid (HEX.out.below hb4)
       replace HBc := Lib.hid (HBc.out.trans (hb4.mono HBc.out.size))
       have HZ := Lib.hid (Below.refl w4.heap.size w4)
       have HA : Hid (Below w4.heap.size w4 (w4.alloc A0)) := Lib.hid ((Below.refl _ _).alloc (Nat.le_refl _) _)
       have HB1 : Hid (Below w4.heap.size w4 (w4.alloc (A1 more))) := Lib.hid ((Below.refl _ _).alloc (Nat.le_refl _) _)
       have HAB : Hid (Below w4.heap.size w4 ((w4.alloc A0).alloc (A1 more))) := Lib.hid (HA.out.alloc (by simp) _)
       have HBA : Hid (Below w4.heap.size w4 ((w4.alloc (A1 more)).alloc A0)) := Lib.hid (HB1.out.alloc (by simp) _)
       unfold A0 A1 at *
       have a0 := HPX.out _ HZ.out 0; have a1 := HPX.out _ HZ.out 1; have a2 := HPX.out _ HZ.out 2
       have b0 := HPX.out _ HA.out 0; have b1 := HPX.out _ HA.out 1; have b2 := HPX.out _ HA.out 2
       have d0 := HPX.out _ HB1.out 0; have d1 := HPX.out _ HB1.out 1; have d2 := HPX.out _ HB1.out 2
       have e0 := HPX.out _ HAB.out 0; have e1 := HPX.out _ HAB.out 1; have e2 := HPX.out _ HAB.out 2
       have f0 := HPX.out _ HBA.out 0; have f1 := HPX.out _ HBA.out 1; have f2 := HPX.out _ HBA.out 2
       clear hb4)
    | (go_simp; go_at_call 12; (with_reducible refine Calls.mono (HH2.out _ _ _ _ _ HBd.out HX8.out HT8.out) ?_); rintro e w9 ⟨rfl, hb9⟩; have HBe := Lib.hid (HBd.out.trans (hb9.mono HBd.out.size)); clear hb9)
    | (go_simp; go_at_call 15; (with_reducible refine Calls.mono (HAW.out _ HBe.out) ?_); rintro e w6 ⟨rfl, hb6⟩; have HBf := Lib.hid (HBe.out.trans (hb6.mono HBe.out.size)); clear hb6))
  all_goals
    go_wp2_with fail
    go_ret
    exact ⟨by first | rfl | simp, HB.out.trans (HBf.out.mono HB.out.size)⟩
end Go.Proofs.YtjgpopjnmonlkaaGreatDoor
