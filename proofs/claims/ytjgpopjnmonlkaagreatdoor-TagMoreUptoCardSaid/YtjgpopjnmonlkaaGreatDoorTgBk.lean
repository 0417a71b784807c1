import Derived.Test.YtjgpopjnmonlkaaGreatDoorTgBj
namespace Go.Proofs.YtjgpopjnmonlkaaGreatDoor
open Go.RowKit Go.Shelf Go.Deep
set_option linter.unusedSimpArgs false
set_option linter.unusedVariables false
set_option linter.unusedSectionVars false

/-! Layer 5: TagMore's walk. -/
set_option maxHeartbeats 1600000 in
theorem more_big (x : Ex) (vs : List Value) (W : World) (hx : ExAt W (fun _ => True) x vs) (hs : x.size ≤ 1048576) (a : Option Addr) (cap n : Nat) (more : ByteArray) (h : 200 < x.size ∨ 20 < n) :
    Calls Tryz.prog 6 #[.agg vs.toArray, .slice a n cap, .string more] W fun e w' => e = .returned (.bool true) ∧ Below W.heap.size W w' := by
  obtain ⟨op, tag, ka, kn, kc, rfl⟩ := hx.shape
  have hb1 : Below W.heap.size W (W.alloc (.cells #[.string op, .string tag, .slice ka kn kc] 24)) := (Below.refl _ _).alloc (Nat.le_refl _) _
  have hbk := heap_alloc_new W (.cells #[.string op, .string tag, .slice ka kn kc] 24)
  obtain ⟨w1, hw1⟩ : ∃ w1, W.alloc (.cells #[.string op, .string tag, .slice ka kn kc] 24) = w1 := ⟨_, rfl⟩
  rw [hw1] at hb1 hbk
  have hlt1 := lt_of_block hbk
  have HC := Lib.hid (fun (w' : World) (hb : Below w1.heap.size w1 w') => size_v x _ _ w' (by omega) ((hx.below hb1).below hb))
  have HB := Lib.hid hb1
  have HW1 := Lib.hid hw1
  have HBX : Hid (∀ w', Below w1.heap.size w1 w' → ∀ i, w'.cell? ⟨W.heap.size, i, none⟩ = #[Value.string op, .string tag, .slice ka kn kc][i]?) := Lib.hid (fun w' hb i => by
    rw [hb.cell (p := ⟨W.heap.size, i, none⟩) hlt1]
    exact cell_of hbk i)
  have HBc := Lib.hid (Below.refl w1.heap.size w1)
  clear hx hb1 hbk hw1
  generalize x.size = z at *
  by_cases hz : 200 < z
  · have hzi : (200 : Int) < (z : Int) := by omega
    go_enter Tryz.func6, Tryz.ntmps6
    go_wp2_with (first
      | (go_at_call 8; rw [HW1.out]; (with_reducible refine Calls.mono (HC.out _ HBc.out) ?_); rintro e w2 ⟨rfl, hb2⟩; replace HBc := Lib.hid (HBc.out.trans (hb2.mono HBc.out.size)); have c0 := HBX.out _ HBc.out 0; have c1 := HBX.out _ HBc.out 1; have c2 := HBX.out _ HBc.out 2; clear hb2)
      | (go_at_call 8; (with_reducible refine Calls.mono (HC.out _ HBc.out) ?_); rintro e w2 ⟨rfl, hb2⟩; replace HBc := Lib.hid (HBc.out.trans (hb2.mono HBc.out.size)); clear hb2))
    go_ret
    exact ⟨by first | rfl | simp, HB.out.trans (HBc.out.mono HB.out.size)⟩
  · have hn : 20 < n := by omega
    have hni : (20 : Int) < (n : Int) := by omega
    have hzi : ¬ (200 : Int) < (z : Int) := by omega
    clear h
    go_enter Tryz.func6, Tryz.ntmps6
    go_wp2_with (first
      | (go_at_call 8; rw [HW1.out]; (with_reducible refine Calls.mono (HC.out _ HBc.out) ?_); rintro e w2 ⟨rfl, hb2⟩; replace HBc := Lib.hid (HBc.out.trans (hb2.mono HBc.out.size)); have c0 := HBX.out _ HBc.out 0; have c1 := HBX.out _ HBc.out 1; have c2 := HBX.out _ HBc.out 2; clear hb2)
      | (go_at_call 8; (with_reducible refine Calls.mono (HC.out _ HBc.out) ?_); rintro e w2 ⟨rfl, hb2⟩; replace HBc := Lib.hid (HBc.out.trans (hb2.mono HBc.out.size)); clear hb2))
    go_ret
    exact ⟨by first | rfl | simp, HB.out.trans (HBc.out.mono HB.out.size)⟩
set_option maxHeartbeats 1600000 in
theorem more_denies (x : Ex) (vs : List Value) (W : World) (hx : ExAt W (fun _ => True) x vs) (hs : x.size ≤ 200) (a : Option Addr) (cap n : Nat) (more : ByteArray) (hn : n ≤ 20) (hd : deniesF x = true) (hE : EnvV W) :
    Calls Tryz.prog 6 #[.agg vs.toArray, .slice a n cap, .string more] W fun e w' => e = .returned (.bool true) ∧ Below W.heap.size W w' := by
  obtain ⟨op, tag, ka, kn, kc, rfl⟩ := hx.shape
  have h8 := hE.2.2.2
  have hb1 : Below W.heap.size W (W.alloc (.cells #[.string op, .string tag, .slice ka kn kc] 24)) := (Below.refl _ _).alloc (Nat.le_refl _) _
  have hbk := heap_alloc_new W (.cells #[.string op, .string tag, .slice ka kn kc] 24)
  obtain ⟨w1, hw1⟩ : ∃ w1, W.alloc (.cells #[.string op, .string tag, .slice ka kn kc] 24) = w1 := ⟨_, rfl⟩
  rw [hw1] at hb1 hbk
  have hlt1 := lt_of_block hbk
  have hE1 : EnvV w1 := hE.below hb1 h8
  have h81 : 8 ≤ w1.heap.size := hE1.2.2.2
  have HC := Lib.hid (fun (w' : World) (hb : Below w1.heap.size w1 w') => size_v x _ _ w' (by omega) ((hx.below hb1).below hb))
  have hdv := fun (w' : World) (hb : Below w1.heap.size w1 w') => denies_v x _ _ w' (by omega) ((hx.below hb1).below hb)
  rw [hd] at hdv
  have HD := Lib.hid hdv
  have HAW := Lib.hid (fun (w' : World) (hb : Below w1.heap.size w1 w') => awake_v w' (hE1.below hb h81))
  have HB := Lib.hid hb1
  have HW1 := Lib.hid hw1
  have HBX : Hid (∀ w', Below w1.heap.size w1 w' → ∀ i, w'.cell? ⟨W.heap.size, i, none⟩ = #[Value.string op, .string tag, .slice ka kn kc][i]?) := Lib.hid (fun w' hb i => by
    rw [hb.cell (p := ⟨W.heap.size, i, none⟩) hlt1]
    exact cell_of hbk i)
  have HBc := Lib.hid (Below.refl w1.heap.size w1)
  have hzi : ¬ (200 : Int) < (x.size : Int) := by omega
  have hni : ¬ (20 : Int) < (n : Int) := by omega
  clear hx hb1 hbk hw1 hdv hE hE1 hd
  generalize x.size = z at *
  go_enter Tryz.func6, Tryz.ntmps6
  go_wp2_with (first
    | (go_at_call 8; rw [HW1.out]; (with_reducible refine Calls.mono (HC.out _ HBc.out) ?_); rintro e w2 ⟨rfl, hb2⟩; replace HBc := Lib.hid (HBc.out.trans (hb2.mono HBc.out.size)); have c0 := HBX.out _ HBc.out 0; have c1 := HBX.out _ HBc.out 1; have c2 := HBX.out _ HBc.out 2; clear hb2)
    | (go_at_call 21; (with_reducible refine Calls.mono (HD.out _ HBc.out) ?_); rintro e w2 ⟨rfl, hb2⟩; replace HBc := Lib.hid (HBc.out.trans (hb2.mono HBc.out.size)); have c0 := HBX.out _ HBc.out 0; have c1 := HBX.out _ HBc.out 1; have c2 := HBX.out _ HBc.out 2; clear hb2)
    | (go_at_call 8; (with_reducible refine Calls.mono (HC.out _ HBc.out) ?_); rintro e w2 ⟨rfl, hb2⟩; replace HBc := Lib.hid (HBc.out.trans (hb2.mono HBc.out.size)); clear hb2)
    | (go_at_call 15; (with_reducible refine Calls.mono (HAW.out _ HBc.out) ?_); rintro e w2 ⟨rfl, hb2⟩; replace HBc := Lib.hid (HBc.out.trans (hb2.mono HBc.out.size)); clear hb2))
  go_ret
  exact ⟨by first | rfl | simp, HB.out.trans (HBc.out.mono HB.out.size)⟩
theorem HoldsF_more (x : Ex) (tags : List ByteArray) (more : ByteArray) (hd : deniesF x = false) (h : HoldsF x tags = true) : HoldsF x (tags ++ [more]) = true := by
  unfold HoldsF at h ⊢
  rw [Bool.and_eq_true] at h ⊢
  refine ⟨h.1, holds_more (fun t ht => ?_) x hd h.2⟩
  rw [Lib.containsS_iff] at ht ⊢
  exact List.mem_append_left _ ht
set_option maxRecDepth 100000 in
set_option maxHeartbeats 3200000 in
theorem more_no (x : Ex) (vs : List Value) (W : World) (hx : ExAt W (fun _ => True) x vs) (hs : x.size ≤ 200) (hf : x.fits) (a : Option Addr) (cap : Nat) (tags : List ByteArray) (more : ByteArray) (ht : TagsAt W a cap tags) (hl : tags.length ≤ 20) (hd : deniesF x = false) (hE : EnvV W) (hR : HoldsF x tags = false) :
    Calls Tryz.prog 6 #[.agg vs.toArray, .slice a tags.length cap, .string more] W fun e w' => e = .returned (.bool true) ∧ Below W.heap.size W w' := by
  obtain ⟨op, tag, ka, kn, kc, rfl⟩ := hx.shape
  have hok : x.ok := ⟨by omega, hf⟩
  have h8 := hE.2.2.2
  have hb1 : Below W.heap.size W (W.alloc (.cells #[.string op, .string tag, .slice ka kn kc] 24)) := (Below.refl _ _).alloc (Nat.le_refl _) _
  have hbk := heap_alloc_new W (.cells #[.string op, .string tag, .slice ka kn kc] 24)
  obtain ⟨w1, hw1⟩ : ∃ w1, W.alloc (.cells #[.string op, .string tag, .slice ka kn kc] 24) = w1 := ⟨_, rfl⟩
  rw [hw1] at hb1 hbk
  have hlt1 := lt_of_block hbk
  have hE1 : EnvV w1 := hE.below hb1 h8
  have h81 : 8 ≤ w1.heap.size := hE1.2.2.2
  have ht1 := ht.below hb1
  have HC := Lib.hid (fun (w' : World) (hb : Below w1.heap.size w1 w') => size_v x _ _ w' (by omega) ((hx.below hb1).below hb))
  have hdv := fun (w' : World) (hb : Below w1.heap.size w1 w') => denies_v x _ _ w' (by omega) ((hx.below hb1).below hb)
  rw [hd] at hdv
  have HD := Lib.hid hdv
  have HOF := Lib.hid (fun (w' : World) (hb : Below w1.heap.size w1 w') => of_v x _ _ w' (by omega) ((hx.below hb1).below hb))
  have hhv := fun (w' : World) (S : Nat → Prop) (us : List Value) (hb : Below w1.heap.size w1 w') (hu : ExAt w' S x us) => Holds_v x us S w' a cap tags hu hok (ht1.below hb) (by omega) (hE1.below hb h81)
  rw [hR] at hhv
  have HH := Lib.hid hhv
  have HAW := Lib.hid (fun (w' : World) (hb : Below w1.heap.size w1 w') => awake_v w' (hE1.below hb h81))
  have HB := Lib.hid hb1
  have HW1 := Lib.hid hw1
  have HBX : Hid (∀ w', Below w1.heap.size w1 w' → ∀ i, w'.cell? ⟨W.heap.size, i, none⟩ = #[Value.string op, .string tag, .slice ka kn kc][i]?) := Lib.hid (fun w' hb i => by
    rw [hb.cell (p := ⟨W.heap.size, i, none⟩) hlt1]
    exact cell_of hbk i)
  have HBc := Lib.hid (Below.refl w1.heap.size w1)
  have hzi : ¬ (200 : Int) < (x.size : Int) := by omega
  have hni : ¬ (20 : Int) < (tags.length : Int) := by omega
  clear hx hb1 hbk hw1 hdv hE hE1 hd hhv hR ht ht1 hok hf
  generalize x.size = z at *
  generalize tags.length = n at *
  go_enter Tryz.func6, Tryz.ntmps6
  go_wp2_with (first
    | (go_at_call 8; rw [HW1.out]; (with_reducible refine Calls.mono (HC.out _ HBc.out) ?_); rintro e w2 ⟨rfl, hb2⟩; replace HBc := Lib.hid (HBc.out.trans (hb2.mono HBc.out.size)); have c0 := HBX.out _ HBc.out 0; have c1 := HBX.out _ HBc.out 1; have c2 := HBX.out _ HBc.out 2; clear hb2)
    | (go_at_call 21; (with_reducible refine Calls.mono (HD.out _ HBc.out) ?_); rintro e w2 ⟨rfl, hb2⟩; replace HBc := Lib.hid (HBc.out.trans (hb2.mono HBc.out.size)); have c0 := HBX.out _ HBc.out 0; have c1 := HBX.out _ HBc.out 1; have c2 := HBX.out _ HBc.out 2; clear hb2)
    | (go_at_call 9; (with_reducible refine Calls.mono (HOF.out _ HBc.out) ?_); rintro e w3 ⟨us, rfl, hex, hb3⟩; obtain ⟨o3, t3, a3, n3, c3, rfl⟩ := hex.shape; replace HBc := Lib.hid (HBc.out.trans (hb3.mono HBc.out.size)); have hb4 : Below w3.heap.size w3 (w3.alloc (.cells #[.string o3, .string t3, .slice a3 n3 c3] 29)).drew := ((Below.refl _ _).alloc (Nat.le_refl _) _).drew; have HEX := Lib.hid (hex.below hb4); replace HBc := Lib.hid (HBc.out.trans (hb4.mono HBc.out.size)); have hpk : (w3.alloc (.cells #[.string o3, .string t3, .slice a3 n3 c3] 29)).heap[w3.heap.size]? = _ := heap_alloc_new w3 _; have p0 := cell_of hpk 0; have p1 := cell_of hpk 1; have p2 := cell_of hpk 2; clear hb3 hex hb4 hpk))
  refine wp_region_any (by kernel_rfl) ?_
  change wpAny _ _ _ _ _ _ _ (World.drew _)
  refine wpAny_take (i := 1) (v := .slice a n cap) rfl (by kernel_rfl) (by kernel_rfl) (by kernel_rfl) (fun _ _ _ h => h) (Or.inl ⟨by rfl, by intro w; go_simp⟩) ?_
  refine wpAny_ready (rs := [0]) (by kernel_rfl) (by simp) ?_
  refine AllReady.cons rfl (fun K hK => ?_) AllReady.nil
  go_simp
  refine hK _ _ ?_
  clear hK K
  refine wpAny_ready (rs := [2]) (by kernel_rfl) (by simp) ?_
  refine AllReady.cons rfl (fun K hK => ?_) AllReady.nil
  go_simp
  go_at_call 12
  (with_reducible refine Calls.mono (HH.out _ _ _ HBc.out HEX.out) ?_)
  rintro e w4 ⟨rfl, hb4⟩
  replace HBc := Lib.hid (HBc.out.trans (hb4.mono HBc.out.size))
  clear hb4
  (try go_simp)
  refine hK _ _ ?_
  clear hK K
  refine wpAny_take (i := 3) (v := .bool true) rfl (by kernel_rfl) (by kernel_rfl) (by kernel_rfl) (fun _ _ _ h => h) (Or.inl ⟨by rfl, by intro w; go_simp⟩) ?_
  refine wpAny_take (i := 4) (v := .bool true) rfl (by kernel_rfl) (by kernel_rfl) (by kernel_rfl) (fun _ _ _ h => h) (Or.inl ⟨by rfl, by intro w; go_simp⟩) ?_
  refine wpAny_take (i := 5) (v := undef) rfl (by kernel_rfl) (by kernel_rfl) (by kernel_rfl) (fun _ _ _ h => h) (Or.inr ⟨by kernel_rfl, rfl⟩) ?_
  refine wpAny_take (i := 6) (v := undef) rfl (by kernel_rfl) (by kernel_rfl) (by kernel_rfl) (fun _ _ _ h => h) (Or.inr ⟨by kernel_rfl, rfl⟩) ?_
  refine wpAny_take (i := 7) (v := undef) rfl (by kernel_rfl) (by kernel_rfl) (by kernel_rfl) (fun _ _ _ h => h) (Or.inr ⟨by kernel_rfl, rfl⟩) ?_
  refine wpAny_take (i := 8) (v := undef) rfl (by kernel_rfl) (by kernel_rfl) (by kernel_rfl) (fun _ _ _ h => h) (Or.inr ⟨by kernel_rfl, rfl⟩) ?_
  refine wpAny_take (i := 9) (v := undef) rfl (by kernel_rfl) (by kernel_rfl) (by kernel_rfl) (fun _ _ _ h => h) (Or.inr ⟨by kernel_rfl, rfl⟩) ?_
  refine wpAny_take (i := 10) (v := undef) rfl (by kernel_rfl) (by kernel_rfl) (by kernel_rfl) (fun _ _ _ h => h) (Or.inr ⟨by kernel_rfl, rfl⟩) ?_
  refine wpAny_take (i := 11) (v := undef) rfl (by kernel_rfl) (by kernel_rfl) (by kernel_rfl) (fun _ _ _ h => h) (Or.inr ⟨by kernel_rfl, rfl⟩) ?_
  refine wpAny_take (i := 12) (v := undef) rfl (by kernel_rfl) (by kernel_rfl) (by kernel_rfl) (fun _ _ _ h => h) (Or.inr ⟨by kernel_rfl, rfl⟩) ?_
  refine wpAny_take (i := 13) (v := .bool true) rfl (by kernel_rfl) (by kernel_rfl) (by kernel_rfl) (fun _ _ _ h => h) (Or.inl ⟨by rfl, by intro w; go_simp⟩) ?_
  refine wpAny_take (i := 14) (v := .bool true) rfl (by kernel_rfl) (by kernel_rfl) (by kernel_rfl) (fun _ _ _ h => h) (Or.inl ⟨by rfl, by intro w; go_simp⟩) ?_
  refine wpAny_ready (rs := [15]) (by kernel_rfl) (by simp) ?_
  refine AllReady.cons rfl (fun K hK => ?_) AllReady.nil
  go_simp
  go_at_call 15
  (with_reducible refine Calls.mono (HAW.out _ HBc.out) ?_)
  rintro e w6 ⟨rfl, hb6⟩
  replace HBc := Lib.hid (HBc.out.trans (hb6.mono HBc.out.size))
  clear hb6
  (try go_simp)
  refine hK _ _ ?_
  clear hK K
  refine wpAny_take (i := 16) (v := .bool true) rfl (by kernel_rfl) (by kernel_rfl) (by kernel_rfl) (fun _ _ _ h => h) (Or.inl ⟨by rfl, by intro w; go_simp⟩) ?_
  refine wpAny_take (i := 17) (v := .bool true) rfl (by kernel_rfl) (by kernel_rfl) (by kernel_rfl) (fun _ _ _ h => h) (Or.inl ⟨by rfl, by intro w; go_simp⟩) ?_
  refine wpAny_done (by kernel_rfl) ?_ _
  go_wp2_with fail
  go_ret
  exact ⟨by first | rfl | simp, HB.out.trans (HBc.out.mono HB.out.size)⟩
end Go.Proofs.YtjgpopjnmonlkaaGreatDoor
