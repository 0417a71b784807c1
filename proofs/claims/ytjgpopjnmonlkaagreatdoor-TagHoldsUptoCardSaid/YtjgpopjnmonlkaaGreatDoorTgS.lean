import Derived.Test.YtjgpopjnmonlkaaGreatDoorTgN
namespace Go.Proofs.YtjgpopjnmonlkaaGreatDoor
open Go.RowKit Go.Shelf
set_option linter.unusedSimpArgs false
set_option linter.unusedVariables false
set_option linter.unusedSectionVars false

/-! Layer 5: the reader: tags. -/
/-- What a part of the reader gives: a constraint and what was not read yet, or what is thrown. -/
def PartP (W : World) (rb d : Nat) (r : Option (Ex × List UInt8)) (e : Ending) (w' : World) : Prop :=
  W.grownBy w' (some rb) ∧ match r with
    | some (x, l) => ∃ vs, e = .returned (.agg vs.toArray) ∧ ExAt w' (fun b => W.heap.size ≤ b) x vs ∧ RdAt w' rb l d
    | none => e = thrown
theorem take_bs (l : List UInt8) (n : Nat) (h : n ≤ l.length) : (bs l).extract 0 n = bs (l.take n) := by
  apply ByteArray.ext
  apply Array.toList_inj.1
  simp [ByteArray.extract, ByteArray.copySlice, bs]
theorem drop_bs (l : List UInt8) (n : Nat) : (bs l).extract n (bs l).size = bs (l.drop n) := by
  rw [bs_size]
  apply ByteArray.ext
  apply Array.toList_inj.1
  simp [ByteArray.extract, ByteArray.copySlice, bs]
  exact List.take_of_length_le (by simp)
/-- Three stores into one block. -/
def put3 (w : World) (b : Nat) (v0 v1 v2 : Value) : World := ((w.setCell ⟨b, 0, none⟩ v0).setCell ⟨b, 1, none⟩ v1).setCell ⟨b, 2, none⟩ v2
theorem put3_at {w : World} {b : Nat} {x y z : Value} {t : TypeId} (h : w.heap[b]? = some (.cells #[x, y, z] t (0, 0))) (v0 v1 v2 : Value) : (put3 w b v0 v1 v2).heap[b]? = some (.cells #[v0, v1, v2] t (0, 0)) ∧ w.grownBy (put3 w b v0 v1 v2) (some b) := by
  have h0 := heap_setCell_same w b 0 _ _ v0 h
  have h1 := heap_setCell_same (w.setCell ⟨b, 0, none⟩ v0) b 1 _ _ v1 h0
  have h2 := heap_setCell_same ((w.setCell ⟨b, 0, none⟩ v0).setCell ⟨b, 1, none⟩ v1) b 2 _ _ v2 h1
  refine ⟨h2, ⟨rfl, rfl, rfl, by unfold put3; simp, fun k _ hk => ?_⟩⟩
  have hkb : k ≠ b := fun e => hk (by simp [e])
  unfold put3
  rw [heap_setCell_other _ ⟨b, 2, none⟩ k _ hkb, heap_setCell_other _ ⟨b, 1, none⟩ k _ hkb, heap_setCell_other _ ⟨b, 0, none⟩ k _ hkb]
theorem grown_new {W w5 w6 : World} {row : Option Nat} {b : Nat} (h : W.grownBy w5 row) (k : w5.grownBy w6 (some b)) (hb : W.heap.size ≤ b) : W.grownBy w6 row :=
  h.andThen k (fun j hj => by cases hj; exact .inl hb)
theorem RdAt.far {w w' : World} {rb d b : Nat} {l : List UInt8} (h : RdAt w rb l d) (k : w.grownBy w' (some b)) (hne : b ≠ rb) : RdAt w' rb l d := by
  unfold RdAt at h ⊢
  rw [k.block rb (lt_of_block h) (fun e => hne (Option.some.inj e).symm)]
  exact h
/-- A block that is none of those that turned. -/
theorem cells_eq {W W' : World} {b : Nat} (h : W'.heap[b]? = W.heap[b]?) (o : Nat) : W'.cell? ⟨b, o, none⟩ = W.cell? ⟨b, o, none⟩ ∧ W'.frozen? ⟨b, o, none⟩ = W.frozen? ⟨b, o, none⟩ := by
  refine ⟨cell_same h o, ?_⟩
  unfold World.frozen?
  simp only [h]
theorem tag_facts {w3 : World} {rb d b2 : Nat} {l : List UInt8} (h : RdAt w3 rb l d) (hz : w3.heap[b2]? = some (.cells #[.string ⟨#[]⟩, .string ⟨#[]⟩, .slice none 0 0] 29 (0, 0))) (hne : b2 ≠ rb) (X R : ByteArray) (l2 : List UInt8) (hR : R = bs l2) :
    ((w3.alloc (.cells #[.string ⟨#[]⟩, .string X, .slice none 0 0] 29)).cell? ⟨rb, 0, none⟩ = some (.string (bs l)) ∧ (w3.alloc (.cells #[.string ⟨#[]⟩, .string X, .slice none 0 0] 29)).frozen? ⟨rb, 0, none⟩ = false) ∧
    (((w3.alloc (.cells #[.string ⟨#[]⟩, .string X, .slice none 0 0] 29)).setCell ⟨rb, 0, none⟩ (.string R)).heap[w3.heap.size]? = some (.cells #[.string ⟨#[]⟩, .string X, .slice none 0 0] 29 (0, 0)) ∧
     ((w3.alloc (.cells #[.string ⟨#[]⟩, .string X, .slice none 0 0] 29)).setCell ⟨rb, 0, none⟩ (.string R)).heap[b2]? = some (.cells #[.string ⟨#[]⟩, .string ⟨#[]⟩, .slice none 0 0] 29 (0, 0)) ∧ RdAt ((w3.alloc (.cells #[.string ⟨#[]⟩, .string X, .slice none 0 0] 29)).setCell ⟨rb, 0, none⟩ (.string R)) rb l2 d ∧ w3.grownBy ((w3.alloc (.cells #[.string ⟨#[]⟩, .string X, .slice none 0 0] 29)).setCell ⟨rb, 0, none⟩ (.string R)) (some rb)) := by
  subst hR
  have hb : Below w3.heap.size w3 (w3.alloc (.cells #[.string ⟨#[]⟩, .string X, .slice none 0 0] 29)) := (Below.refl _ _).alloc (Nat.le_refl _) _
  have h4 := h.below hb
  have h5 := rd_set0 h4 l2
  have hrl := lt_of_block h
  have hzl := lt_of_block hz
  refine ⟨⟨cell_of h4 0, free_of h4 0⟩, ?_, ?_, h5.1, (grow_of hb _).trans h5.2⟩
  · rw [heap_setCell_other _ ⟨rb, 0, none⟩ w3.heap.size _ (by show w3.heap.size ≠ rb; omega)]
    exact heap_alloc_new w3 _
  · rw [heap_setCell_other _ ⟨rb, 0, none⟩ b2 _ hne, hb.block b2 hzl]
    exact hz
set_option maxHeartbeats 1600000 in
theorem tag_v (rb : Nat) (l : List UInt8) (d : Nat) (W : World) (h : RdAt W rb l d) (hl : l.length ≤ 1000000) :
    Calls Tryz.prog 68 #[.pointer (some ⟨rb, 0, none⟩)] W fun e w' => PartP W rb d (tagF l) e w' := by
  have hb1 : Below W.heap.size W (W.alloc (.cells #[.string ⟨#[]⟩, .string ⟨#[]⟩, .slice none 0 0] 29)) := (Below.refl _ _).alloc (Nat.le_refl _) _
  have HS := Lib.hid (skip_v rb l d _ (h.below hb1))
  have hsk : (skipF l).length ≤ l.length := by
    have := (List.dropWhile_suffix (fun b => b == 32 || b == 9) (l := l)).length_le
    exact this
  have HT := Lib.hid (fun w => tagSize_v (bs (skipF l)) w (by rw [bs_size]; omega))
  unfold tagF
  rw [bs_list] at HT
  have htl : tagLen (skipF l) ≤ (skipF l).length := (List.takeWhile_prefix _).length_le
  by_cases h0 : tagLen (skipF l) = 0
  · rw [if_pos h0]
    rw [h0] at HT
    have HNN := Lib.hid need_not
    clear h
    unfold PartP
    go_enter Tryz.func68, Tryz.ntmps68
    go_wp2_with (first
      | (go_at_call 43; (with_reducible refine Calls.mono HS.out ?_); rintro e w2 ⟨rfl, hr2, hg2⟩; have HG2 := Lib.hid hg2; clear hr2 hg2)
      | (go_at_call 29; (with_reducible refine Calls.mono (HT.out _) ?_); rintro e w3 ⟨rfl, hb3⟩; have HB3 := Lib.hid hb3; clear hb3)
      | (go_at_call 42; (with_reducible refine Calls.mono (HNN.out _) ?_); rintro e w4 ⟨rfl, hw4⟩; replace hw4 := hw4.symm; subst hw4; unfold thrown))
    exact ⟨rfl, ((grow_of hb1 _).trans HG2.out).trans (grow_of HB3.out _), rfl⟩
  · rw [if_neg h0]
    have hpos : (0 : Int) < (tagLen (skipF l) : Int) := by omega
    have hX := take_bs (skipF l) (tagLen (skipF l)) htl
    have hR := drop_bs (skipF l) (tagLen (skipF l))
    have hszs : (bs (skipF l)).size = (skipF l).length := bs_size _
    have hle : (tagLen (skipF l) : Int) ≤ ((bs (skipF l)).size : Int) := by rw [hszs]; omega
    have HNN := Lib.hid need_ok
    have hb2 : ∀ w2, (W.alloc (.cells #[.string ⟨#[]⟩, .string ⟨#[]⟩, .slice none 0 0] 29)).grownBy w2 (some rb) → w2.heap[W.heap.size]? = some (.cells #[.string ⟨#[]⟩, .string ⟨#[]⟩, .slice none 0 0] 29 (0, 0)) := fun w2 hg => by
      have hlt := lt_of_block h
      rw [hg.block W.heap.size (by simp) (by simp; omega)]
      exact heap_alloc_new W _
    have HB2 := Lib.hid hb2
    have hlt := lt_of_block h
    clear h hb2
    generalize hXX : bs ((skipF l).take (tagLen (skipF l))) = X at *
    generalize hRR : bs ((skipF l).drop (tagLen (skipF l))) = R at *
    generalize tagLen (skipF l) = n at *
    generalize hss : bs (skipF l) = s at *
    have HSS := Lib.hid hss
    have HXX := Lib.hid hXX
    have HRR := Lib.hid hRR
    have hposn : decide (0 < n) = true := by simp; omega
    clear hss hXX hRR hszs
    unfold PartP
    go_enter Tryz.func68, Tryz.ntmps68
    go_wp2_with (first
      | (go_at_call 43; (with_reducible refine Calls.mono HS.out ?_); rintro e w2 ⟨rfl, hr2, hg2⟩; have HR2 := Lib.hid hr2; have HG2 := Lib.hid hg2; clear hr2 hg2)
      | (go_at_call 29; (with_reducible refine Calls.mono (HT.out _) ?_); rintro e w3 ⟨rfl, hb3⟩; have HB3 := Lib.hid hb3; have HR3 := Lib.hid (HR2.out.below hb3); clear hb3; have c0 : w3.cell? ⟨rb, 0, none⟩ = some (.string s) := (by rw [← HSS.out]; exact cell_of HR3.out 0); have f0 := free_of HR3.out 0
         have hz3 : w3.heap[W.heap.size]? = some (.cells #[.string ⟨#[]⟩, .string ⟨#[]⟩, .slice none 0 0] 29 (0, 0)) := (by rw [HB3.out.block _ (lt_of_block (HB2.out w2 HG2.out))]; exact HB2.out w2 HG2.out)
         have hfa := tag_facts HR3.out hz3 (by omega) X R _ HRR.out.symm
         rw [HSS.out] at hfa
         obtain ⟨⟨d0, g0⟩, hx5, hz5, hr5, hg5⟩ := hfa
         have x0 := cell_of hx5 0; have x1 := cell_of hx5 1; have x2 := cell_of hx5 2; have y0 := cell_of hz5 0; have y1 := cell_of hz5 1; have y2 := cell_of hz5 2; have u0 := free_of hz5 0; have u1 := free_of hz5 1; have u2 := free_of hz5 2
         have HX5 := Lib.hid hx5; have HZ5 := Lib.hid hz5; have HR5 := Lib.hid hr5; have HG5 := Lib.hid hg5; clear hz3 hx5 hz5 hr5 hg5)
      | (go_at_call 42; (with_reducible refine Calls.mono (HNN.out _) ?_); rintro e w4 ⟨rfl, hw4⟩; replace hw4 := hw4.symm; subst hw4))
    obtain ⟨p1, p2⟩ := put3_at HZ5.out (.string ⟨#[]⟩) (.string X) (.slice none 0 0)
    have hgw : W.grownBy _ (some rb) := grown_new (((grow_of hb1 (some rb)).trans HG2.out).trans ((grow_of HB3.out (some rb)).trans HG5.out)) p2 (Nat.le_refl _)
    have hrd := HR5.out.far p2 (by omega)
    have r0 := cell_of p1 0
    have r1 := cell_of p1 1
    have r2 := cell_of p1 2
    unfold put3 at *
    refine bodyPost_ret (v := .agg #[.string ⟨#[]⟩, .string X, .slice none 0 0]) ?_ rfl ⟨hgw, ⟨[.string ⟨#[]⟩, .string X, .slice none 0 0], rfl, ?_, hrd⟩⟩
    · simp [results, Tryz.results68, go_sem, r0, r1, r2]
    · simp only [ExAt]
      exact ⟨none, 0, by rw [← HXX.out]; rfl, .inl (by first | rfl | trivial)⟩
end Go.Proofs.YtjgpopjnmonlkaaGreatDoor
