import Derived.Test.YtjgpopjnmonlkaaGreatDoorTgU
import Derived.Test.YtjgpopjnmonlkaaGreatDoorTgBc
import Derived.Deep.RegionWith
import Derived.Deep.RegionLaw
namespace Go.Proofs.YtjgpopjnmonlkaaGreatDoor
open Go.RowKit Go.Shelf
set_option linter.unusedSimpArgs false
set_option linter.unusedVariables false
set_option linter.unusedSectionVars false

/-! The law's of: a document's constraint as the program's. -/
def OfC (m : Nat) : Prop := ∀ (x : Ex) (vs : List Value) (S : Nat → Prop) (W : World), x.size ≤ m → m ≤ 100000 → ExAt W S x vs →
  Calls Tryz.prog 9 #[.agg vs.toArray] W fun e w' => ∃ us, e = .returned (.agg us.toArray) ∧ ExAt w' (fun b => W.heap.size ≤ b) x us ∧ Below W.heap.size W w'
/-- What stands in a round: the constraint so far in block ob. -/
structure OfSt (ob : Nat) (w3 : World) (op tag : ByteArray) (ks : List Ex) (v : Value) (wr : World) : Prop where
  out : wr.heap[ob]? = some (.cells #[.string op, .string tag, v] 29 (0, 0))
  kids : KidsI (ob + 1) 0 wr v ks
  bl : Below ob w3 wr
  sz : w3.heap.size ≤ wr.heap.size
theorem OfSt.below {ob : Nat} {w3 wr w' : World} {op tag : ByteArray} {ks : List Ex} {v : Value} (h : OfSt ob w3 op tag ks v wr) (hb : Below wr.heap.size wr w') : OfSt ob w3 op tag ks v w' := by
  have hlt := lt_of_block h.out
  refine ⟨(hb.block ob hlt).trans h.out, ?_, h.bl.trans (hb.mono (by omega)), Nat.le_trans h.sz hb.size⟩
  obtain ⟨lvs, h1, h2⟩ := h.kids
  exact ⟨lvs, rowZ_kept h1 hb, h2.keep (Same.of_below hb) (fun _ h _ => h)⟩
/-- One more, and it is stored. -/
theorem OfSt.snoc {ob g cap : Nat} {w3 wr w6 w7 : World} {op tag : ByteArray} {ks : List Ex} {v : Value} {x : Ex} {vs : List Value} {o : Obj} (h : OfSt ob w3 op tag ks v wr) (hb : Below wr.heap.size wr w6) (hx : ExAt w6 (fun b => wr.heap.size ≤ b) x vs)
    (lvs : List (List Value)) (hl : All3 w6 (fun b => ob + 1 ≤ b ∧ v.ownBlock ≠ some b) ks lvs) (hgr : (w6.alloc o).grownBy w7 v.ownBlock)
    (hown : w7.ownsRow (ob + 1) 29 3 (.slice (some ⟨g, 0, none⟩) (ks.length + 1) cap) (ks.length + 1) (flat lvs ++ vs)) (hat : v.ownBlock = some g ∨ g = w6.heap.size + 1) :
    OfSt ob w3 op tag (ks ++ [x]) (.slice (some ⟨g, 0, none⟩) (ks.length + 1) cap) (w7.setCell ⟨ob, 2, none⟩ (.slice (some ⟨g, 0, none⟩) (ks.length + 1) cap)) ∧ w7.heap[ob]? = some (.cells #[.string op, .string tag, v] 29 (0, 0)) := by
  have hlt := lt_of_block h.out
  have h6 := h.below hb
  have hlt6 := lt_of_block h6.out
  have hne : v.ownBlock ≠ some ob := fun e => by
    obtain ⟨l2, h1, _⟩ := h.kids
    have := (h1.lt ob e).1
    omega
  have hf : w7.heap[ob]? = some (.cells #[.string op, .string tag, v] 29 (0, 0)) := by
    rw [hgr.block ob (by simp; omega) (fun e => hne e.symm), Below.heap_alloc _ _ _ hlt6]
    exact h6.out
  have hrv : ∀ k, v.ownBlock = some k → k < wr.heap.size := fun k hk => by
    obtain ⟨l2, h1, _⟩ := h.kids
    exact (h1.lt k hk).2
  have hk7 := KidsI.snoc (rb := 0) h6.kids hx (by omega) hrv hgr lvs hl hown hat
  have hsz := hgr.size
  simp at hsz
  have hgo : (Value.ownBlock (.slice (some ⟨g, 0, none⟩) (ks.length + 1) cap)) ≠ some ob := by
    intro e
    have e2 : g = ob := by simpa [Value.ownBlock] using e
    rcases hat with h1 | h1
    · exact hne (by rw [h1, e2])
    · omega
  refine ⟨⟨heap_setCell hf _, ?_, ?_, ?_⟩, hf⟩
  · obtain ⟨l2, q1, q2⟩ := hk7
    refine ⟨l2, ownsRow_setCell_other q1 hgo _, q2.keep ⟨by simp, fun b hS hb => ?_⟩ (fun _ h _ => h)⟩
    exact heap_setCell_other _ _ _ _ (by show b ≠ ob; omega)
  · have h1 : Below ob w3 (w6.alloc o) := h6.bl.alloc (by omega) o
    have h2 : Below ob w3 w7 := h1.grown hgr (by simp; omega) (fun k hk => by
      obtain ⟨l2, h1, _⟩ := h.kids
      have := (h1.lt k hk).1
      omega)
    exact h2.setCell (Nat.le_refl _) _
  · have := h6.sz
    simp
    omega
set_option maxRecDepth 100000 in
set_option maxHeartbeats 3200000 in
theorem of_succ (m : Nat) (hr : OfC m) : OfC (m + 1) := by
  intro x vs S W hm hm2 hex
  obtain ⟨i0, hi0, hz0, hz1, hz2⟩ := info_parts info24g
  cases x with
  | node op tag kids =>
    obtain ⟨a, cap, rfl, hrow⟩ := hex.row
    have hkl := Ex.sizes_len kids
    simp only [Ex.size] at hm
    obtain ⟨bx, hbx⟩ : ∃ bx, W.heap.size = bx := ⟨_, rfl⟩
    obtain ⟨n, hn⟩ : ∃ n, kids.length = n := ⟨_, rfl⟩
    rw [hn]
    have hb1 : Below W.heap.size W (W.alloc (.cells #[.string op, .string tag, .slice a n cap] 24)) := (Below.refl _ _).alloc (Nat.le_refl _) _
    obtain ⟨w1, hw1⟩ : ∃ w1, W.alloc (.cells #[.string op, .string tag, .slice a n cap] 24) = w1 := ⟨_, rfl⟩
    have hsz1 : w1.heap.size = bx + 1 := by rw [← hbx, ← hw1]; simp
    have hbk : w1.heap[bx]? = some (.cells #[.string op, .string tag, .slice a n cap] 24 (0, 0)) := by rw [← hbx, ← hw1]; exact heap_alloc_new W _
    rw [hw1] at hb1
    have hb2 : Below w1.heap.size w1 (w1.alloc (.cells #[.string ⟨#[]⟩, .string ⟨#[]⟩, .slice none 0 0] 29)) := (Below.refl _ _).alloc (Nat.le_refl _) _
    obtain ⟨w2, hw2⟩ : ∃ w2, w1.alloc (.cells #[.string ⟨#[]⟩, .string ⟨#[]⟩, .slice none 0 0] 29) = w2 := ⟨_, rfl⟩
    have hsz2 : w2.heap.size = bx + 2 := by rw [← hw2]; simp; omega
    have hrs : w2.heap[bx + 1]? = some (.cells #[.string ⟨#[]⟩, .string ⟨#[]⟩, .slice none 0 0] 29 (0, 0)) := by rw [← hsz1, ← hw2]; exact heap_alloc_new w1 _
    rw [hw2] at hb2
    have hb3 : Below w2.heap.size w2 (w2.alloc (.cells #[.string op, .string tag, .slice none 0 0] 29)) := (Below.refl _ _).alloc (Nat.le_refl _) _
    obtain ⟨w3, hw3⟩ : ∃ w3, w2.alloc (.cells #[.string op, .string tag, .slice none 0 0] 29) = w3 := ⟨_, rfl⟩
    have hsz3 : w3.heap.size = bx + 3 := by rw [← hw3]; simp; omega
    have hou : w3.heap[bx + 2]? = some (.cells #[.string op, .string tag, .slice none 0 0] 29 (0, 0)) := by rw [← hsz2, ← hw3]; exact heap_alloc_new w2 _
    rw [hw3] at hb3
    have hbw3 : Below W.heap.size W w3 := (hb1.trans (hb2.mono (by omega))).trans (hb3.mono (by omega))
    have hbk3 : w3.heap[bx]? = some (.cells #[.string op, .string tag, .slice a n cap] 24 (0, 0)) := (hb3.block bx (by omega)).trans ((hb2.block bx (by omega)).trans hbk)
    have hrs3 : w3.heap[bx + 1]? = some (.cells #[.string ⟨#[]⟩, .string ⟨#[]⟩, .slice none 0 0] 29 (0, 0)) := (hb3.block (bx + 1) (by omega)).trans hrs
    have hst : OfSt (bx + 2) w3 op tag [] (.slice none 0 0) w3 := ⟨hou, ⟨[], World.ownsRow_nil _ _ _ _, All3.nil _ _⟩, Below.refl _ _, Nat.le_refl _⟩
    have HN := Lib.hid hn
    have HB := Lib.hid hbw3
    have HBK := Lib.hid hbk3
    have HRS := Lib.hid hrs3
    have HROW := Lib.hid hrow
    have HW1 := Lib.hid hw1
    have HW2 := Lib.hid hw2
    have HW3 := Lib.hid hw3
    have HS3 := Lib.hid hsz3
    have HST := Lib.hid hst
    have HKID := Lib.hid (fun (k : Ex) (hk : k ∈ kids) (us : List Value) (W' : World) (hx : ExAt W' S k us) => hr k us S W' (by have := Ex.sizes_mem kids k hk; omega) (by omega) hx)
    have hnl : n ≤ 100000 := by omega
    have HLT : Hid (W.heap.size = bx) := Lib.hid hbx
    have ha1 : ∀ o, w1.alloc o = w1.alloc o := fun _ => rfl
    clear hb1 hb2 hb3 hsz1 hsz2 hsz3 hbk hrs hou hbw3 hbk3 hrs3 hst hrow hex hr hm hm2 hkl hn hw1 hw2 hw3 hbx ha1
    rw [HLT.out]
    go_enter Tryz.func9, Tryz.ntmps9
    go_wp2_with fail
    go_loopw [4] (fun kv wr => ∃ (k : Nat) (v : Value), kv = .int .i64 k ∧ k ≤ n ∧ OfSt (bx + 2) w3 op tag (kids.take k) v wr) (fun kv _ => n - (intOf kv).toNat)
    case atStart => exact ⟨0, _, rfl, by omega, by rw [HW1.out, HW2.out, HW3.out]; exact HST.out⟩
    case round =>
      obtain ⟨k, v, rfl, hk, hst⟩ := hrel
      have HR := Lib.hid hst
      have hge : bx + 3 ≤ wr.heap.size := by have := hst.sz; have := HS3.out; omega
      have c2 : wr.cell? ⟨W.heap.size, 2, none⟩ = some (.slice a n cap) := by rw [HLT.out]; exact (hst.bl.cell (p := ⟨bx, 2, none⟩) (by show bx < bx + 2; omega)).trans (cell_of HBK.out 2)
      have o0 : wr.cell? ⟨W.heap.size + 1 + 1, 0, none⟩ = some (.string op) := by rw [HLT.out]; exact cell_of hst.out 0
      have o1 : wr.cell? ⟨W.heap.size + 1 + 1, 1, none⟩ = some (.string tag) := by rw [HLT.out]; exact cell_of hst.out 1
      have o2 : wr.cell? ⟨W.heap.size + 1 + 1, 2, none⟩ = some v := by rw [HLT.out]; exact cell_of hst.out 2
      have hres := (hst.bl.block (bx + 1) (by omega)).trans HRS.out
      have HRES := Lib.hid hres
      have hbw : Below W.heap.size W wr := HB.out.trans (hst.bl.mono (by rw [HLT.out]; omega))
      have HBW := Lib.hid hbw
      have hvb : ∀ g, v.ownBlock = some g → g ≠ bx + 2 := fun g hg => by
        obtain ⟨l2, h1, _⟩ := hst.kids
        have := (h1.lt g hg).1
        omega
      have HVB := Lib.hid hvb
      clear hst hres hbw hvb
      by_cases hlt : k < n
      · have hlti : (k : Int) < (n : Int) := by omega
        obtain ⟨x, hx⟩ : ∃ x, kids[k]? = some x := ⟨_, List.getElem?_eq_getElem (by rw [HN.out]; exact hlt)⟩
        rcases HROW.out with h0 | ⟨b, o, rfl, hS, hbb, hcap, hkids⟩
        · exfalso; have := HN.out; rw [h0] at this; simp at this; omega
        · obtain ⟨vs, hvl, hxk, hcl⟩ := KidsAt.get kids o k x hkids hx
          obtain ⟨op2, tag2, a2, n2, cap2, rfl⟩ := hxk.shape
          have k0 := (HBW.out.cell (p := ⟨b, o + k * 3, none⟩) hbb).trans (hcl 0 _ rfl)
          have k1 := (HBW.out.cell (p := ⟨b, o + k * 3 + 1, none⟩) hbb).trans (hcl 1 _ rfl)
          have k2 := (HBW.out.cell (p := ⟨b, o + k * 3 + 2, none⟩) hbb).trans (hcl 2 _ rfl)
          have hkc : k < cap := by have := HN.out; omega
          have hx5 : ExAt wr.drew S x [.string op2, .string tag2, .slice a2 n2 cap2] := ExAt.keep (W := wr) (W' := wr.drew) (S := S) (T := S) ⟨Nat.le_refl _, fun _ _ _ => rfl⟩ (fun _ h _ => h) x _ (hxk.keep (Same.of_below HBW.out) (fun _ h _ => h) x _)
          have HC := Lib.hid (HKID.out x (List.mem_of_getElem? hx) [.string op2, .string tag2, .slice a2 n2 cap2] _ hx5)
          have HX := Lib.hid hx
          have htk : (kids.take k).length = k := by rw [List.length_take]; have := HN.out; omega
          have HTK := Lib.hid htk
          have hvl : v.ownBlock = none ∨ v.ownBlock ≠ none := by cases v.ownBlock <;> simp
          clear hx hkids hxk hcl hx5 htk
          have HNX : Hid (kids.take (k + 1) = kids.take k ++ [x]) := Lib.hid (by rw [List.take_add_one, HX.out]; rfl)
          go_wp2_with fail
          go_region_law (first
            | (go_simp; go_at_call 9; (with_reducible refine Calls.mono HC.out ?_); rintro e w6 ⟨us, rfl, hex6, hb6⟩
               obtain ⟨o6, t6, a6, n6, c6, rfl⟩ := hex6.shape
               have HB6 : Hid (Below wr.heap.size wr w6) := Lib.hid ((⟨rfl, rfl, rfl, Nat.le_refl _, fun _ _ => rfl⟩ : Below wr.heap.size wr wr.drew).trans hb6)
               have HEX6 : Hid (ExAt w6 (fun b => wr.heap.size ≤ b) x [.string o6, .string t6, .slice a6 n6 c6]) := Lib.hid hex6
               have h6 := HR.out.below HB6.out
               have HST6 := Lib.hid h6
               obtain ⟨lvs, hown6, hall6⟩ := h6.kids
               rw [HTK.out] at hown6
               have HO6 := Lib.hid hown6
               have HALL6 := Lib.hid hall6
               have hge6 := HB6.out.size
               have o6c : w6.cell? ⟨W.heap.size + 1 + 1, 2, none⟩ = some v := by rw [HLT.out]; exact cell_of h6.out 2
               have o6d : (w6.alloc (.cells #[.string o6, .string t6, .slice a6 n6 c6] 29)).cell? ⟨W.heap.size + 1 + 1, 2, none⟩ = some v := by rw [HLT.out]; exact cell_of ((Below.heap_alloc _ _ _ (lt_of_block h6.out)).trans h6.out) 2
               clear hex6 hb6 h6 hown6 hall6 o0 o1 o2 c2 k0 k1 k2)
            | ((refine step_append_lies _ (by rfl) _ _ _ (by rfl) (bx + 2 + 1) 29 i0 _ 3 56 Tryz.underlying27 hi0 hz0 hz1 hz2 rfl (by omega) v k (flat lvs) (by rfl) (HO6.out.alloc _)
                  ⟨w6.heap.size, 0, none⟩ 1 1 [.string o6, .string t6, .slice a6 n6 c6] (by rfl) (by rfl) (World.news_of_block (cs := #[.string o6, .string t6, .slice a6 n6 c6]) (t := 29) (fr := (0, 0)) (heap_alloc_new w6 _)) HEX6.out.one
                  (by omega) (by unfold maxLen; omega) (by omega) (by simp; omega) (w6.heap.size + 1) (by simp) ?_; intro gg cap3 w7 hown hgrow hat hlt3
                have hsn := HR.out.snoc HB6.out HEX6.out lvs HALL6.out hgrow (by rw [HTK.out]; exact hown) hat
                rw [HTK.out] at hsn
                have HSN := Lib.hid hsn
                have q2 : w7.cell? ⟨W.heap.size + 1 + 1, 2, none⟩ = some v := by rw [HLT.out]; exact cell_of hsn.2 2
                have q3 : w7.frozen? ⟨W.heap.size + 1 + 1, 2, none⟩ = false := by rw [HLT.out]; exact free_of hsn.2 2
                clear hown hgrow hat hsn o6c o6d)))
          all_goals
            go_wp2_with fail
            go_roundw
            case rel =>
              refine ⟨k + 1, .slice (some ⟨gg, 0, none⟩) (k + 1) cap3, by go_num, by omega, ?_⟩
              rw [HNX.out, HLT.out]
              exact HSN.out.1
            case measure => simp [intOf]; omega
      · have hke : k = n := by omega
        have hlti : ¬ (k : Int) < (n : Int) := by omega
        have r0 := cell_of HRES.out 0
        have r1 := cell_of HRES.out 1
        have r2 := cell_of HRES.out 2
        have f0 := free_of HRES.out 0
        have f1 := free_of HRES.out 1
        have f2 := free_of HRES.out 2
        have HF : Hid (kids.take k = kids) := Lib.hid (by rw [hke, ← HN.out, List.take_length])
        rw [← HLT.out] at r0 r1 r2 f0 f1 f2
        obtain ⟨va, vn, vc, rfl⟩ : ∃ va vn vc, v = .slice va vn vc := by
          obtain ⟨l2, h1, _⟩ := HR.out.kids
          rcases h1.2 with ⟨rfl, _⟩ | ⟨g, cap, cur, rfl, _⟩
          · exact ⟨_, _, _, rfl⟩
          · exact ⟨_, _, _, rfl⟩
        have hex := HR.out.kids.more op tag
        rw [HF.out] at hex
        have hrs := HRES.out
        rw [← HLT.out] at hrs
        obtain ⟨p1, p2⟩ := put3_at hrs (.string op) (.string tag) (.slice va vn vc)
        have HP1 := Lib.hid p1
        have HEX : Hid (ExAt (put3 wr (W.heap.size + 1) (.string op) (.string tag) (.slice va vn vc)) (fun b => W.heap.size ≤ b) (.node op tag kids) [.string op, .string tag, .slice va vn vc]) := Lib.hid
          (hex.keep ⟨p2.size, fun b hb hlt => p2.block b hlt (fun e => by have := Option.some.inj e; have := HLT.out; omega)⟩ (fun b hb _ => by have := HLT.out; omega) _ _)
        have HBF : Hid (Below W.heap.size W (put3 wr (W.heap.size + 1) (.string op) (.string tag) (.slice va vn vc))) := Lib.hid (by
          unfold put3
          exact ((HBW.out.setCell (p := ⟨W.heap.size + 1, 0, none⟩) (by show W.heap.size ≤ W.heap.size + 1; omega) _).setCell (p := ⟨W.heap.size + 1, 1, none⟩) (by show W.heap.size ≤ W.heap.size + 1; omega) _).setCell (p := ⟨W.heap.size + 1, 2, none⟩) (by show W.heap.size ≤ W.heap.size + 1; omega) _)
        clear hex hrs p1 p2
        unfold put3 at *
        go_wp2_with fail
        have z0 := cell_of HP1.out 0
        have z1 := cell_of HP1.out 1
        have z2 := cell_of HP1.out 2
        refine bodyPost_ret (v := .agg #[.string op, .string tag, .slice va vn vc]) ?_ rfl ⟨[.string op, .string tag, .slice va vn vc], rfl, HEX.out.keep ⟨Nat.le_refl _, fun _ _ _ => rfl⟩ (fun b hb _ => by have := HLT.out; omega) _ _, HBF.out.mono (by have := HLT.out; omega)⟩
        simp [results, Tryz.results9, go_sem, z0, z1, z2]
theorem of_any : ∀ m : Nat, OfC m
  | 0 => fun x vs S W hm _ _ => by have := x.size_pos; omega
  | m + 1 => of_succ m (of_any m)
theorem of_v (x : Ex) (vs : List Value) (S : Nat → Prop) (W : World) (h : x.size ≤ 100000) (hex : ExAt W S x vs) :
    Calls Tryz.prog 9 #[.agg vs.toArray] W fun e w' => ∃ us, e = .returned (.agg us.toArray) ∧ ExAt w' (fun b => W.heap.size ≤ b) x us ∧ Below W.heap.size W w' :=
  of_any x.size x vs S W (Nat.le_refl _) h hex
end Go.Proofs.YtjgpopjnmonlkaaGreatDoor
