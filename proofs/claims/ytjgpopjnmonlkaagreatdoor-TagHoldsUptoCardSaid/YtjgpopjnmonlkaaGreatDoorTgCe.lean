import Derived.Test.YtjgpopjnmonlkaaGreatDoorTgCd
namespace Go.Proofs.YtjgpopjnmonlkaaGreatDoor
open Go.RowKit Go.Shelf
set_option linter.unusedSimpArgs false
set_option linter.unusedVariables false
set_option linter.unusedSectionVars false

/-! Layer 5: the document's Least (MADE BY wip/gen_refleast5.py). -/
theorem foldl_snoc (g : Int → Int → Int) (l : List Int) (z : Int) (h : l ≠ []) : (l ++ [z]).foldl g ((l ++ [z]).headD 0) = g (l.foldl g (l.headD 0)) z := by
  cases l with
  | nil => exact absurd rfl h
  | cons a l => simp
theorem max_take (f : Ex → Int) (kids : List Ex) (k : Nat) (x : Ex) (h : kids[k]? = some x) (hk : 0 < k) : Lib.maxOf ((kids.take (k + 1)).map f) = max (Lib.maxOf ((kids.take k).map f)) (f x) := by
  unfold Lib.maxOf
  rw [List.take_add_one, h, List.map_append]
  refine foldl_snoc max _ _ ?_
  have := (List.getElem?_eq_some_iff.mp h).1
  intro e
  have e2 := congrArg List.length e
  simp only [List.length_map, List.length_take, List.length_nil] at e2
  omega
theorem min_take (f : Ex → Int) (kids : List Ex) (k : Nat) (x : Ex) (h : kids[k]? = some x) (hk : 0 < k) : Lib.minOf ((kids.take (k + 1)).map f) = min (Lib.minOf ((kids.take k).map f)) (f x) := by
  unfold Lib.minOf
  rw [List.take_add_one, h, List.map_append]
  refine foldl_snoc min _ _ ?_
  have := (List.getElem?_eq_some_iff.mp h).1
  intro e
  have e2 := congrArg List.length e
  simp only [List.length_map, List.length_take, List.length_nil] at e2
  omega
theorem max_one (f : Ex → Int) (kids : List Ex) (x : Ex) (h : kids[0]? = some x) : Lib.maxOf ((kids.take 1).map f) = f x := by
  cases kids with
  | nil => simp at h
  | cons y l =>
    obtain rfl : y = x := by simpa using h
    simp [Lib.maxOf]
theorem min_one (f : Ex → Int) (kids : List Ex) (x : Ex) (h : kids[0]? = some x) : Lib.minOf ((kids.take 1).map f) = f x := by
  cases kids with
  | nil => simp at h
  | cons y l =>
    obtain rfl : y = x := by simpa using h
    simp [Lib.minOf]
def RefLeastC (m : Nat) : Prop := ∀ (x : Ex) (vs : List Value) (S : Nat → Prop) (W : World), x.size ≤ m → m ≤ 2000000 → ExAt W S x vs → x.ok → x.rt →
  Calls Tryz.prog 17 #[.agg vs.toArray] W fun e w' => e = .returned (.int .i64 (leastF relF x)) ∧ Below W.heap.size W w'
set_option maxRecDepth 100000 in
set_option maxHeartbeats 3200000 in
theorem refLeast_succ (m : Nat) (hr : RefLeastC m) : RefLeastC (m + 1) := by
  intro x vs S W hm hm2 hex hok hrt
  cases x with
  | node op tag kids =>
    obtain ⟨a, cap, rfl, hrow⟩ := hex.row
    obtain ⟨hkl, hol, htgl⟩ := hok.len
    obtain ⟨bx, hbx⟩ : ∃ bx, W.heap.size = bx := ⟨_, rfl⟩
    obtain ⟨n, hn⟩ : ∃ n, kids.length = n := ⟨_, rfl⟩
    have hb1 : Below W.heap.size W (W.alloc (.cells #[.string op, .string tag, .slice a kids.length cap] 24)) := (Below.refl _ _).alloc (Nat.le_refl _) _
    have hsz1 : (W.alloc (.cells #[.string op, .string tag, .slice a kids.length cap] 24)).heap.size = bx + 1 := by rw [← hbx]; simp
    have hbk : (W.alloc (.cells #[.string op, .string tag, .slice a kids.length cap] 24)).heap[bx]? = some (.cells #[.string op, .string tag, .slice a kids.length cap] 24 (0, 0)) := by rw [← hbx]; exact heap_alloc_new W _
    have hrow1 := hrow.below hb1
    rw [hn] at hb1 hsz1 hbk hrow1 hkl ⊢
    obtain ⟨w1, hw1⟩ : ∃ w1, W.alloc (.cells #[.string op, .string tag, .slice a n cap] 24) = w1 := ⟨_, rfl⟩
    rw [hw1] at hb1 hsz1 hbk hrow1
    have hkrt := hrt.kids
    have HN := Lib.hid hn
    have HB := Lib.hid hb1
    have HROW := Lib.hid hrow1
    have HW1 := Lib.hid hw1
    have HS1 := Lib.hid hsz1
    have hk0 := fun (k : Ex) (hk : k ∈ kids) (us : List Value) (W' : World) (hx : ExAt W' S k us) => hr k us S W' (by have := (hok.kid hk).2; omega) (by omega) hx (hok.kid hk).1 (hkrt k hk)
    have HKID := Lib.hid hk0
    have HVER := Lib.hid (fun (w : World) => refVersion_v tag w htgl)
    have HCASE := Lib.hid hrt.cases
    have HLT : Hid (W.heap.size = bx) := Lib.hid hbx
    have HBX : Hid (∀ w', Below (bx + 1) w1 w' → ∀ i, w'.cell? ⟨W.heap.size, i, none⟩ = #[Value.string op, .string tag, .slice a n cap][i]?) := Lib.hid (fun w' hb i => by
      rw [hbx, hb.cell (p := ⟨bx, i, none⟩) (by show bx < bx + 1; omega)]
      exact cell_of hbk i)
    have HB0 : Hid (Below bx W w1) := Lib.hid (by rw [← hbx]; exact hb1)
    obtain ⟨o0a, o0b⟩ := eqs op nilB [] opL0
    obtain ⟨o1a, o1b⟩ := eqs op opNot [33] opL1
    obtain ⟨o2a, o2b⟩ := eqs op opAnd [38, 38] opL2
    obtain ⟨o3a, o3b⟩ := eqs op opOr [124, 124] opL3
    have o0c := empB op
    have c0 := HBX.out _ (Below.refl _ _) 0
    have c1 := HBX.out _ (Below.refl _ _) 1
    have c2 := HBX.out _ (Below.refl _ _) 2
    rw [← HW1.out] at c0 c1 c2
    clear hb1 hsz1 hbk hrow1 hrow hex hr hm hm2 hw1 hbx hn hok hrt hol htgl hkrt hk0
    rw [HLT.out]
    rcases HCASE.out with ⟨h0, hkk⟩ | ⟨h1, kk, hkk, _⟩ | ⟨h2, h22, _⟩ | ⟨h3, h32, _⟩
    · have hoo : op = nilB := h0
      have HR : Hid (leastF relF (.node op tag kids) = relF tag) := Lib.hid (by rw [h0]; exact leastF_nil relF tag kids)
      rw [decide_eq_true hoo] at o0a o0b o0c
      clear h0 hkk hoo
      generalize leastF relF (.node op tag kids) = R at *
      generalize relF tag = r at *
      go_enter Tryz.func17, Tryz.ntmps17
      go_wp2_with (go_at_call 27; (with_reducible refine Calls.mono (HVER.out _) ?_); rintro e w2 ⟨rfl, hw2⟩; replace hw2 := hw2.symm; subst hw2)
      go_ret
      exact ⟨by rw [HR.out]; first | rfl | simp, by rw [HW1.out]; exact HB0.out⟩
    · have hoo : op = opNot := h1
      have g0 : op ≠ nilB := by rw [hoo]; decide
      have HR : Hid (leastF relF (.node op tag kids) = -1) := Lib.hid (by rw [h1]; exact leastF_not relF tag kids)
      rw [decide_eq_false g0] at o0a o0b o0c
      rw [decide_eq_true hoo] at o1a o1b
      clear h1 hkk hoo g0
      generalize leastF relF (.node op tag kids) = R at *
      go_enter Tryz.func17, Tryz.ntmps17
      go_wp2_with fail
      go_ret
      exact ⟨by rw [HR.out]; first | rfl | simp, by rw [HW1.out]; exact HB0.out⟩
    · have hoo : op = opAnd := h2
      have g0 : op ≠ nilB := by rw [hoo]; decide
      have g1 : op ≠ opNot := by rw [hoo]; decide
      have g2 : op ≠ opOr := by rw [hoo]; decide
      rw [decide_eq_false g0] at o0a o0b o0c
      rw [decide_eq_false g1] at o1a o1b
      rw [decide_eq_true hoo] at o2a o2b
      rw [decide_eq_false g2] at o3a o3b
      have HR : Hid (leastF relF (.node op tag kids) = Lib.maxOf (kids.map (leastF relF))) := Lib.hid (by rw [h2]; exact leastF_and relF tag kids)
      have HSTP := Lib.hid (fun k x h h0 => max_take (leastF relF) kids k x h h0)
      have HONE := Lib.hid (fun x h => max_one (leastF relF) kids x h)
      have HALL : Hid (Lib.maxOf ((kids.take n).map (leastF relF)) = Lib.maxOf (kids.map (leastF relF))) := Lib.hid (by rw [← HN.out, List.take_length])
      have hn2 : 2 ≤ n := by have := HN.out; omega
      clear h2 hoo g0 g1 g2 HVER h22
      generalize leastF relF (.node op tag kids) = R at *
      rcases HROW.out with h0 | ⟨b, o, rfl, hS, hbb, hcap, hkids⟩
      · exfalso; have := HN.out; rw [h0] at this; (simp at this) <;> omega
      have hbb1 : b < bx + 1 := by have := HS1.out; omega
      have hcn : n ≤ cap := by have := HN.out; omega
      have HKK := Lib.hid hkids
      obtain ⟨x0, hx0⟩ : ∃ x, kids[0]? = some x := ⟨_, List.getElem?_eq_getElem (by rw [HN.out]; omega)⟩
      obtain ⟨vs, hvl, hxk, hcl⟩ := KidsAt.get kids o 0 x0 hkids hx0
      obtain ⟨op2, tag2, a2, n2, cap2, rfl⟩ := hxk.shape
      have k0 : w1.cell? ⟨b, o, none⟩ = some (.string op2) := by simpa using hcl 0 _ rfl
      have k1 : w1.cell? ⟨b, o + 1, none⟩ = some (.string tag2) := by simpa using hcl 1 _ rfl
      have k2 : w1.cell? ⟨b, o + 2, none⟩ = some (.slice a2 n2 cap2) := by simpa using hcl 2 _ rfl
      rw [← HW1.out] at k0 k1 k2
      have HC0 := Lib.hid (HKID.out x0 (List.mem_of_getElem? hx0) [.string op2, .string tag2, .slice a2 n2 cap2] _ hxk)
      have HZ1 := Lib.hid (HONE.out x0 hx0)
      clear hkids hcl hxk hvl hx0
      generalize leastF relF x0 = z0 at *
      go_enter Tryz.func17, Tryz.ntmps17
      go_wp2_with (go_at_call 17; rw [HW1.out]; (with_reducible refine Calls.mono HC0.out ?_); rintro e w5 ⟨rfl, hb5⟩; have hb5' := hb5.mono (B' := bx + 1) (by have := HS1.out; omega); have HB5 := Lib.hid hb5'; have c0' := HBX.out _ hb5' 0; have c2' := HBX.out _ hb5' 2; clear hb5 hb5')
      clear k0 k1 k2
      go_loopw [3, 4] (fun zv kv wr => ∃ (k : Nat) (z : Int), kv = .int .i64 k ∧ zv = .int .i64 z ∧ 1 ≤ k ∧ k ≤ n ∧ z = Lib.maxOf ((kids.take k).map (leastF relF)) ∧ Below (bx + 1) w1 wr) (fun _ kv _ => n - (intOf kv).toNat)
      case atStart => exact ⟨1, z0, rfl, rfl, Nat.le_refl _, by omega, HZ1.out.symm, HB5.out⟩
      case round =>
        clear c0 c1 c2
        obtain ⟨k, z, rfl, rfl, hk1, hk, hs, hbl⟩ := hrel
        have HSS := Lib.hid hs
        have HBL := Lib.hid hbl
        have hge : bx + 1 ≤ wr.heap.size := by have := hbl.size; have := HS1.out; omega
        have c0 := HBX.out _ hbl 0
        have c2 := HBX.out _ hbl 2
        clear hs hbl
        have HBF : Hid (∀ w', Below wr.heap.size wr w' → Below bx W w') := Lib.hid (fun w' hb => (HB0.out.trans (HBL.out.mono (by omega))).trans (hb.mono (by omega)))
        by_cases hlt : k < n
        · have hlti : (k : Int) < (n : Int) := by omega
          obtain ⟨x, hx⟩ : ∃ x, kids[k]? = some x := ⟨_, List.getElem?_eq_getElem (by rw [HN.out]; exact hlt)⟩
          obtain ⟨vs, hvl, hxk, hcl⟩ := KidsAt.get kids o k x HKK.out hx
          obtain ⟨op2, tag2, a2, n2, cap2, rfl⟩ := hxk.shape
          have k0 := (HBL.out.cell (p := ⟨b, o + k * 3, none⟩) hbb1).trans (hcl 0 _ rfl)
          have k1 := (HBL.out.cell (p := ⟨b, o + k * 3 + 1, none⟩) hbb1).trans (hcl 1 _ rfl)
          have k2 := (HBL.out.cell (p := ⟨b, o + k * 3 + 2, none⟩) hbb1).trans (hcl 2 _ rfl)
          have hkc : k < cap := by omega
          have hbw : Below w1.heap.size w1 wr := (by have := HBL.out; rw [← HS1.out] at this; exact this)
          have hx5 : ExAt wr S x [.string op2, .string tag2, .slice a2 n2 cap2] := hxk.keep (Same.of_below hbw) (fun _ h _ => h) x _
          have HC := Lib.hid (HKID.out x (List.mem_of_getElem? hx) [.string op2, .string tag2, .slice a2 n2 cap2] _ hx5)
          have HNX := Lib.hid (HSTP.out k x hx (by omega))
          have HBXR : Hid (∀ w', Below wr.heap.size wr w' → ∀ i, w'.cell? ⟨W.heap.size, i, none⟩ = #[Value.string op, .string tag, .slice (some ⟨b, o, none⟩) n cap][i]?) := Lib.hid (fun w' hb i => HBX.out w' (HBL.out.trans (hb.mono hge)) i)
          clear hx hxk hcl hx5 hvl hbw
          generalize leastF relF x = y at *
          by_cases hc : z < y
          · have hcb : decide (z < y) = true := decide_eq_true hc
            have HV : Hid (y = Lib.maxOf ((kids.take (k + 1)).map (leastF relF))) := Lib.hid (by rw [HNX.out, ← HSS.out]; omega)
            go_wp2_with (go_at_call 17; with_reducible refine Calls.mono HC.out ?_; rintro e w6 ⟨rfl, hb6⟩; have HB6 := Lib.hid (HBL.out.trans (hb6.mono hge)); have d0 := HBXR.out _ hb6 0; have d2 := HBXR.out _ hb6 2; clear hb6)
            go_roundw
            case rel => exact ⟨k + 1, y, by go_num, rfl, by omega, by omega, HV.out, HB6.out⟩
            case measure => simp [intOf] <;> omega
          · have hcb : decide (z < y) = false := decide_eq_false hc
            have HV : Hid (z = Lib.maxOf ((kids.take (k + 1)).map (leastF relF))) := Lib.hid (by rw [HNX.out, ← HSS.out]; omega)
            go_wp2_with (go_at_call 17; with_reducible refine Calls.mono HC.out ?_; rintro e w6 ⟨rfl, hb6⟩; have HB6 := Lib.hid (HBL.out.trans (hb6.mono hge)); have d0 := HBXR.out _ hb6 0; have d2 := HBXR.out _ hb6 2; clear hb6)
            go_roundw
            case rel => exact ⟨k + 1, z, by go_num, rfl, by omega, by omega, HV.out, HB6.out⟩
            case measure => simp [intOf] <;> omega
        · have hke : k = n := by omega
          have hlti : ¬ (k : Int) < (n : Int) := by omega
          have HF : Hid (R = z) := Lib.hid (by rw [HR.out, ← HALL.out, ← hke]; exact HSS.out.symm)
          have HZ := Lib.hid (HBF.out _ (Below.refl _ _))
          go_wp2_with fail
          go_ret
          exact ⟨by rw [HF.out]; first | rfl | simp, HZ.out⟩
    · have hoo : op = opOr := h3
      have g0 : op ≠ nilB := by rw [hoo]; decide
      have g1 : op ≠ opNot := by rw [hoo]; decide
      have g2 : op ≠ opAnd := by rw [hoo]; decide
      rw [decide_eq_false g0] at o0a o0b o0c
      rw [decide_eq_false g1] at o1a o1b
      rw [decide_eq_true hoo] at o3a o3b
      rw [decide_eq_false g2] at o2a o2b
      have HR : Hid (leastF relF (.node op tag kids) = Lib.minOf (kids.map (leastF relF))) := Lib.hid (by rw [h3]; exact leastF_or relF tag kids)
      have HSTP := Lib.hid (fun k x h h0 => min_take (leastF relF) kids k x h h0)
      have HONE := Lib.hid (fun x h => min_one (leastF relF) kids x h)
      have HALL : Hid (Lib.minOf ((kids.take n).map (leastF relF)) = Lib.minOf (kids.map (leastF relF))) := Lib.hid (by rw [← HN.out, List.take_length])
      have hn2 : 2 ≤ n := by have := HN.out; omega
      clear h3 hoo g0 g1 g2 HVER h32
      generalize leastF relF (.node op tag kids) = R at *
      rcases HROW.out with h0 | ⟨b, o, rfl, hS, hbb, hcap, hkids⟩
      · exfalso; have := HN.out; rw [h0] at this; (simp at this) <;> omega
      have hbb1 : b < bx + 1 := by have := HS1.out; omega
      have hcn : n ≤ cap := by have := HN.out; omega
      have HKK := Lib.hid hkids
      obtain ⟨x0, hx0⟩ : ∃ x, kids[0]? = some x := ⟨_, List.getElem?_eq_getElem (by rw [HN.out]; omega)⟩
      obtain ⟨vs, hvl, hxk, hcl⟩ := KidsAt.get kids o 0 x0 hkids hx0
      obtain ⟨op2, tag2, a2, n2, cap2, rfl⟩ := hxk.shape
      have k0 : w1.cell? ⟨b, o, none⟩ = some (.string op2) := by simpa using hcl 0 _ rfl
      have k1 : w1.cell? ⟨b, o + 1, none⟩ = some (.string tag2) := by simpa using hcl 1 _ rfl
      have k2 : w1.cell? ⟨b, o + 2, none⟩ = some (.slice a2 n2 cap2) := by simpa using hcl 2 _ rfl
      rw [← HW1.out] at k0 k1 k2
      have HC0 := Lib.hid (HKID.out x0 (List.mem_of_getElem? hx0) [.string op2, .string tag2, .slice a2 n2 cap2] _ hxk)
      have HZ1 := Lib.hid (HONE.out x0 hx0)
      clear hkids hcl hxk hvl hx0
      generalize leastF relF x0 = z0 at *
      go_enter Tryz.func17, Tryz.ntmps17
      go_wp2_with (go_at_call 17; rw [HW1.out]; (with_reducible refine Calls.mono HC0.out ?_); rintro e w5 ⟨rfl, hb5⟩; have hb5' := hb5.mono (B' := bx + 1) (by have := HS1.out; omega); have HB5 := Lib.hid hb5'; have c0' := HBX.out _ hb5' 0; have c2' := HBX.out _ hb5' 2; clear hb5 hb5')
      clear k0 k1 k2
      go_loopw [3, 4] (fun zv kv wr => ∃ (k : Nat) (z : Int), kv = .int .i64 k ∧ zv = .int .i64 z ∧ 1 ≤ k ∧ k ≤ n ∧ z = Lib.minOf ((kids.take k).map (leastF relF)) ∧ Below (bx + 1) w1 wr) (fun _ kv _ => n - (intOf kv).toNat)
      case atStart => exact ⟨1, z0, rfl, rfl, Nat.le_refl _, by omega, HZ1.out.symm, HB5.out⟩
      case round =>
        clear c0 c1 c2
        obtain ⟨k, z, rfl, rfl, hk1, hk, hs, hbl⟩ := hrel
        have HSS := Lib.hid hs
        have HBL := Lib.hid hbl
        have hge : bx + 1 ≤ wr.heap.size := by have := hbl.size; have := HS1.out; omega
        have c0 := HBX.out _ hbl 0
        have c2 := HBX.out _ hbl 2
        clear hs hbl
        have HBF : Hid (∀ w', Below wr.heap.size wr w' → Below bx W w') := Lib.hid (fun w' hb => (HB0.out.trans (HBL.out.mono (by omega))).trans (hb.mono (by omega)))
        by_cases hlt : k < n
        · have hlti : (k : Int) < (n : Int) := by omega
          obtain ⟨x, hx⟩ : ∃ x, kids[k]? = some x := ⟨_, List.getElem?_eq_getElem (by rw [HN.out]; exact hlt)⟩
          obtain ⟨vs, hvl, hxk, hcl⟩ := KidsAt.get kids o k x HKK.out hx
          obtain ⟨op2, tag2, a2, n2, cap2, rfl⟩ := hxk.shape
          have k0 := (HBL.out.cell (p := ⟨b, o + k * 3, none⟩) hbb1).trans (hcl 0 _ rfl)
          have k1 := (HBL.out.cell (p := ⟨b, o + k * 3 + 1, none⟩) hbb1).trans (hcl 1 _ rfl)
          have k2 := (HBL.out.cell (p := ⟨b, o + k * 3 + 2, none⟩) hbb1).trans (hcl 2 _ rfl)
          have hkc : k < cap := by omega
          have hbw : Below w1.heap.size w1 wr := (by have := HBL.out; rw [← HS1.out] at this; exact this)
          have hx5 : ExAt wr S x [.string op2, .string tag2, .slice a2 n2 cap2] := hxk.keep (Same.of_below hbw) (fun _ h _ => h) x _
          have HC := Lib.hid (HKID.out x (List.mem_of_getElem? hx) [.string op2, .string tag2, .slice a2 n2 cap2] _ hx5)
          have HNX := Lib.hid (HSTP.out k x hx (by omega))
          have HBXR : Hid (∀ w', Below wr.heap.size wr w' → ∀ i, w'.cell? ⟨W.heap.size, i, none⟩ = #[Value.string op, .string tag, .slice (some ⟨b, o, none⟩) n cap][i]?) := Lib.hid (fun w' hb i => HBX.out w' (HBL.out.trans (hb.mono hge)) i)
          clear hx hxk hcl hx5 hvl hbw
          generalize leastF relF x = y at *
          by_cases hc : y < z
          · have hcb : decide (y < z) = true := decide_eq_true hc
            have HV : Hid (y = Lib.minOf ((kids.take (k + 1)).map (leastF relF))) := Lib.hid (by rw [HNX.out, ← HSS.out]; omega)
            go_wp2_with (go_at_call 17; with_reducible refine Calls.mono HC.out ?_; rintro e w6 ⟨rfl, hb6⟩; have HB6 := Lib.hid (HBL.out.trans (hb6.mono hge)); have d0 := HBXR.out _ hb6 0; have d2 := HBXR.out _ hb6 2; clear hb6)
            go_roundw
            case rel => exact ⟨k + 1, y, by go_num, rfl, by omega, by omega, HV.out, HB6.out⟩
            case measure => simp [intOf] <;> omega
          · have hcb : decide (y < z) = false := decide_eq_false hc
            have HV : Hid (z = Lib.minOf ((kids.take (k + 1)).map (leastF relF))) := Lib.hid (by rw [HNX.out, ← HSS.out]; omega)
            go_wp2_with (go_at_call 17; with_reducible refine Calls.mono HC.out ?_; rintro e w6 ⟨rfl, hb6⟩; have HB6 := Lib.hid (HBL.out.trans (hb6.mono hge)); have d0 := HBXR.out _ hb6 0; have d2 := HBXR.out _ hb6 2; clear hb6)
            go_roundw
            case rel => exact ⟨k + 1, z, by go_num, rfl, by omega, by omega, HV.out, HB6.out⟩
            case measure => simp [intOf] <;> omega
        · have hke : k = n := by omega
          have hlti : ¬ (k : Int) < (n : Int) := by omega
          have HF : Hid (R = z) := Lib.hid (by rw [HR.out, ← HALL.out, ← hke]; exact HSS.out.symm)
          have HZ := Lib.hid (HBF.out _ (Below.refl _ _))
          go_wp2_with fail
          go_ret
          exact ⟨by rw [HF.out]; first | rfl | simp, HZ.out⟩
theorem refLeast_any : ∀ m : Nat, RefLeastC m
  | 0 => fun x vs S W hm _ _ _ _ => by have := x.size_pos; omega
  | m + 1 => refLeast_succ m (refLeast_any m)
end Go.Proofs.YtjgpopjnmonlkaaGreatDoor
