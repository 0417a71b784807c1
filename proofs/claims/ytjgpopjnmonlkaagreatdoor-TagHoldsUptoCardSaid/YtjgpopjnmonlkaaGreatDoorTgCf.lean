import Derived.Test.YtjgpopjnmonlkaaGreatDoorTgCe
namespace Go.Proofs.YtjgpopjnmonlkaaGreatDoor
open Go.RowKit Go.Shelf
set_option linter.unusedSimpArgs false
set_option linter.unusedVariables false
set_option linter.unusedSectionVars false

/-! Layer 5: the document's Write (MADE BY wip/gen_refwrite5.py). -/
def brW (within op : ByteArray) : Bool := (decide (op = opAnd) || decide (op = opOr)) && (decide (within = opNot) || decide (within = op) || decide (within = opAnd))
theorem brW_brF (op kop : ByteArray) (h : op = opNot ∨ op = opAnd ∨ op = opOr) : brW op kop = brF op kop := by
  unfold brW brF
  by_cases h1 : kop = opAnd
  · subst h1
    rcases h with rfl | rfl | rfl <;> decide
  · by_cases h2 : kop = opOr
    · subst h2
      rcases h with rfl | rfl | rfl <;> decide
    · simp [h1, h2]
theorem brW_nil (op : ByteArray) : brW nilB op = false := by
  unfold brW
  by_cases h1 : op = opAnd
  · subst h1; decide
  · by_cases h2 : op = opOr
    · subst h2; decide
    · simp [h1, h2]
theorem joinB_one (p sep : ByteArray) : joinB [p] sep = p := by
  unfold joinB
  rw [List.map_cons, List.map_nil, Lib.join_cons]
  simp [Lib.joinTail]
theorem joinB_snoc (l : List ByteArray) (p sep : ByteArray) (h : l ≠ []) : joinB (l ++ [p]) sep = joinB l sep ++ (sep ++ p) := by
  apply ByteArray.ext
  apply Array.toList_inj.1
  have ha : ∀ a b : ByteArray, (a ++ b).data.toList = a.data.toList ++ b.data.toList := fun a b => by rw [ByteArray.data_append, Array.toList_append]
  rw [ha, ha]
  show Lib.join ((l ++ [p]).map _) sep.data.toList = Lib.join (l.map _) sep.data.toList ++ _
  cases l with
  | nil => exact absurd rfl h
  | cons x l =>
    simp [Lib.join_cons, Lib.joinTail]
theorem parts_take (op : ByteArray) (kids : List Ex) (k : Nat) (x : Ex) (h : kids[k]? = some x) (hk : 0 < k) : joinB (partsX op (kids.take (k + 1))) (sepB op) = joinB (partsX op (kids.take k)) (sepB op) ++ (sepB op ++ withB (brF op x.op) (textX x)) := by
  rw [partsX_map, partsX_map, List.take_add_one, h, List.map_append]
  refine joinB_snoc _ _ _ ?_
  have := (List.getElem?_eq_some_iff.mp h).1
  intro e
  have e2 := congrArg List.length e
  simp only [List.length_map, List.length_take, List.length_nil] at e2
  omega
theorem parts_one (op : ByteArray) (kids : List Ex) (x : Ex) (h : kids[0]? = some x) : joinB (partsX op (kids.take 1)) (sepB op) = withB (brF op x.op) (textX x) := by
  cases kids with
  | nil => simp at h
  | cons y l =>
    obtain rfl : y = x := by simpa using h
    rw [partsX_map]
    exact joinB_one _ _
def RefWriteC (m : Nat) : Prop := ∀ (x : Ex) (vs : List Value) (S : Nat → Prop) (W : World) (within : ByteArray), x.size ≤ m → m ≤ 2000000 → within.size ≤ 2 → ExAt W S x vs → x.ok → x.rt →
  Calls Tryz.prog 18 #[.agg vs.toArray, .string within] W fun e w' => e = .returned (.string (withB (brW within x.op) (textX x))) ∧ Below W.heap.size W w'
set_option maxRecDepth 100000 in
set_option maxHeartbeats 3200000 in
theorem refWrite_succ (m : Nat) (hr : RefWriteC m) : RefWriteC (m + 1) := by
  intro x vs S W within hm hm2 hwi hex hok hrt
  cases x with
  | node op tag kids =>
    obtain ⟨a, cap, rfl, hrow⟩ := hex.row
    obtain ⟨hkl, hol, htgl⟩ := hok.len
    obtain ⟨bx, hbx⟩ : ∃ bx, W.heap.size = bx := ⟨_, rfl⟩
    obtain ⟨n, hn⟩ : ∃ n, kids.length = n := ⟨_, rfl⟩
    have hb1 : Below W.heap.size W (W.alloc (.cells #[.string op, .string tag, .slice a kids.length cap] 24)) := (Below.refl _ _).alloc (Nat.le_refl _) _
    have hsz1 : (W.alloc (.cells #[.string op, .string tag, .slice a kids.length cap] 24)).heap.size = bx + 1 := by rw [← hbx]; simp
    have hbk : (W.alloc (.cells #[.string op, .string tag, .slice a kids.length cap] 24)).heap[bx]? = some (.cells #[.string op, .string tag, .slice a kids.length cap] 24 (0, 0)) := by rw [← hbx]; exact heap_alloc_new W _
    have hrow1 := hrow.below hb1
    rw [hn] at hb1 hsz1 hbk hrow1 hkl ⊢
    obtain ⟨w1, hw1⟩ : ∃ w1, W.alloc (.cells #[.string op, .string tag, .slice a n cap] 24) = w1 := ⟨_, rfl⟩
    rw [hw1] at hb1 hsz1 hbk hrow1
    have hkrt := hrt.kids
    have HN := Lib.hid hn
    have HB := Lib.hid hb1
    have HROW := Lib.hid hrow1
    have HW1 := Lib.hid hw1
    have HS1 := Lib.hid hsz1
    have hsizes : ∀ k ∈ kids, (textX k).size ≤ 200001000000 := fun k hk => by
      have h1 := text_size k (hok.kid hk).1 (hkrt k hk)
      have h2 := (hok.kid hk).1.1
      have := Nat.mul_le_mul_left 2000010 h2
      omega
    have HSZ := Lib.hid hsizes
    have hk0 := fun (k : Ex) (hk : k ∈ kids) (us : List Value) (W' : World) (hx : ExAt W' S k us) (wi : ByteArray) (hwi : wi.size ≤ 2) => hr k us S W' wi (by have := (hok.kid hk).2; omega) (by omega) hwi hx (hok.kid hk).1 (hkrt k hk)
    have HKR := Lib.hid hkrt
    have HKID := Lib.hid hk0
    have HCASE := Lib.hid hrt.cases
    have HLT : Hid (W.heap.size = bx) := Lib.hid hbx
    have HBX : Hid (∀ w', Below (bx + 1) w1 w' → ∀ i, w'.cell? ⟨W.heap.size, i, none⟩ = #[Value.string op, .string tag, .slice a n cap][i]?) := Lib.hid (fun w' hb i => by
      rw [hbx, hb.cell (p := ⟨bx, i, none⟩) (by show bx < bx + 1; omega)]
      exact cell_of hbk i)
    have HB0 : Hid (Below bx W w1) := Lib.hid (by rw [← hbx]; exact hb1)
    obtain ⟨o0a, o0b⟩ := eqs op nilB [] opL0
    obtain ⟨o1a, o1b⟩ := eqs op opNot [33] opL1
    obtain ⟨o2a, o2b⟩ := eqs op opAnd [38, 38] opL2
    obtain ⟨o3a, o3b⟩ := eqs op opOr [124, 124] opL3
    have o0c := empB op
    have c0 := HBX.out _ (Below.refl _ _) 0
    have c1 := HBX.out _ (Below.refl _ _) 1
    have c2 := HBX.out _ (Below.refl _ _) 2
    rw [← HW1.out] at c0 c1 c2
    clear hb1 hsz1 hbk hrow1 hrow hex hr hm hm2 hw1 hbx hn hok hrt hol htgl hkrt hk0 hsizes
    rw [HLT.out]
    rcases HCASE.out with ⟨h0, hkk⟩ | ⟨h1, kk, hkk, _⟩ | ⟨h2, h22, _⟩ | ⟨h3, h32, _⟩
    · have hoo : op = nilB := h0
      have HR : Hid (withB (brW within (Ex.node op tag kids).op) (textX (.node op tag kids)) = tag) := Lib.hid (by
        have e1 : brW within (Ex.node op tag kids).op = false := by
          show brW within op = false
          rw [hoo]; unfold brW; rw [show (decide (nilB = opAnd) || decide (nilB = opOr)) = false by decide, Bool.false_and]
        rw [e1, h0]
        exact textX_nil tag kids)
      rw [decide_eq_true hoo] at o0a o0b o0c
      clear h0 hkk hoo
      generalize withB (brW within (Ex.node op tag kids).op) (textX (.node op tag kids)) = R at *
      go_enter Tryz.func18, Tryz.ntmps18
      go_wp2_with fail
      go_ret
      exact ⟨by rw [HR.out]; first | rfl | simp, by rw [HW1.out]; exact HB0.out⟩
    · have hoo : op = opNot := h1
      have g0 : op ≠ nilB := by rw [hoo]; decide
      rw [decide_eq_false g0] at o0a o0b o0c
      rw [decide_eq_true hoo] at o1a o1b
      subst hkk
      have HR : Hid (withB (brW within (Ex.node op tag [kk]).op) (textX (.node op tag [kk])) = (⟨#[33]⟩ : ByteArray) ++ withB (brF opNot kk.op) (textX kk)) := Lib.hid (by
        have e1 : brW within (Ex.node op tag [kk]).op = false := by
          show brW within op = false
          rw [hoo]; unfold brW; rw [show (decide (opNot = opAnd) || decide (opNot = opOr)) = false by decide, Bool.false_and]
        rw [e1, h1]
        exact textX_not tag kk)
      rcases HROW.out with h0 | ⟨b, o, rfl, hS, hbb, hcap, hkids⟩
      · cases h0
      · obtain ⟨vs, hvl, hxk, hcl⟩ := KidsAt.get [kk] o 0 kk hkids rfl
        obtain ⟨op2, tag2, a2, n2, cap2, rfl⟩ := hxk.shape
        have k0 : w1.cell? ⟨b, o, none⟩ = some (.string op2) := by simpa using hcl 0 _ rfl
        have k1 : w1.cell? ⟨b, o + 1, none⟩ = some (.string tag2) := by simpa using hcl 1 _ rfl
        have k2 : w1.cell? ⟨b, o + 2, none⟩ = some (.slice a2 n2 cap2) := by simpa using hcl 2 _ rfl
        have hn1 : n = 1 := by rw [← HN.out]; rfl
        subst hn1
        have hcap1 : 1 ≤ cap := hcap
        have hc := HKID.out kk (by simp) [.string op2, .string tag2, .slice a2 n2 cap2] _ hxk ⟨#[33]⟩ (by decide)
        rw [show brW (⟨#[33]⟩ : ByteArray) kk.op = brF opNot kk.op from brW_brF opNot kk.op (.inl rfl)] at hc
        have HC := Lib.hid hc
        have hps : (withB (brF opNot kk.op) (textX kk)).size ≤ 200001000002 := by
          have h1 := withB_size (brF opNot kk.op) (textX kk)
          have h2 := HSZ.out kk (by simp)
          omega
        have HBZ : Hid (∀ w', Below w1.heap.size w1 w' → Below bx W w') := Lib.hid (fun w' hb => HB0.out.trans (hb.mono (by have := HS1.out; omega)))
        rw [← HW1.out] at k0 k1 k2
        clear h1 hoo g0 hkids hcl hxk hvl hcap hc
        generalize withB (brF opNot kk.op) (textX kk) = P at *
        generalize withB (brW within (Ex.node op tag [kk]).op) (textX (.node op tag [kk])) = R at *
        have q1 : ¬ 9223372036854775807 < 1 + P.size := by omega
        go_enter Tryz.func18, Tryz.ntmps18
        go_wp2_with (go_at_call 18; rw [HW1.out]; (with_reducible refine Calls.mono HC.out ?_); rintro e w6 ⟨rfl, hb6⟩; have HB6 := Lib.hid (HBZ.out _ hb6); clear hb6)
        go_ret
        exact ⟨by rw [HR.out]; first | rfl | simp, HB6.out⟩
    · have hoo : op = opAnd := h2
      have g0 : op ≠ nilB := by rw [hoo]; decide
      have g1 : op ≠ opNot := by rw [hoo]; decide
      rw [decide_eq_false g0] at o0a o0b o0c
      rw [decide_eq_false g1] at o1a o1b
      have hos : op.size = 2 := by rw [hoo]; rfl
      have HR : Hid (withB (brW within (Ex.node op tag kids).op) (textX (.node op tag kids)) = withB (brW within op) (joinB (partsX op kids) (sepB op))) := Lib.hid (by
        show withB (brW within op) (textX (.node op tag kids)) = _
        rw [textX, if_neg g0, if_neg g1])
      have HBR : Hid (brW within op = (decide (within = opNot) || decide (within = op) || decide (within = opAnd))) := Lib.hid (by
        unfold brW
        rw [hoo]
        rw [show (decide (opAnd = opAnd) || decide (opAnd = opOr)) = true by decide, Bool.true_and])
      have HSTP := Lib.hid (fun k x h h0 => parts_take op kids k x h h0)
      have HONE := Lib.hid (fun x h => parts_one op kids x h)
      have HALL : Hid (joinB (partsX op (kids.take n)) (sepB op) = joinB (partsX op kids) (sepB op)) := Lib.hid (by rw [← HN.out, List.take_length])
      have HBK : Hid (∀ kop, brW op kop = brF op kop) := Lib.hid (fun kop => brW_brF op kop (.inr (.inl hoo)))
      have hn2 : 2 ≤ n := by have := HN.out; omega
      have hn0 : 0 < n := by omega
      have hn0i : (0 : Int) < (n : Int) := by omega
      have w1e := (eqs within opNot [33] opL1).1
      have w2e := eq_list within op
      have w3e := (eqs within opAnd [38, 38] opL2).1
      clear h2 hoo g0 g1 h22 o2a o2b o3a o3b
      generalize withB (brW within (Ex.node op tag kids).op) (textX (.node op tag kids)) = R at *
      rcases HROW.out with h0 | ⟨b, o, rfl, hS, hbb, hcap, hkids⟩
      · exfalso; have := HN.out; rw [h0] at this; (simp at this) <;> omega
      have hbb1 : b < bx + 1 := by have := HS1.out; omega
      have hcn : n ≤ cap := by have := HN.out; omega
      have HKK := Lib.hid hkids
      obtain ⟨x0, hx0⟩ : ∃ x, kids[0]? = some x := ⟨_, List.getElem?_eq_getElem (by rw [HN.out]; omega)⟩
      obtain ⟨vs, hvl, hxk, hcl⟩ := KidsAt.get kids o 0 x0 hkids hx0
      obtain ⟨op2, tag2, a2, n2, cap2, rfl⟩ := hxk.shape
      have k0 : w1.cell? ⟨b, o, none⟩ = some (.string op2) := by simpa using hcl 0 _ rfl
      have k1 : w1.cell? ⟨b, o + 1, none⟩ = some (.string tag2) := by simpa using hcl 1 _ rfl
      have k2 : w1.cell? ⟨b, o + 2, none⟩ = some (.slice a2 n2 cap2) := by simpa using hcl 2 _ rfl
      have HBD1 : Hid (Below w1.heap.size w1 w1.drew) := Lib.hid ⟨rfl, rfl, rfl, Nat.le_refl _, fun _ _ => rfl⟩
      have hx1 : ExAt w1.drew S x0 [.string op2, .string tag2, .slice a2 n2 cap2] := hxk.keep (Same.of_below HBD1.out) (fun _ h _ => h) x0 _
      have hc := HKID.out x0 (List.mem_of_getElem? hx0) [.string op2, .string tag2, .slice a2 n2 cap2] _ hx1 op (by omega)
      rw [HBK.out] at hc
      have HC0 := Lib.hid hc
      have HZ1 := Lib.hid (HONE.out x0 hx0)
      have hps0 : (withB (brF op x0.op) (textX x0)).size ≤ 200001000002 := by
        have h1 := withB_size (brF op x0.op) (textX x0)
        have h2 := HSZ.out x0 (List.mem_of_getElem? hx0)
        omega
      rw [← HW1.out] at k0 k1 k2
      clear hkids hcl hxk hvl hx0 hx1 hc
      generalize withB (brF op x0.op) (textX x0) = P0 at *
      go_enter Tryz.func18, Tryz.ntmps18
      go_wp2_with fail
      go_region_law (go_simp; go_at_call 18; rw [HW1.out]; (with_reducible refine Calls.mono HC0.out ?_); rintro e w5 ⟨rfl, hb5⟩; have hb5' := (HBD1.out.trans hb5).mono (B' := bx + 1) (by have := HS1.out; omega); have HB5 := Lib.hid hb5'; have c0' := HBX.out _ hb5' 0; have c1' := HBX.out _ hb5' 1; have c2' := HBX.out _ hb5' 2; clear hb5 hb5')
      all_goals
        clear k0 k1 k2
        go_wp2_with fail
        go_loopw [5, 6] (fun sv kv wr => ∃ (k : Nat) (s : ByteArray), kv = .int .i64 k ∧ sv = .string s ∧ 1 ≤ k ∧ k ≤ n ∧ s.size ≤ k * 300000000000 ∧ s = joinB (partsX op (kids.take k)) (sepB op) ∧ Below (bx + 1) w1 wr) (fun _ kv _ => n - (intOf kv).toNat)
        case atStart => exact ⟨1, P0, rfl, rfl, Nat.le_refl _, by omega, by omega, HZ1.out.symm, HB5.out⟩
        case round =>
          clear c0 c1 c2
          obtain ⟨k, s, rfl, rfl, hk1, hk, hss, hs, hbl⟩ := hrel
          have HSS := Lib.hid hs
          have HBL := Lib.hid hbl
          have hge : bx + 1 ≤ wr.heap.size := by have := hbl.size; have := HS1.out; omega
          have c0 := HBX.out _ hbl 0
          have c2 := HBX.out _ hbl 2
          clear hs hbl
          have HBF : Hid (∀ w', Below wr.heap.size wr w' → Below bx W w') := Lib.hid (fun w' hb => (HB0.out.trans (HBL.out.mono (by omega))).trans (hb.mono (by omega)))
          by_cases hlt : k < n
          · have hlti : (k : Int) < (n : Int) := by omega
            obtain ⟨x, hx⟩ : ∃ x, kids[k]? = some x := ⟨_, List.getElem?_eq_getElem (by rw [HN.out]; exact hlt)⟩
            obtain ⟨vs, hvl, hxk, hcl⟩ := KidsAt.get kids o k x HKK.out hx
            obtain ⟨op2, tag2, a2, n2, cap2, rfl⟩ := hxk.shape
            have k0 := (HBL.out.cell (p := ⟨b, o + k * 3, none⟩) hbb1).trans (hcl 0 _ rfl)
            have k1 := (HBL.out.cell (p := ⟨b, o + k * 3 + 1, none⟩) hbb1).trans (hcl 1 _ rfl)
            have k2 := (HBL.out.cell (p := ⟨b, o + k * 3 + 2, none⟩) hbb1).trans (hcl 2 _ rfl)
            have hkc : k < cap := by omega
            have hbw : Below w1.heap.size w1 wr.drew := (by have := HBL.out; rw [← HS1.out] at this; exact this.drew)
            have hx5 : ExAt wr.drew S x [.string op2, .string tag2, .slice a2 n2 cap2] := hxk.keep (Same.of_below hbw) (fun _ h _ => h) x _
            have hc := HKID.out x (List.mem_of_getElem? hx) [.string op2, .string tag2, .slice a2 n2 cap2] _ hx5 op (by omega)
            rw [HBK.out] at hc
            have HC := Lib.hid hc
            have HNX := Lib.hid (HSTP.out k x hx (by omega))
            have HBD : Hid (Below wr.heap.size wr wr.drew) := Lib.hid ⟨rfl, rfl, rfl, Nat.le_refl _, fun _ _ => rfl⟩
            have HBXR : Hid (∀ w', Below wr.heap.size wr w' → ∀ i, w'.cell? ⟨W.heap.size, i, none⟩ = #[Value.string op, .string tag, .slice (some ⟨b, o, none⟩) n cap][i]?) := Lib.hid (fun w' hb i => HBX.out w' (HBL.out.trans (hb.mono hge)) i)
            have hps : (withB (brF op x.op) (textX x)).size ≤ 200001000002 := by
              have h1 := withB_size (brF op x.op) (textX x)
              have h2 := HSZ.out x (List.mem_of_getElem? hx)
              omega
            clear hx hxk hcl hx5 hvl hbw hc
            generalize withB (brF op x.op) (textX x) = P at *
            have s1 : ((⟨#[32]⟩ : ByteArray) ++ op).size = 1 + op.size := by rw [size_app]; rfl
            have s2 : (((⟨#[32]⟩ : ByteArray) ++ op) ++ ⟨#[32]⟩).size = op.size + 2 := by rw [size_app, s1]; show 1 + op.size + 1 = _; omega
            have s3 : ((((⟨#[32]⟩ : ByteArray) ++ op) ++ ⟨#[32]⟩) ++ P).size = op.size + 2 + P.size := by rw [size_app, s2]
            have s4 : (s ++ ((((⟨#[32]⟩ : ByteArray) ++ op) ++ ⟨#[32]⟩) ++ P)).size ≤ (k + 1) * 300000000000 := by rw [size_app, s3]; omega
            have f1 : ¬ 9223372036854775807 < 1 + op.size := by omega
            have f2 : ¬ 9223372036854775807 < ((⟨#[32]⟩ : ByteArray) ++ op).size + 1 := by omega
            have f3 : ¬ 9223372036854775807 < (((⟨#[32]⟩ : ByteArray) ++ op) ++ ⟨#[32]⟩).size + P.size := by omega
            have f4 : ¬ 9223372036854775807 < s.size + ((((⟨#[32]⟩ : ByteArray) ++ op) ++ ⟨#[32]⟩) ++ P).size := by omega
            have f5 : ¬ 9223372036854775807 < 4 + P.size := by omega
            have f6 : ¬ 9223372036854775807 < s.size + (4 + P.size) := by omega
            have HS4 := Lib.hid s4
            have HV : Hid (s ++ ((((⟨#[32]⟩ : ByteArray) ++ op) ++ ⟨#[32]⟩) ++ P) = joinB (partsX op (kids.take (k + 1))) (sepB op)) := Lib.hid (by rw [HNX.out, ← HSS.out]; rfl)
            clear s1 s2 s3 s4
            go_wp2_with fail
            go_region_law (go_simp; go_at_call 18; (with_reducible refine Calls.mono HC.out ?_); rintro e w6 ⟨rfl, hb6⟩; have hb7 := HBD.out.trans hb6; have HB6 := Lib.hid (HBL.out.trans (hb7.mono hge)); have d0 := HBXR.out _ hb7 0; have d2 := HBXR.out _ hb7 2; clear hb6 hb7)
            all_goals
              go_wp2_with fail
              go_roundw
              case rel => exact ⟨k + 1, _, by go_num, rfl, by omega, by omega, HS4.out, HV.out, HB6.out⟩
              case measure => simp [intOf] <;> omega
          · have hke : k = n := by omega
            have hlti : ¬ (k : Int) < (n : Int) := by omega
            have HJ : Hid (joinB (partsX op kids) (sepB op) = s) := Lib.hid (by rw [← HALL.out, ← hke]; exact HSS.out.symm)
            have HZ := Lib.hid (HBF.out _ (Below.refl _ _))
            have hsb : s.size ≤ 30000000000000000 := by omega
            have s1 : ((⟨#[40]⟩ : ByteArray) ++ s).size = 1 + s.size := by rw [size_app]; rfl
            have f1 : ¬ 9223372036854775807 < 1 + s.size := by omega
            have f2 : ¬ 9223372036854775807 < ((⟨#[40]⟩ : ByteArray) ++ s).size + 1 := by omega
            clear s1
            by_cases q1 : within = opNot
            · rw [decide_eq_true q1] at w1e HBR
              have HF : Hid (R = (⟨#[40]⟩ : ByteArray) ++ s ++ ⟨#[41]⟩) := Lib.hid (by rw [HR.out, HBR.out, HJ.out]; rfl)
              clear q1
              go_wp2_with fail
              go_ret
              exact ⟨by rw [HF.out]; first | rfl | simp, HZ.out⟩
            · rw [decide_eq_false q1] at w1e HBR
              clear q1
              by_cases q2 : within = op
              · rw [decide_eq_true q2] at w2e HBR
                have HF : Hid (R = (⟨#[40]⟩ : ByteArray) ++ s ++ ⟨#[41]⟩) := Lib.hid (by rw [HR.out, HBR.out, HJ.out]; rfl)
                clear q2
                go_wp2_with fail
                go_ret
                exact ⟨by rw [HF.out]; first | rfl | simp, HZ.out⟩
              · rw [decide_eq_false q2] at w2e HBR
                clear q2
                by_cases q3 : within = opAnd
                · rw [decide_eq_true q3] at w3e HBR
                  have HF : Hid (R = (⟨#[40]⟩ : ByteArray) ++ s ++ ⟨#[41]⟩) := Lib.hid (by rw [HR.out, HBR.out, HJ.out]; rfl)
                  clear q3
                  go_wp2_with fail
                  go_ret
                  exact ⟨by rw [HF.out]; first | rfl | simp, HZ.out⟩
                · rw [decide_eq_false q3] at w3e HBR
                  have HF : Hid (R = s) := Lib.hid (by rw [HR.out, HBR.out, HJ.out]; rfl)
                  clear q3
                  go_wp2_with fail
                  go_ret
                  exact ⟨by rw [HF.out]; first | rfl | simp, HZ.out⟩
    · have hoo : op = opOr := h3
      have g0 : op ≠ nilB := by rw [hoo]; decide
      have g1 : op ≠ opNot := by rw [hoo]; decide
      rw [decide_eq_false g0] at o0a o0b o0c
      rw [decide_eq_false g1] at o1a o1b
      have hos : op.size = 2 := by rw [hoo]; rfl
      have HR : Hid (withB (brW within (Ex.node op tag kids).op) (textX (.node op tag kids)) = withB (brW within op) (joinB (partsX op kids) (sepB op))) := Lib.hid (by
        show withB (brW within op) (textX (.node op tag kids)) = _
        rw [textX, if_neg g0, if_neg g1])
      have HBR : Hid (brW within op = (decide (within = opNot) || decide (within = op) || decide (within = opAnd))) := Lib.hid (by
        unfold brW
        rw [hoo]
        rw [show (decide (opOr = opAnd) || decide (opOr = opOr)) = true by decide, Bool.true_and])
      have HSTP := Lib.hid (fun k x h h0 => parts_take op kids k x h h0)
      have HONE := Lib.hid (fun x h => parts_one op kids x h)
      have HALL : Hid (joinB (partsX op (kids.take n)) (sepB op) = joinB (partsX op kids) (sepB op)) := Lib.hid (by rw [← HN.out, List.take_length])
      have HBK : Hid (∀ kop, brW op kop = brF op kop) := Lib.hid (fun kop => brW_brF op kop (.inr (.inr hoo)))
      have hn2 : 2 ≤ n := by have := HN.out; omega
      have hn0 : 0 < n := by omega
      have hn0i : (0 : Int) < (n : Int) := by omega
      have w1e := (eqs within opNot [33] opL1).1
      have w2e := eq_list within op
      have w3e := (eqs within opAnd [38, 38] opL2).1
      clear h3 hoo g0 g1 h32 o2a o2b o3a o3b
      generalize withB (brW within (Ex.node op tag kids).op) (textX (.node op tag kids)) = R at *
      rcases HROW.out with h0 | ⟨b, o, rfl, hS, hbb, hcap, hkids⟩
      · exfalso; have := HN.out; rw [h0] at this; (simp at this) <;> omega
      have hbb1 : b < bx + 1 := by have := HS1.out; omega
      have hcn : n ≤ cap := by have := HN.out; omega
      have HKK := Lib.hid hkids
      obtain ⟨x0, hx0⟩ : ∃ x, kids[0]? = some x := ⟨_, List.getElem?_eq_getElem (by rw [HN.out]; omega)⟩
      obtain ⟨vs, hvl, hxk, hcl⟩ := KidsAt.get kids o 0 x0 hkids hx0
      obtain ⟨op2, tag2, a2, n2, cap2, rfl⟩ := hxk.shape
      have k0 : w1.cell? ⟨b, o, none⟩ = some (.string op2) := by simpa using hcl 0 _ rfl
      have k1 : w1.cell? ⟨b, o + 1, none⟩ = some (.string tag2) := by simpa using hcl 1 _ rfl
      have k2 : w1.cell? ⟨b, o + 2, none⟩ = some (.slice a2 n2 cap2) := by simpa using hcl 2 _ rfl
      have HBD1 : Hid (Below w1.heap.size w1 w1.drew) := Lib.hid ⟨rfl, rfl, rfl, Nat.le_refl _, fun _ _ => rfl⟩
      have hx1 : ExAt w1.drew S x0 [.string op2, .string tag2, .slice a2 n2 cap2] := hxk.keep (Same.of_below HBD1.out) (fun _ h _ => h) x0 _
      have hc := HKID.out x0 (List.mem_of_getElem? hx0) [.string op2, .string tag2, .slice a2 n2 cap2] _ hx1 op (by omega)
      rw [HBK.out] at hc
      have HC0 := Lib.hid hc
      have HZ1 := Lib.hid (HONE.out x0 hx0)
      have hps0 : (withB (brF op x0.op) (textX x0)).size ≤ 200001000002 := by
        have h1 := withB_size (brF op x0.op) (textX x0)
        have h2 := HSZ.out x0 (List.mem_of_getElem? hx0)
        omega
      rw [← HW1.out] at k0 k1 k2
      clear hkids hcl hxk hvl hx0 hx1 hc
      generalize withB (brF op x0.op) (textX x0) = P0 at *
      go_enter Tryz.func18, Tryz.ntmps18
      go_wp2_with fail
      go_region_law (go_simp; go_at_call 18; rw [HW1.out]; (with_reducible refine Calls.mono HC0.out ?_); rintro e w5 ⟨rfl, hb5⟩; have hb5' := (HBD1.out.trans hb5).mono (B' := bx + 1) (by have := HS1.out; omega); have HB5 := Lib.hid hb5'; have c0' := HBX.out _ hb5' 0; have c1' := HBX.out _ hb5' 1; have c2' := HBX.out _ hb5' 2; clear hb5 hb5')
      all_goals
        clear k0 k1 k2
        go_wp2_with fail
        go_loopw [5, 6] (fun sv kv wr => ∃ (k : Nat) (s : ByteArray), kv = .int .i64 k ∧ sv = .string s ∧ 1 ≤ k ∧ k ≤ n ∧ s.size ≤ k * 300000000000 ∧ s = joinB (partsX op (kids.take k)) (sepB op) ∧ Below (bx + 1) w1 wr) (fun _ kv _ => n - (intOf kv).toNat)
        case atStart => exact ⟨1, P0, rfl, rfl, Nat.le_refl _, by omega, by omega, HZ1.out.symm, HB5.out⟩
        case round =>
          clear c0 c1 c2
          obtain ⟨k, s, rfl, rfl, hk1, hk, hss, hs, hbl⟩ := hrel
          have HSS := Lib.hid hs
          have HBL := Lib.hid hbl
          have hge : bx + 1 ≤ wr.heap.size := by have := hbl.size; have := HS1.out; omega
          have c0 := HBX.out _ hbl 0
          have c2 := HBX.out _ hbl 2
          clear hs hbl
          have HBF : Hid (∀ w', Below wr.heap.size wr w' → Below bx W w') := Lib.hid (fun w' hb => (HB0.out.trans (HBL.out.mono (by omega))).trans (hb.mono (by omega)))
          by_cases hlt : k < n
          · have hlti : (k : Int) < (n : Int) := by omega
            obtain ⟨x, hx⟩ : ∃ x, kids[k]? = some x := ⟨_, List.getElem?_eq_getElem (by rw [HN.out]; exact hlt)⟩
            obtain ⟨vs, hvl, hxk, hcl⟩ := KidsAt.get kids o k x HKK.out hx
            obtain ⟨op2, tag2, a2, n2, cap2, rfl⟩ := hxk.shape
            have k0 := (HBL.out.cell (p := ⟨b, o + k * 3, none⟩) hbb1).trans (hcl 0 _ rfl)
            have k1 := (HBL.out.cell (p := ⟨b, o + k * 3 + 1, none⟩) hbb1).trans (hcl 1 _ rfl)
            have k2 := (HBL.out.cell (p := ⟨b, o + k * 3 + 2, none⟩) hbb1).trans (hcl 2 _ rfl)
            have hkc : k < cap := by omega
            have hbw : Below w1.heap.size w1 wr.drew := (by have := HBL.out; rw [← HS1.out] at this; exact this.drew)
            have hx5 : ExAt wr.drew S x [.string op2, .string tag2, .slice a2 n2 cap2] := hxk.keep (Same.of_below hbw) (fun _ h _ => h) x _
            have hc := HKID.out x (List.mem_of_getElem? hx) [.string op2, .string tag2, .slice a2 n2 cap2] _ hx5 op (by omega)
            rw [HBK.out] at hc
            have HC := Lib.hid hc
            have HNX := Lib.hid (HSTP.out k x hx (by omega))
            have HBD : Hid (Below wr.heap.size wr wr.drew) := Lib.hid ⟨rfl, rfl, rfl, Nat.le_refl _, fun _ _ => rfl⟩
            have HBXR : Hid (∀ w', Below wr.heap.size wr w' → ∀ i, w'.cell? ⟨W.heap.size, i, none⟩ = #[Value.string op, .string tag, .slice (some ⟨b, o, none⟩) n cap][i]?) := Lib.hid (fun w' hb i => HBX.out w' (HBL.out.trans (hb.mono hge)) i)
            have hps : (withB (brF op x.op) (textX x)).size ≤ 200001000002 := by
              have h1 := withB_size (brF op x.op) (textX x)
              have h2 := HSZ.out x (List.mem_of_getElem? hx)
              omega
            clear hx hxk hcl hx5 hvl hbw hc
            generalize withB (brF op x.op) (textX x) = P at *
            have s1 : ((⟨#[32]⟩ : ByteArray) ++ op).size = 1 + op.size := by rw [size_app]; rfl
            have s2 : (((⟨#[32]⟩ : ByteArray) ++ op) ++ ⟨#[32]⟩).size = op.size + 2 := by rw [size_app, s1]; show 1 + op.size + 1 = _; omega
            have s3 : ((((⟨#[32]⟩ : ByteArray) ++ op) ++ ⟨#[32]⟩) ++ P).size = op.size + 2 + P.size := by rw [size_app, s2]
            have s4 : (s ++ ((((⟨#[32]⟩ : ByteArray) ++ op) ++ ⟨#[32]⟩) ++ P)).size ≤ (k + 1) * 300000000000 := by rw [size_app, s3]; omega
            have f1 : ¬ 9223372036854775807 < 1 + op.size := by omega
            have f2 : ¬ 9223372036854775807 < ((⟨#[32]⟩ : ByteArray) ++ op).size + 1 := by omega
            have f3 : ¬ 9223372036854775807 < (((⟨#[32]⟩ : ByteArray) ++ op) ++ ⟨#[32]⟩).size + P.size := by omega
            have f4 : ¬ 9223372036854775807 < s.size + ((((⟨#[32]⟩ : ByteArray) ++ op) ++ ⟨#[32]⟩) ++ P).size := by omega
            have f5 : ¬ 9223372036854775807 < 4 + P.size := by omega
            have f6 : ¬ 9223372036854775807 < s.size + (4 + P.size) := by omega
            have HS4 := Lib.hid s4
            have HV : Hid (s ++ ((((⟨#[32]⟩ : ByteArray) ++ op) ++ ⟨#[32]⟩) ++ P) = joinB (partsX op (kids.take (k + 1))) (sepB op)) := Lib.hid (by rw [HNX.out, ← HSS.out]; rfl)
            clear s1 s2 s3 s4
            go_wp2_with fail
            go_region_law (go_simp; go_at_call 18; (with_reducible refine Calls.mono HC.out ?_); rintro e w6 ⟨rfl, hb6⟩; have hb7 := HBD.out.trans hb6; have HB6 := Lib.hid (HBL.out.trans (hb7.mono hge)); have d0 := HBXR.out _ hb7 0; have d2 := HBXR.out _ hb7 2; clear hb6 hb7)
            all_goals
              go_wp2_with fail
              go_roundw
              case rel => exact ⟨k + 1, _, by go_num, rfl, by omega, by omega, HS4.out, HV.out, HB6.out⟩
              case measure => simp [intOf] <;> omega
          · have hke : k = n := by omega
            have hlti : ¬ (k : Int) < (n : Int) := by omega
            have HJ : Hid (joinB (partsX op kids) (sepB op) = s) := Lib.hid (by rw [← HALL.out, ← hke]; exact HSS.out.symm)
            have HZ := Lib.hid (HBF.out _ (Below.refl _ _))
            have hsb : s.size ≤ 30000000000000000 := by omega
            have s1 : ((⟨#[40]⟩ : ByteArray) ++ s).size = 1 + s.size := by rw [size_app]; rfl
            have f1 : ¬ 9223372036854775807 < 1 + s.size := by omega
            have f2 : ¬ 9223372036854775807 < ((⟨#[40]⟩ : ByteArray) ++ s).size + 1 := by omega
            clear s1
            by_cases q1 : within = opNot
            · rw [decide_eq_true q1] at w1e HBR
              have HF : Hid (R = (⟨#[40]⟩ : ByteArray) ++ s ++ ⟨#[41]⟩) := Lib.hid (by rw [HR.out, HBR.out, HJ.out]; rfl)
              clear q1
              go_wp2_with fail
              go_ret
              exact ⟨by rw [HF.out]; first | rfl | simp, HZ.out⟩
            · rw [decide_eq_false q1] at w1e HBR
              clear q1
              by_cases q2 : within = op
              · rw [decide_eq_true q2] at w2e HBR
                have HF : Hid (R = (⟨#[40]⟩ : ByteArray) ++ s ++ ⟨#[41]⟩) := Lib.hid (by rw [HR.out, HBR.out, HJ.out]; rfl)
                clear q2
                go_wp2_with fail
                go_ret
                exact ⟨by rw [HF.out]; first | rfl | simp, HZ.out⟩
              · rw [decide_eq_false q2] at w2e HBR
                clear q2
                by_cases q3 : within = opAnd
                · rw [decide_eq_true q3] at w3e HBR
                  have HF : Hid (R = (⟨#[40]⟩ : ByteArray) ++ s ++ ⟨#[41]⟩) := Lib.hid (by rw [HR.out, HBR.out, HJ.out]; rfl)
                  clear q3
                  go_wp2_with fail
                  go_ret
                  exact ⟨by rw [HF.out]; first | rfl | simp, HZ.out⟩
                · rw [decide_eq_false q3] at w3e HBR
                  have HF : Hid (R = s) := Lib.hid (by rw [HR.out, HBR.out, HJ.out]; rfl)
                  clear q3
                  go_wp2_with fail
                  go_ret
                  exact ⟨by rw [HF.out]; first | rfl | simp, HZ.out⟩
theorem refWrite_any : ∀ m : Nat, RefWriteC m
  | 0 => fun x vs S W within hm _ _ _ _ _ => by have := x.size_pos; omega
  | m + 1 => refWrite_succ m (refWrite_any m)
end Go.Proofs.YtjgpopjnmonlkaaGreatDoor
