import Derived.Test.YtjgpopjnmonlkaaGreatDoorTgCa
namespace Go.Proofs.YtjgpopjnmonlkaaGreatDoor
open Go.RowKit Go.Shelf
set_option linter.unusedSimpArgs false
set_option linter.unusedVariables false
set_option linter.unusedSectionVars false

/-! Layer 5: the document's Right (MADE BY wip/gen_refright.py). -/
theorem eqs (s t : ByteArray) (l : List UInt8) (hl : t.toList = l) : (s.toList == l) = decide (s = t) ∧ (s.toList != l) = !decide (s = t) := by
  have h := eq_list s t
  rw [hl] at h
  exact ⟨h, by rw [bne, h]⟩
theorem opL0 : nilB.toList = [] := by rw [Lib.toList_data]; rfl
theorem opL1 : opNot.toList = [33] := by rw [Lib.toList_data]; rfl
theorem opL2 : opAnd.toList = [38, 38] := by rw [Lib.toList_data]; rfl
theorem opL3 : opOr.toList = [124, 124] := by rw [Lib.toList_data]; rfl
theorem empB (s : ByteArray) : s.toList.isEmpty = decide (s = nilB) := by
  rw [← (eqs s nilB [] opL0).1]
  cases s.toList <;> rfl
theorem rights_take (n : Nat) (kids : List Ex) (k : Nat) (x : Ex) (h : kids[k]? = some x) : rightsF n (kids.take (k + 1)) = (rightsF n (kids.take k) && rightF n x) := by
  rw [rightsF_all, rightsF_all, List.take_add_one, h]
  simp
theorem rights_at (n : Nat) (kids : List Ex) (k : Nat) (x : Ex) (h : kids[k]? = some x) (hx : rightF n x = false) : rightsF n kids = false := by
  rw [rightsF_all, List.all_eq_false]
  exact ⟨x, List.mem_of_getElem? h, by rw [hx]; decide⟩
def RefRightC (m : Nat) : Prop := ∀ (x : Ex) (vs : List Value) (S : Nat → Prop) (W : World) (left : Nat), x.size ≤ m → m ≤ 2000000 → left ≤ 1000 → x.fits → ExAt W S x vs →
  Calls Tryz.prog 10 #[.agg vs.toArray, .int .i64 (left : Int)] W fun e w' => e = .returned (.bool (rightF left x)) ∧ Below W.heap.size W w'
set_option maxRecDepth 100000 in
set_option maxHeartbeats 3200000 in
theorem refRight_succ (m : Nat) (hr : RefRightC m) : RefRightC (m + 1) := by
  intro x vs S W left hm hm2 hl hf hex
  cases x with
  | node op tag kids =>
    obtain ⟨a, cap, rfl, hrow⟩ := hex.row
    simp only [Ex.size] at hm
    simp only [Ex.fits] at hf
    have hkl := Ex.sizes_len kids
    obtain ⟨bx, hbx⟩ : ∃ bx, W.heap.size = bx := ⟨_, rfl⟩
    obtain ⟨n, hn⟩ : ∃ n, kids.length = n := ⟨_, rfl⟩
    have hb1 : Below W.heap.size W (W.alloc (.cells #[.string op, .string tag, .slice a kids.length cap] 24)) := (Below.refl _ _).alloc (Nat.le_refl _) _
    have hsz1 : (W.alloc (.cells #[.string op, .string tag, .slice a kids.length cap] 24)).heap.size = bx + 1 := by rw [← hbx]; simp
    have hbk : (W.alloc (.cells #[.string op, .string tag, .slice a kids.length cap] 24)).heap[bx]? = some (.cells #[.string op, .string tag, .slice a kids.length cap] 24 (0, 0)) := by rw [← hbx]; exact heap_alloc_new W _
    have hrow1 := hrow.below hb1
    rw [hn] at hb1 hsz1 hbk hrow1 hkl ⊢
    obtain ⟨w1, hw1⟩ : ∃ w1, W.alloc (.cells #[.string op, .string tag, .slice a n cap] 24) = w1 := ⟨_, rfl⟩
    rw [hw1] at hb1 hsz1 hbk hrow1
    have HN := Lib.hid hn
    have HB := Lib.hid hb1
    have HBK := Lib.hid hbk
    have HROW := Lib.hid hrow1
    have HW1 := Lib.hid hw1
    have HS1 := Lib.hid hsz1
    have htg : tag.size ≤ 2000000 := hf.2.1
    have HKID := Lib.hid (fun (k : Ex) (hk : k ∈ kids) (us : List Value) (W' : World) (l : Nat) (hl : l ≤ 1000) (hx : ExAt W' S k us) => hr k us S W' l (by have := Ex.sizes_mem kids k hk; omega) (by omega) hl (Ex.fitsL_mem kids k hf.2.2 hk) hx)
    have hnl : n ≤ 2000000 := by omega
    have HLT : Hid (W.heap.size = bx) := Lib.hid hbx
    have HBX : Hid (∀ w', Below (bx + 1) w1 w' → ∀ i, w'.cell? ⟨W.heap.size, i, none⟩ = #[Value.string op, .string tag, .slice a n cap][i]?) := Lib.hid (fun w' hb i => by
      rw [hbx, hb.cell (p := ⟨bx, i, none⟩) (by show bx < bx + 1; omega)]
      exact cell_of hbk i)
    have HB0 : Hid (Below bx W w1) := Lib.hid (by rw [← hbx]; exact hb1)
    clear hb1 hsz1 hbk hrow1 hrow hex hr hm hm2 hkl hw1 hbx hf
    rw [HLT.out]
    cases left with
    | zero =>
      rw [show rightF 0 (.node op tag kids) = false by rw [rightF]]
      go_enter Tryz.func10, Tryz.ntmps10
      go_wp2_with fail
      go_ret
      exact ⟨by first | rfl | simp, by rw [HW1.out]; exact HB0.out⟩
    | succ L =>
      obtain ⟨l, hll⟩ : ∃ l, L + 1 = l := ⟨_, rfl⟩
      rw [hll] at hl ⊢
      have hLi : ¬ (l : Int) < 1 := by omega
      have hLd : decide ((l : Int) < 1) = false := decide_eq_false hLi
      have hLs : (l : Int) - 1 = (L : Int) := by omega
      have hL1 : L ≤ 1000 := by omega
      have HLL := Lib.hid hll
      clear hll
      by_cases h0 : op = nilB
      · subst h0
        have HR : Hid (rightF l (.node nilB tag kids) = (tagOK tag && kids.isEmpty)) := Lib.hid (by rw [← HLL.out, rightF, if_pos rfl])
        have HM := Lib.hid (all_may tag)
        have HMV := Lib.hid (fun (c : Nat) (w : World) => refmay_v c w)
        clear hLs
        unfold nilB at *
        generalize rightF l (.node ⟨#[]⟩ tag kids) = R at *
        go_enter Tryz.func10, Tryz.ntmps10
        go_wp2_with fail
        go_loopw [5] (fun iv wr => ∃ i : Nat, iv = .int .i64 i ∧ i ≤ tag.size ∧ (∀ j, j < i → inTagF (byteN tag j : Int) = true) ∧ wr = w1) (fun iv _ => tag.size - (intOf iv).toNat)
        case atStart => exact ⟨0, rfl, by omega, fun j hj => by omega, by rw [HW1.out]⟩
        case round =>
          obtain ⟨i, rfl, hi, hall, hwr⟩ := hrel
          have HA := Lib.hid hall
          subst hwr
          have c0 := HBX.out _ (Below.refl _ _) 0
          have c1 := HBX.out _ (Below.refl _ _) 1
          have c2 := HBX.out _ (Below.refl _ _) 2
          clear hall
          by_cases hlt : i < tag.size
          · have hlti : (i : Int) < (tag.size : Int) := by omega
            have hb := str_byte tag i hlt
            have HMC := Lib.hid (HMV.out (byteN tag i))
            have HNX : Hid (inTagF (byteN tag i : Int) = true → ∀ j, j < i + 1 → inTagF (byteN tag j : Int) = true) := Lib.hid (fun h j hj => by
              by_cases e : j = i
              · rw [e]; exact h
              · exact HA.out j (by omega))
            have HBAD : Hid (inTagF (byteN tag i : Int) = false → R = false) := Lib.hid (fun h => by
              rw [HR.out]
              have : tagOK tag = false := by
                unfold tagOK
                rw [Bool.and_eq_false_iff]
                right
                cases hh : tag.data.toList.all mayB with
                | false => rfl
                | true => have := HM.out.2 hh i hlt; rw [h] at this; cases this
              rw [this]; rfl)
            generalize byteN tag i = c at *
            generalize inTagF (c : Int) = b at *
            cases b with
            | true =>
              have HNX2 := Lib.hid (HNX.out rfl)
              clear HNX HBAD
              go_wp2_with (go_at_call 22; (with_reducible refine Calls.mono (HMC.out _) ?_); rintro e w2 ⟨rfl, hw2⟩; replace hw2 := hw2.symm; subst hw2)
              go_roundw
              case rel => exact ⟨i + 1, by go_num, by omega, HNX2.out, by first | rfl | trivial⟩
              case measure => simp [intOf] <;> omega
            | false =>
              have HF := Lib.hid (HBAD.out rfl)
              clear HNX HBAD
              go_wp2_with (go_at_call 22; (with_reducible refine Calls.mono (HMC.out _) ?_); rintro e w2 ⟨rfl, hw2⟩; replace hw2 := hw2.symm; subst hw2)
              go_ret
              exact ⟨by rw [HF.out]; rfl, HB0.out⟩
          · have hlti : ¬ (i : Int) < (tag.size : Int) := by omega
            have hie : i = tag.size := by omega
            have HT : Hid (R = (decide (0 < tag.size) && decide (n = 0))) := Lib.hid (by
              have hall2 : tag.data.toList.all mayB = true := HM.out.1 (fun j hj => HA.out j (by omega))
              have he : kids.isEmpty = decide (n = 0) := by
                rw [← HN.out]
                cases kids <;> simp
              rw [HR.out, he]
              unfold tagOK
              rw [hall2, Bool.and_true])
            clear hie
            by_cases g1 : 0 < tag.size
            · have g1i : (0 : Int) < (tag.size : Int) := by omega
              by_cases g2 : n = 0
              · subst g2
                have HF : Hid (R = true) := Lib.hid (by rw [HT.out, decide_eq_true g1]; rfl)
                go_wp2_with fail
                go_ret
                exact ⟨by rw [HF.out]; first | rfl | simp, HB0.out⟩
              · have g2b : ((n : Int) == 0) = false := by rw [beq_eq_false_iff_ne]; omega
                have HF : Hid (R = false) := Lib.hid (by rw [HT.out, decide_eq_false g2, Bool.and_false])
                go_wp2_with fail
                go_ret
                exact ⟨by rw [HF.out]; first | rfl | simp, HB0.out⟩
            · have g1i : ¬ (0 : Int) < (tag.size : Int) := by omega
              have HF : Hid (R = false) := Lib.hid (by rw [HT.out, decide_eq_false g1]; rfl)
              go_wp2_with fail
              go_ret
              exact ⟨by rw [HF.out]; first | rfl | simp, HB0.out⟩
      · obtain ⟨o0a, o0b⟩ := eqs op nilB [] opL0
        obtain ⟨o1a, o1b⟩ := eqs op opNot [33] opL1
        obtain ⟨o2a, o2b⟩ := eqs op opAnd [38, 38] opL2
        obtain ⟨o3a, o3b⟩ := eqs op opOr [124, 124] opL3
        obtain ⟨t0a, t0b⟩ := eqs tag nilB [] opL0
        have t0c := empB tag
        have o0c := empB op
        rw [decide_eq_false h0] at o0a o0b o0c
        have HR : Hid (rightF l (.node op tag kids) = if op = opNot then decide (n = 1) && (decide (tag = nilB) && rightsF L kids) else if op = opAnd ∨ op = opOr then decide (2 ≤ n) && (decide (tag = nilB) && rightsF L kids) else false) := Lib.hid (by rw [← HLL.out, rightF, if_neg h0, HN.out])
        have HSTP := Lib.hid (fun k x h => rights_take L kids k x h)
        have HSAT := Lib.hid (fun k x h hx => rights_at L kids k x h hx)
        have HALL : Hid (rightsF L (kids.take n) = rightsF L kids) := Lib.hid (by rw [← HN.out, List.take_length])
        have c0 := HBX.out _ (Below.refl _ _) 0
        have c1 := HBX.out _ (Below.refl _ _) 1
        have c2 := HBX.out _ (Below.refl _ _) 2
        rw [← HW1.out] at c0 c1 c2
        clear h0
        generalize rightF l (.node op tag kids) = R at *
        by_cases ht : tag = nilB
        · rw [decide_eq_true ht] at t0a t0b t0c HR
          clear ht
          by_cases h1 : op = opNot
          · have h2 : op ≠ opAnd := by rw [h1]; decide
            have h3 : op ≠ opOr := by rw [h1]; decide
            rw [if_pos h1, Bool.true_and] at HR
            rw [decide_eq_true h1] at o1a o1b
            rw [decide_eq_false h2] at o2a o2b
            rw [decide_eq_false h3] at o3a o3b
            clear h1 h2 h3
            by_cases hn1 : n = 1
            · subst hn1
              have HR2 : Hid (R = rightsF L kids) := Lib.hid (by rw [HR.out] <;> simp)
              clear HR
              go_enter Tryz.func10, Tryz.ntmps10
              go_wp2_with fail
              go_loopw [6] (fun kv wr => ∃ (k : Nat), kv = .int .i64 k ∧ k ≤ 1 ∧ rightsF L (kids.take k) = true ∧ Below (bx + 1) w1 wr) (fun kv _ => 1 - (intOf kv).toNat)
              case atStart => exact ⟨0, rfl, by omega, by simp [rightsF], by rw [HW1.out]; exact Below.refl _ _⟩
              case round =>
                clear c0 c1 c2
                obtain ⟨k, rfl, hk, hs, hbl⟩ := hrel
                have HSS := Lib.hid hs
                have HBL := Lib.hid hbl
                have hge : bx + 1 ≤ wr.heap.size := by have := hbl.size; have := HS1.out; omega
                have c2 := HBX.out _ hbl 2
                clear hs hbl
                have HBF : Hid (∀ w', Below wr.heap.size wr w' → Below bx W w') := Lib.hid (fun w' hb => (HB0.out.trans (HBL.out.mono (by omega))).trans (hb.mono (by omega)))
                by_cases hlt : k < 1
                · have hlti : (k : Int) < (1 : Int) := by omega
                  obtain ⟨x, hx⟩ : ∃ x, kids[k]? = some x := ⟨_, List.getElem?_eq_getElem (by rw [HN.out]; exact hlt)⟩
                  rcases HROW.out with h0 | ⟨b, o, rfl, hS, hbb, hcap, hkids⟩
                  · exfalso; have := HN.out; rw [h0] at this; (simp at this) <;> omega
                  · have hbb1 : b < bx + 1 := by have := HS1.out; omega
                    obtain ⟨vs, hvl, hxk, hcl⟩ := KidsAt.get kids o k x hkids hx
                    obtain ⟨op2, tag2, a2, n2, cap2, rfl⟩ := hxk.shape
                    have k0 := (HBL.out.cell (p := ⟨b, o + k * 3, none⟩) hbb1).trans (hcl 0 _ rfl)
                    have k1 := (HBL.out.cell (p := ⟨b, o + k * 3 + 1, none⟩) hbb1).trans (hcl 1 _ rfl)
                    have k2 := (HBL.out.cell (p := ⟨b, o + k * 3 + 2, none⟩) hbb1).trans (hcl 2 _ rfl)
                    have hkc : k < cap := by have := HN.out; omega
                    have hx5 : ExAt wr S x [.string op2, .string tag2, .slice a2 n2 cap2] := hxk.keep (Same.of_below (by have := HBL.out; rw [← HS1.out] at this; exact this)) (fun _ h _ => h) x _
                    have hc := HKID.out x (List.mem_of_getElem? hx) [.string op2, .string tag2, .slice a2 n2 cap2] _ L (by omega) hx5
                    have HC := Lib.hid hc
                    have HNX := Lib.hid (HSTP.out k x hx)
                    have HXT := Lib.hid (HSAT.out k x hx)
                    clear hx hkids hxk hcl hx5 hvl hc
                    generalize hz : rightF L x = z at *
                    cases z with
                    | false =>
                      have HF : Hid (R = false) := Lib.hid (HR2.out.trans (HXT.out rfl))
                      clear hz
                      go_wp2_with (go_at_call 10; with_reducible refine Calls.mono HC.out ?_; rintro e w6 ⟨rfl, hb6⟩; have HB6 := Lib.hid (HBF.out _ hb6); clear hb6)
                      go_ret
                      exact ⟨by rw [HF.out]; first | rfl | simp, HB6.out⟩
                    | true =>
                      clear hz
                      go_wp2_with (go_at_call 10; with_reducible refine Calls.mono HC.out ?_; rintro e w6 ⟨rfl, hb6⟩; have HB6 := Lib.hid (HBL.out.trans (hb6.mono hge)); clear hb6)
                      go_roundw
                      case rel => exact ⟨k + 1, by go_num, by omega, by rw [HNX.out, HSS.out]; rfl, HB6.out⟩
                      case measure => simp [intOf] <;> omega
                · have hke : k = 1 := by omega
                  have hlti : ¬ (k : Int) < (1 : Int) := by omega
                  have HF : Hid (R = true) := Lib.hid (by rw [HR2.out, ← HALL.out, ← hke]; exact HSS.out)
                  have HZ := Lib.hid (HBF.out _ (Below.refl _ _))
                  go_wp2_with fail
                  go_ret
                  exact ⟨by rw [HF.out]; first | rfl | simp, HZ.out⟩
            · have nb : ((n : Int) != 1) = true := by rw [bne, show ((n : Int) == 1) = false by rw [beq_eq_false_iff_ne]; omega] <;> simp
              have nb2 : ((n : Int) == 1) = false := by rw [beq_eq_false_iff_ne]; omega
              have HF : Hid (R = false) := Lib.hid (by rw [HR.out, decide_eq_false hn1] <;> simp)
              clear HR
              go_enter Tryz.func10, Tryz.ntmps10
              go_wp2_with fail
              go_ret
              exact ⟨by rw [HF.out]; first | rfl | simp, by rw [HW1.out]; exact HB0.out⟩
          · rw [if_neg h1] at HR
            rw [decide_eq_false h1] at o1a o1b
            by_cases h2 : op = opAnd
            · have h3 : op ≠ opOr := by rw [h2]; decide
              rw [if_pos (.inl h2), Bool.true_and] at HR
              rw [decide_eq_true h2] at o2a o2b
              rw [decide_eq_false h3] at o3a o3b
              clear h1 h2 h3
              by_cases hn2 : n < 2
              · have nb : decide ((n : Int) < 2) = true := decide_eq_true (by omega)
                have nbi : (n : Int) < 2 := by omega
                have HF : Hid (R = false) := Lib.hid (by rw [HR.out, decide_eq_false (by omega)] <;> simp)
                clear HR
                go_enter Tryz.func10, Tryz.ntmps10
                go_wp2_with fail
                go_ret
                exact ⟨by rw [HF.out]; first | rfl | simp, by rw [HW1.out]; exact HB0.out⟩
              · have nb : decide ((n : Int) < 2) = false := decide_eq_false (by omega)
                have nbi : ¬ (n : Int) < 2 := by omega
                have HR2 : Hid (R = rightsF L kids) := Lib.hid (by rw [HR.out, decide_eq_true (by omega)] <;> simp)
                clear HR
                go_enter Tryz.func10, Tryz.ntmps10
                go_wp2_with fail
                go_loopw [6] (fun kv wr => ∃ (k : Nat), kv = .int .i64 k ∧ k ≤ n ∧ rightsF L (kids.take k) = true ∧ Below (bx + 1) w1 wr) (fun kv _ => n - (intOf kv).toNat)
                case atStart => exact ⟨0, rfl, by omega, by simp [rightsF], by rw [HW1.out]; exact Below.refl _ _⟩
                case round =>
                  clear c0 c1 c2
                  obtain ⟨k, rfl, hk, hs, hbl⟩ := hrel
                  have HSS := Lib.hid hs
                  have HBL := Lib.hid hbl
                  have hge : bx + 1 ≤ wr.heap.size := by have := hbl.size; have := HS1.out; omega
                  have c2 := HBX.out _ hbl 2
                  clear hs hbl
                  have HBF : Hid (∀ w', Below wr.heap.size wr w' → Below bx W w') := Lib.hid (fun w' hb => (HB0.out.trans (HBL.out.mono (by omega))).trans (hb.mono (by omega)))
                  by_cases hlt : k < n
                  · have hlti : (k : Int) < (n : Int) := by omega
                    obtain ⟨x, hx⟩ : ∃ x, kids[k]? = some x := ⟨_, List.getElem?_eq_getElem (by rw [HN.out]; exact hlt)⟩
                    rcases HROW.out with h0 | ⟨b, o, rfl, hS, hbb, hcap, hkids⟩
                    · exfalso; have := HN.out; rw [h0] at this; (simp at this) <;> omega
                    · have hbb1 : b < bx + 1 := by have := HS1.out; omega
                      obtain ⟨vs, hvl, hxk, hcl⟩ := KidsAt.get kids o k x hkids hx
                      obtain ⟨op2, tag2, a2, n2, cap2, rfl⟩ := hxk.shape
                      have k0 := (HBL.out.cell (p := ⟨b, o + k * 3, none⟩) hbb1).trans (hcl 0 _ rfl)
                      have k1 := (HBL.out.cell (p := ⟨b, o + k * 3 + 1, none⟩) hbb1).trans (hcl 1 _ rfl)
                      have k2 := (HBL.out.cell (p := ⟨b, o + k * 3 + 2, none⟩) hbb1).trans (hcl 2 _ rfl)
                      have hkc : k < cap := by have := HN.out; omega
                      have hx5 : ExAt wr S x [.string op2, .string tag2, .slice a2 n2 cap2] := hxk.keep (Same.of_below (by have := HBL.out; rw [← HS1.out] at this; exact this)) (fun _ h _ => h) x _
                      have hc := HKID.out x (List.mem_of_getElem? hx) [.string op2, .string tag2, .slice a2 n2 cap2] _ L (by omega) hx5
                      have HC := Lib.hid hc
                      have HNX := Lib.hid (HSTP.out k x hx)
                      have HXT := Lib.hid (HSAT.out k x hx)
                      clear hx hkids hxk hcl hx5 hvl hc
                      generalize hz : rightF L x = z at *
                      cases z with
                      | false =>
                        have HF : Hid (R = false) := Lib.hid (HR2.out.trans (HXT.out rfl))
                        clear hz
                        go_wp2_with (go_at_call 10; with_reducible refine Calls.mono HC.out ?_; rintro e w6 ⟨rfl, hb6⟩; have HB6 := Lib.hid (HBF.out _ hb6); clear hb6)
                        go_ret
                        exact ⟨by rw [HF.out]; first | rfl | simp, HB6.out⟩
                      | true =>
                        clear hz
                        go_wp2_with (go_at_call 10; with_reducible refine Calls.mono HC.out ?_; rintro e w6 ⟨rfl, hb6⟩; have HB6 := Lib.hid (HBL.out.trans (hb6.mono hge)); clear hb6)
                        go_roundw
                        case rel => exact ⟨k + 1, by go_num, by omega, by rw [HNX.out, HSS.out]; rfl, HB6.out⟩
                        case measure => simp [intOf] <;> omega
                  · have hke : k = n := by omega
                    have hlti : ¬ (k : Int) < (n : Int) := by omega
                    have HF : Hid (R = true) := Lib.hid (by rw [HR2.out, ← HALL.out, ← hke]; exact HSS.out)
                    have HZ := Lib.hid (HBF.out _ (Below.refl _ _))
                    go_wp2_with fail
                    go_ret
                    exact ⟨by rw [HF.out]; first | rfl | simp, HZ.out⟩
            · by_cases h3 : op = opOr
              · rw [if_pos (.inr h3), Bool.true_and] at HR
                rw [decide_eq_false h2] at o2a o2b
                rw [decide_eq_true h3] at o3a o3b
                clear h1 h2 h3
                by_cases hn2 : n < 2
                · have nb : decide ((n : Int) < 2) = true := decide_eq_true (by omega)
                  have nbi : (n : Int) < 2 := by omega
                  have HF : Hid (R = false) := Lib.hid (by rw [HR.out, decide_eq_false (by omega)] <;> simp)
                  clear HR
                  go_enter Tryz.func10, Tryz.ntmps10
                  go_wp2_with fail
                  go_ret
                  exact ⟨by rw [HF.out]; first | rfl | simp, by rw [HW1.out]; exact HB0.out⟩
                · have nb : decide ((n : Int) < 2) = false := decide_eq_false (by omega)
                  have nbi : ¬ (n : Int) < 2 := by omega
                  have HR2 : Hid (R = rightsF L kids) := Lib.hid (by rw [HR.out, decide_eq_true (by omega)] <;> simp)
                  clear HR
                  go_enter Tryz.func10, Tryz.ntmps10
                  go_wp2_with fail
                  go_loopw [6] (fun kv wr => ∃ (k : Nat), kv = .int .i64 k ∧ k ≤ n ∧ rightsF L (kids.take k) = true ∧ Below (bx + 1) w1 wr) (fun kv _ => n - (intOf kv).toNat)
                  case atStart => exact ⟨0, rfl, by omega, by simp [rightsF], by rw [HW1.out]; exact Below.refl _ _⟩
                  case round =>
                    clear c0 c1 c2
                    obtain ⟨k, rfl, hk, hs, hbl⟩ := hrel
                    have HSS := Lib.hid hs
                    have HBL := Lib.hid hbl
                    have hge : bx + 1 ≤ wr.heap.size := by have := hbl.size; have := HS1.out; omega
                    have c2 := HBX.out _ hbl 2
                    clear hs hbl
                    have HBF : Hid (∀ w', Below wr.heap.size wr w' → Below bx W w') := Lib.hid (fun w' hb => (HB0.out.trans (HBL.out.mono (by omega))).trans (hb.mono (by omega)))
                    by_cases hlt : k < n
                    · have hlti : (k : Int) < (n : Int) := by omega
                      obtain ⟨x, hx⟩ : ∃ x, kids[k]? = some x := ⟨_, List.getElem?_eq_getElem (by rw [HN.out]; exact hlt)⟩
                      rcases HROW.out with h0 | ⟨b, o, rfl, hS, hbb, hcap, hkids⟩
                      · exfalso; have := HN.out; rw [h0] at this; (simp at this) <;> omega
                      · have hbb1 : b < bx + 1 := by have := HS1.out; omega
                        obtain ⟨vs, hvl, hxk, hcl⟩ := KidsAt.get kids o k x hkids hx
                        obtain ⟨op2, tag2, a2, n2, cap2, rfl⟩ := hxk.shape
                        have k0 := (HBL.out.cell (p := ⟨b, o + k * 3, none⟩) hbb1).trans (hcl 0 _ rfl)
                        have k1 := (HBL.out.cell (p := ⟨b, o + k * 3 + 1, none⟩) hbb1).trans (hcl 1 _ rfl)
                        have k2 := (HBL.out.cell (p := ⟨b, o + k * 3 + 2, none⟩) hbb1).trans (hcl 2 _ rfl)
                        have hkc : k < cap := by have := HN.out; omega
                        have hx5 : ExAt wr S x [.string op2, .string tag2, .slice a2 n2 cap2] := hxk.keep (Same.of_below (by have := HBL.out; rw [← HS1.out] at this; exact this)) (fun _ h _ => h) x _
                        have hc := HKID.out x (List.mem_of_getElem? hx) [.string op2, .string tag2, .slice a2 n2 cap2] _ L (by omega) hx5
                        have HC := Lib.hid hc
                        have HNX := Lib.hid (HSTP.out k x hx)
                        have HXT := Lib.hid (HSAT.out k x hx)
                        clear hx hkids hxk hcl hx5 hvl hc
                        generalize hz : rightF L x = z at *
                        cases z with
                        | false =>
                          have HF : Hid (R = false) := Lib.hid (HR2.out.trans (HXT.out rfl))
                          clear hz
                          go_wp2_with (go_at_call 10; with_reducible refine Calls.mono HC.out ?_; rintro e w6 ⟨rfl, hb6⟩; have HB6 := Lib.hid (HBF.out _ hb6); clear hb6)
                          go_ret
                          exact ⟨by rw [HF.out]; first | rfl | simp, HB6.out⟩
                        | true =>
                          clear hz
                          go_wp2_with (go_at_call 10; with_reducible refine Calls.mono HC.out ?_; rintro e w6 ⟨rfl, hb6⟩; have HB6 := Lib.hid (HBL.out.trans (hb6.mono hge)); clear hb6)
                          go_roundw
                          case rel => exact ⟨k + 1, by go_num, by omega, by rw [HNX.out, HSS.out]; rfl, HB6.out⟩
                          case measure => simp [intOf] <;> omega
                    · have hke : k = n := by omega
                      have hlti : ¬ (k : Int) < (n : Int) := by omega
                      have HF : Hid (R = true) := Lib.hid (by rw [HR2.out, ← HALL.out, ← hke]; exact HSS.out)
                      have HZ := Lib.hid (HBF.out _ (Below.refl _ _))
                      go_wp2_with fail
                      go_ret
                      exact ⟨by rw [HF.out]; first | rfl | simp, HZ.out⟩
              · rw [if_neg (by rintro (h | h); exact h2 h; exact h3 h)] at HR
                rw [decide_eq_false h2] at o2a o2b
                rw [decide_eq_false h3] at o3a o3b
                have HF := HR
                clear h1 h2 h3 HR
                go_enter Tryz.func10, Tryz.ntmps10
                go_wp2_with fail
                go_ret
                exact ⟨by rw [HF.out]; first | rfl | simp, by rw [HW1.out]; exact HB0.out⟩
        · rw [decide_eq_false ht] at t0a t0b t0c HR
          have HF : Hid (R = false) := Lib.hid (by rw [HR.out]; split <;> (try split) <;> simp)
          clear ht HR
          go_enter Tryz.func10, Tryz.ntmps10
          go_wp2_with fail
          go_ret
          exact ⟨by rw [HF.out]; first | rfl | simp, by rw [HW1.out]; exact HB0.out⟩
theorem refRight_any : ∀ m : Nat, RefRightC m
  | 0 => fun x vs S W left hm _ _ _ _ => by have := x.size_pos; omega
  | m + 1 => refRight_succ m (refRight_any m)
theorem refRight_v (x : Ex) (vs : List Value) (S : Nat → Prop) (W : World) (left : Nat) (h : x.size ≤ 2000000) (hl : left ≤ 1000) (hf : x.fits) (hex : ExAt W S x vs) :
    Calls Tryz.prog 10 #[.agg vs.toArray, .int .i64 (left : Int)] W fun e w' => e = .returned (.bool (rightF left x)) ∧ Below W.heap.size W w' :=
  refRight_any x.size x vs S W left (Nat.le_refl _) h hl hf hex
end Go.Proofs.YtjgpopjnmonlkaaGreatDoor
