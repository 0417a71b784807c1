import Derived.Test.YtjgpopjnmonlkaaGreatDoorTgCc
namespace Go.Proofs.YtjgpopjnmonlkaaGreatDoor
open Go.RowKit Go.Shelf
set_option linter.unusedSimpArgs false
set_option linter.unusedVariables false
set_option linter.unusedSectionVars false

/-! Layer 5: the document's Holds (MADE BY wip/gen_refholds5.py). -/
theorem rel_ge (t : ByteArray) : relF t = -1 ∨ 0 ≤ relF t := by
  by_cases h : relF t = -1
  · exact .inl h
  · obtain ⟨k, hk, e⟩ := rel_shape t h
    right
    rw [e, rel_go ⟨k, by omega⟩]
    simp
theorem all_take (p : Ex → Bool) (kids : List Ex) (k : Nat) (x : Ex) (h : kids[k]? = some x) : (kids.take (k + 1)).all p = ((kids.take k).all p && p x) := by
  rw [List.take_add_one, h]; simp
theorem any_take (p : Ex → Bool) (kids : List Ex) (k : Nat) (x : Ex) (h : kids[k]? = some x) : (kids.take (k + 1)).any p = ((kids.take k).any p || p x) := by
  rw [List.take_add_one, h]; simp
theorem all_at (p : Ex → Bool) (kids : List Ex) (k : Nat) (x : Ex) (h : kids[k]? = some x) (hx : p x = false) : kids.all p = false := by
  rw [List.all_eq_false]; exact ⟨x, List.mem_of_getElem? h, by rw [hx]; decide⟩
theorem any_at (p : Ex → Bool) (kids : List Ex) (k : Nat) (x : Ex) (h : kids[k]? = some x) (hx : p x = true) : kids.any p = true := by
  rw [List.any_eq_true]; exact ⟨x, List.mem_of_getElem? h, hx⟩
theorem tag_in (tags : List ByteArray) (i : Nat) (t : ByteArray) (h : tags[i]? = some t) : Lib.containsS tags t = true := (Lib.containsS_iff _ _).2 (List.mem_of_getElem? h)
theorem tag_out (tags : List ByteArray) (x : ByteArray) (h : ∀ (i : Nat) (t : ByteArray), tags[i]? = some t → t ≠ x) : Lib.containsS tags x = false := by
  cases hc : Lib.containsS tags x with
  | false => rfl
  | true =>
    obtain ⟨i, hi, e⟩ := List.getElem_of_mem ((Lib.containsS_iff _ _).1 hc)
    exact absurd e (h i _ (List.getElem?_eq_getElem hi))
def RefHoldsC (m : Nat) : Prop := ∀ (x : Ex) (vs : List Value) (S : Nat → Prop) (W : World) (ta : Option Addr) (tcap : Nat) (tags : List ByteArray), x.size ≤ m → m ≤ 2000000 → ExAt W S x vs → x.ok → x.rt → TagsAt W ta tcap tags → tags.length ≤ 1000 →
  Calls Tryz.prog 16 #[.agg vs.toArray, .slice ta tags.length tcap] W fun e w' => e = .returned (.bool (holdsF relF tags x)) ∧ Below W.heap.size W w'
set_option maxRecDepth 100000 in
set_option maxHeartbeats 3200000 in
theorem refHolds_succ (m : Nat) (hr : RefHoldsC m) : RefHoldsC (m + 1) := by
  intro x vs S W ta tcap tags hm hm2 hex hok hrt ht htl
  cases x with
  | node op tag kids =>
    obtain ⟨a, cap, rfl, hrow⟩ := hex.row
    obtain ⟨hkl, hol, htgl⟩ := hok.len
    obtain ⟨bx, hbx⟩ : ∃ bx, W.heap.size = bx := ⟨_, rfl⟩
    obtain ⟨n, hn⟩ : ∃ n, kids.length = n := ⟨_, rfl⟩
    obtain ⟨tn, htn⟩ : ∃ tn, tags.length = tn := ⟨_, rfl⟩
    have hb1 : Below W.heap.size W (W.alloc (.cells #[.string op, .string tag, .slice a kids.length cap] 24)) := (Below.refl _ _).alloc (Nat.le_refl _) _
    have hsz1 : (W.alloc (.cells #[.string op, .string tag, .slice a kids.length cap] 24)).heap.size = bx + 1 := by rw [← hbx]; simp
    have hbk : (W.alloc (.cells #[.string op, .string tag, .slice a kids.length cap] 24)).heap[bx]? = some (.cells #[.string op, .string tag, .slice a kids.length cap] 24 (0, 0)) := by rw [← hbx]; exact heap_alloc_new W _
    have hrow1 := hrow.below hb1
    have ht1 := ht.below hb1
    rw [hn] at hb1 hsz1 hbk hrow1 hkl ht1 ⊢
    obtain ⟨w1, hw1⟩ : ∃ w1, W.alloc (.cells #[.string op, .string tag, .slice a n cap] 24) = w1 := ⟨_, rfl⟩
    rw [hw1] at hb1 hsz1 hbk hrow1 ht1
    have hkrt := hrt.kids
    have HN := Lib.hid hn
    have HTN := Lib.hid htn
    have HB := Lib.hid hb1
    have HROW := Lib.hid hrow1
    have HTG := Lib.hid ht1
    have HW1 := Lib.hid hw1
    have HS1 := Lib.hid hsz1
    have hk0 := fun (k : Ex) (hk : k ∈ kids) (us : List Value) (W' : World) (hx : ExAt W' S k us) (hb : Below w1.heap.size w1 W') => hr k us S W' ta tcap tags (by have := (hok.kid hk).2; omega) (by omega) hx (hok.kid hk).1 (hkrt k hk) (ht1.below hb) htl
    rw [htn] at hk0 htl
    have HKID := Lib.hid hk0
    have HVER := Lib.hid (fun (w : World) => refVersion_v tag w htgl)
    have HCASE := Lib.hid hrt.cases
    have HLT : Hid (W.heap.size = bx) := Lib.hid hbx
    have HBX : Hid (∀ w', Below (bx + 1) w1 w' → ∀ i, w'.cell? ⟨W.heap.size, i, none⟩ = #[Value.string op, .string tag, .slice a n cap][i]?) := Lib.hid (fun w' hb i => by
      rw [hbx, hb.cell (p := ⟨bx, i, none⟩) (by show bx < bx + 1; omega)]
      exact cell_of hbk i)
    have HB0 : Hid (Below bx W w1) := Lib.hid (by rw [← hbx]; exact hb1)
    obtain ⟨o0a, o0b⟩ := eqs op nilB [] opL0
    obtain ⟨o1a, o1b⟩ := eqs op opNot [33] opL1
    obtain ⟨o2a, o2b⟩ := eqs op opAnd [38, 38] opL2
    obtain ⟨o3a, o3b⟩ := eqs op opOr [124, 124] opL3
    have o0c := empB op
    have c0 := HBX.out _ (Below.refl _ _) 0
    have c1 := HBX.out _ (Below.refl _ _) 1
    have c2 := HBX.out _ (Below.refl _ _) 2
    rw [← HW1.out] at c0 c1 c2
    rw [HTN.out]
    clear hb1 hsz1 hbk hrow1 hrow hex hr hm hm2 hw1 hbx ht ht1 htn hn hok hrt hol htgl hkrt hk0
    rw [HLT.out]
    rcases HCASE.out with ⟨h0, hkk⟩ | ⟨h1, kk, hkk, _⟩ | ⟨h2, h22, _⟩ | ⟨h3, h32, _⟩
    · have HR : Hid (holdsF relF tags (.node op tag kids) = if relF tag ≠ -1 then decide (relF tag ≤ 24) else Lib.containsS tags tag) := Lib.hid (by rw [h0]; exact holdsF_nil relF tags tag kids)
      have hoo : op = nilB := h0
      have g1 : op ≠ opNot := by rw [hoo]; decide
      rw [decide_eq_true hoo] at o0a o0b o0c
      rw [decide_eq_false g1] at o1a o1b
      have HOUT := Lib.hid (fun h => tag_out tags tag h)
      have HIN := Lib.hid (fun i h => tag_in tags i tag h)
      have hrg := rel_ge tag
      clear h0 hkk hoo g1
      generalize holdsF relF tags (.node op tag kids) = R at *
      generalize relF tag = r at *
      by_cases hrr : r = -1
      · subst hrr
        have HR2 : Hid (R = Lib.containsS tags tag) := Lib.hid (by rw [HR.out, if_neg (fun h => h rfl)])
        clear HR hrg
        go_enter Tryz.func16, Tryz.ntmps16
        go_wp2_with (go_at_call 27; (with_reducible refine Calls.mono (HVER.out _) ?_); rintro e w2 ⟨rfl, hw2⟩; replace hw2 := hw2.symm; subst hw2)
        go_loopw [7] (fun iv wr => ∃ i : Nat, iv = .int .i64 i ∧ i ≤ tn ∧ (∀ (j : Nat) (t : ByteArray), j < i → tags[j]? = some t → t ≠ tag) ∧ Below (bx + 1) w1 wr) (fun iv _ => tn - (intOf iv).toNat)
        case atStart => exact ⟨0, rfl, by omega, fun j t hj => by omega, by rw [HW1.out]; exact Below.refl _ _⟩
        case round =>
          obtain ⟨i, rfl, hi, hall, hbl⟩ := hrel
          have HA := Lib.hid hall
          have HBL := Lib.hid hbl
          have hge : bx + 1 ≤ wr.heap.size := by have := hbl.size; have := HS1.out; omega
          clear hall c0 c1 c2
          have c1 := HBX.out _ hbl 1
          have HZ0 : Hid (Below bx W wr) := Lib.hid (HB0.out.trans (hbl.mono (by omega)))
          clear hbl
          by_cases hlt : i < tn
          · have hlti : (i : Int) < (tn : Int) := by omega
            obtain ⟨t, htk⟩ : ∃ t, tags[i]? = some t := ⟨_, List.getElem?_eq_getElem (by rw [HTN.out]; exact hlt)⟩
            rcases HTG.out with h0 | ⟨b, o, rfl, hbb, hcap, hcl⟩
            · exfalso; have := HTN.out; rw [h0] at this; (simp at this) <;> omega
            · have hbb1 : b < bx + 1 := by have := HS1.out; omega
              have k0 := (HBL.out.cell (p := ⟨b, o + i, none⟩) hbb1).trans (hcl i t htk)
              have hkc : i < tcap := by have := HTN.out; omega
              have het := eq_list t tag
              have HTK := Lib.hid htk
              clear hcl htk
              by_cases he : t = tag
              · rw [decide_eq_true he] at het
                have HF : Hid (R = true) := Lib.hid (by rw [HR2.out]; exact HIN.out i (by rw [HTK.out, he]))
                clear he
                go_wp2_with fail
                go_region_law (fail)
                all_goals
                  go_wp2_with fail
                  go_ret
                  exact ⟨by rw [HF.out]; first | rfl | simp, HZ0.out.drew⟩
              · rw [decide_eq_false he] at het
                have HNX : Hid (∀ (j : Nat) (t : ByteArray), j < i + 1 → tags[j]? = some t → t ≠ tag) := Lib.hid (fun j t2 hj hjt => by
                  by_cases e : j = i
                  · rw [e, HTK.out] at hjt
                    rw [← Option.some.inj hjt]; exact he
                  · exact HA.out j t2 (by omega) hjt)
                clear he
                go_wp2_with fail
                go_region_law (fail)
                all_goals
                  go_wp2_with fail
                  go_roundw
                  case rel => exact ⟨i + 1, by go_num, by omega, HNX.out, HBL.out.drew⟩
                  case measure => simp [intOf] <;> omega
          · have hlti : ¬ (i : Int) < (tn : Int) := by omega
            have HF : Hid (R = false) := Lib.hid (by
              rw [HR2.out]
              exact HOUT.out (fun j t hjt => HA.out j t (by have := (List.getElem?_eq_some_iff.mp hjt).1; have := HTN.out; omega) hjt))
            go_wp2_with fail
            go_ret
            exact ⟨by rw [HF.out]; first | rfl | simp, HZ0.out⟩
      · have hr0 : 0 ≤ r := by omega
        have HR2 : Hid (R = decide (r ≤ 24)) := Lib.hid (by rw [HR.out, if_pos hrr])
        clear HR hrg hrr
        go_enter Tryz.func16, Tryz.ntmps16
        go_wp2_with (go_at_call 27; (with_reducible refine Calls.mono (HVER.out _) ?_); rintro e w2 ⟨rfl, hw2⟩; replace hw2 := hw2.symm; subst hw2)
        all_goals go_ret
        all_goals exact ⟨by rw [HR2.out]; first | rfl | simp, by rw [HW1.out]; exact HB0.out⟩
    · have hoo : op = opNot := h1
      have g0 : op ≠ nilB := by rw [hoo]; decide
      rw [decide_eq_false g0] at o0a o0b o0c
      rw [decide_eq_true hoo] at o1a o1b
      subst hkk
      have HR : Hid (holdsF relF tags (.node op tag [kk]) = !(holdsF relF tags kk)) := Lib.hid (by rw [h1]; exact holdsF_not relF tags tag kk)
      rcases HROW.out with h0 | ⟨b, o, rfl, hS, hbb, hcap, hkids⟩
      · cases h0
      · obtain ⟨vs, hvl, hxk, hcl⟩ := KidsAt.get [kk] o 0 kk hkids rfl
        obtain ⟨op2, tag2, a2, n2, cap2, rfl⟩ := hxk.shape
        have k0 : w1.cell? ⟨b, o, none⟩ = some (.string op2) := by simpa using hcl 0 _ rfl
        have k1 : w1.cell? ⟨b, o + 1, none⟩ = some (.string tag2) := by simpa using hcl 1 _ rfl
        have k2 : w1.cell? ⟨b, o + 2, none⟩ = some (.slice a2 n2 cap2) := by simpa using hcl 2 _ rfl
        have hn1 : n = 1 := by rw [← HN.out]; rfl
        subst hn1
        have hcap1 : 1 ≤ cap := hcap
        have HC := Lib.hid (HKID.out kk (by simp) [.string op2, .string tag2, .slice a2 n2 cap2] _ hxk (Below.refl _ _))
        have HBZ : Hid (∀ w', Below w1.heap.size w1 w' → Below bx W w') := Lib.hid (fun w' hb => HB0.out.trans (hb.mono (by have := HS1.out; omega)))
        rw [← HW1.out] at k0 k1 k2
        clear h1 hoo g0 hkids hcl hxk hvl hcap
        generalize holdsF relF tags kk = z at *
        generalize holdsF relF tags (.node op tag [kk]) = R at *
        go_enter Tryz.func16, Tryz.ntmps16
        go_wp2_with (go_at_call 16; rw [HW1.out]; (with_reducible refine Calls.mono HC.out ?_); rintro e w6 ⟨rfl, hb6⟩; have HB6 := Lib.hid (HBZ.out _ hb6); clear hb6)
        go_ret
        exact ⟨by rw [HR.out]; first | rfl | simp, HB6.out⟩
    · have hoo : op = opAnd := h2
      have g0 : op ≠ nilB := by rw [hoo]; decide
      have g1 : op ≠ opNot := by rw [hoo]; decide
      have g2 : op ≠ opOr := by rw [hoo]; decide
      rw [decide_eq_false g0] at o0a o0b o0c
      rw [decide_eq_false g1] at o1a o1b
      rw [decide_eq_true hoo] at o2a o2b
      rw [decide_eq_false g2] at o3a o3b
      have HR : Hid (holdsF relF tags (.node op tag kids) = kids.all (holdsF relF tags)) := Lib.hid (by rw [h2]; exact holdsF_and relF tags tag kids)
      have HSTP := Lib.hid (fun k x h => all_take (holdsF relF tags) kids k x h)
      have HSAT := Lib.hid (fun k x h hx => all_at (holdsF relF tags) kids k x h hx)
      have HALL : Hid ((kids.take n).all (holdsF relF tags) = kids.all (holdsF relF tags)) := Lib.hid (by rw [← HN.out, List.take_length])
      clear h2 hoo g0 g1 g2 HVER
      generalize holdsF relF tags (.node op tag kids) = R at *
      go_enter Tryz.func16, Tryz.ntmps16
      go_wp2_with fail
      go_loopw [5] (fun kv wr => ∃ (k : Nat), kv = .int .i64 k ∧ k ≤ n ∧ (kids.take k).all (holdsF relF tags) = true ∧ Below (bx + 1) w1 wr) (fun kv _ => n - (intOf kv).toNat)
      case atStart => exact ⟨0, rfl, by omega, by simp, by rw [HW1.out]; exact Below.refl _ _⟩
      case round =>
        clear c0 c1 c2
        obtain ⟨k, rfl, hk, hs, hbl⟩ := hrel
        have HSS := Lib.hid hs
        have HBL := Lib.hid hbl
        have hge : bx + 1 ≤ wr.heap.size := by have := hbl.size; have := HS1.out; omega
        have c0 := HBX.out _ hbl 0
        have c2 := HBX.out _ hbl 2
        clear hs hbl
        have HBF : Hid (∀ w', Below wr.heap.size wr w' → Below bx W w') := Lib.hid (fun w' hb => (HB0.out.trans (HBL.out.mono (by omega))).trans (hb.mono (by omega)))
        by_cases hlt : k < n
        · have hlti : (k : Int) < (n : Int) := by omega
          obtain ⟨x, hx⟩ : ∃ x, kids[k]? = some x := ⟨_, List.getElem?_eq_getElem (by rw [HN.out]; exact hlt)⟩
          rcases HROW.out with h0 | ⟨b, o, rfl, hS, hbb, hcap, hkids⟩
          · exfalso; have := HN.out; rw [h0] at this; (simp at this) <;> omega
          · have hbb1 : b < bx + 1 := by have := HS1.out; omega
            obtain ⟨vs, hvl, hxk, hcl⟩ := KidsAt.get kids o k x hkids hx
            obtain ⟨op2, tag2, a2, n2, cap2, rfl⟩ := hxk.shape
            have k0 := (HBL.out.cell (p := ⟨b, o + k * 3, none⟩) hbb1).trans (hcl 0 _ rfl)
            have k1 := (HBL.out.cell (p := ⟨b, o + k * 3 + 1, none⟩) hbb1).trans (hcl 1 _ rfl)
            have k2 := (HBL.out.cell (p := ⟨b, o + k * 3 + 2, none⟩) hbb1).trans (hcl 2 _ rfl)
            have hkc : k < cap := by have := HN.out; omega
            have hbw : Below w1.heap.size w1 wr.drew := (by have := HBL.out; rw [← HS1.out] at this; exact this.drew)
            have hx5 : ExAt wr.drew S x [.string op2, .string tag2, .slice a2 n2 cap2] := hxk.keep (Same.of_below hbw) (fun _ h _ => h) x _
            have HC := Lib.hid (HKID.out x (List.mem_of_getElem? hx) [.string op2, .string tag2, .slice a2 n2 cap2] _ hx5 hbw)
            have HNX := Lib.hid (HSTP.out k x hx)
            have HXT := Lib.hid (HSAT.out k x hx)
            have HBD : Hid (Below wr.heap.size wr wr.drew) := Lib.hid ⟨rfl, rfl, rfl, Nat.le_refl _, fun _ _ => rfl⟩
            have HBXR : Hid (∀ w', Below wr.heap.size wr w' → ∀ i, w'.cell? ⟨W.heap.size, i, none⟩ = #[Value.string op, .string tag, .slice (some ⟨b, o, none⟩) n cap][i]?) := Lib.hid (fun w' hb i => HBX.out w' (HBL.out.trans (hb.mono hge)) i)
            clear hx hkids hxk hcl hx5 hvl hbw
            generalize hz : holdsF relF tags x = z at *
            cases z with
            | false =>
              have HF : Hid (R = false) := Lib.hid (HR.out.trans (HXT.out rfl))
              clear hz
              go_wp2_with fail
              go_region_law (go_simp; go_at_call 16; (with_reducible refine Calls.mono HC.out ?_); rintro e w6 ⟨rfl, hb6⟩; have hb7 := HBD.out.trans hb6; have HB6 := Lib.hid (HBF.out _ hb7); have d0 := HBXR.out _ hb7 0; have d2 := HBXR.out _ hb7 2; clear hb6 hb7)
              all_goals
                go_wp2_with fail
                go_ret
                exact ⟨by rw [HF.out]; first | rfl | simp, HB6.out⟩
            | true =>
              clear hz
              go_wp2_with fail
              go_region_law (go_simp; go_at_call 16; (with_reducible refine Calls.mono HC.out ?_); rintro e w6 ⟨rfl, hb6⟩; have hb7 := HBD.out.trans hb6; have HB6 := Lib.hid (HBL.out.trans (hb7.mono hge)); have d0 := HBXR.out _ hb7 0; have d2 := HBXR.out _ hb7 2; clear hb6 hb7)
              all_goals
                go_wp2_with fail
                go_roundw
                case rel => exact ⟨k + 1, by go_num, by omega, by rw [HNX.out, HSS.out]; rfl, HB6.out⟩
                case measure => simp [intOf] <;> omega
        · have hke : k = n := by omega
          have hlti : ¬ (k : Int) < (n : Int) := by omega
          have HF : Hid (R = true) := Lib.hid (by rw [HR.out, ← HALL.out, ← hke]; exact HSS.out)
          have HZ := Lib.hid (HBF.out _ (Below.refl _ _))
          go_wp2_with fail
          go_ret
          exact ⟨by rw [HF.out]; first | rfl | simp, HZ.out⟩
    · have hoo : op = opOr := h3
      have g0 : op ≠ nilB := by rw [hoo]; decide
      have g1 : op ≠ opNot := by rw [hoo]; decide
      have g2 : op ≠ opAnd := by rw [hoo]; decide
      rw [decide_eq_false g0] at o0a o0b o0c
      rw [decide_eq_false g1] at o1a o1b
      rw [decide_eq_true hoo] at o3a o3b
      rw [decide_eq_false g2] at o2a o2b
      have HR : Hid (holdsF relF tags (.node op tag kids) = kids.any (holdsF relF tags)) := Lib.hid (by rw [h3]; exact holdsF_or relF tags tag kids)
      have HSTP := Lib.hid (fun k x h => any_take (holdsF relF tags) kids k x h)
      have HSAT := Lib.hid (fun k x h hx => any_at (holdsF relF tags) kids k x h hx)
      have HALL : Hid ((kids.take n).any (holdsF relF tags) = kids.any (holdsF relF tags)) := Lib.hid (by rw [← HN.out, List.take_length])
      clear h3 hoo g0 g1 g2 HVER
      generalize holdsF relF tags (.node op tag kids) = R at *
      go_enter Tryz.func16, Tryz.ntmps16
      go_wp2_with fail
      go_loopw [5] (fun kv wr => ∃ (k : Nat), kv = .int .i64 k ∧ k ≤ n ∧ (kids.take k).any (holdsF relF tags) = false ∧ Below (bx + 1) w1 wr) (fun kv _ => n - (intOf kv).toNat)
      case atStart => exact ⟨0, rfl, by omega, by simp, by rw [HW1.out]; exact Below.refl _ _⟩
      case round =>
        clear c0 c1 c2
        obtain ⟨k, rfl, hk, hs, hbl⟩ := hrel
        have HSS := Lib.hid hs
        have HBL := Lib.hid hbl
        have hge : bx + 1 ≤ wr.heap.size := by have := hbl.size; have := HS1.out; omega
        have c0 := HBX.out _ hbl 0
        have c2 := HBX.out _ hbl 2
        clear hs hbl
        have HBF : Hid (∀ w', Below wr.heap.size wr w' → Below bx W w') := Lib.hid (fun w' hb => (HB0.out.trans (HBL.out.mono (by omega))).trans (hb.mono (by omega)))
        by_cases hlt : k < n
        · have hlti : (k : Int) < (n : Int) := by omega
          obtain ⟨x, hx⟩ : ∃ x, kids[k]? = some x := ⟨_, List.getElem?_eq_getElem (by rw [HN.out]; exact hlt)⟩
          rcases HROW.out with h0 | ⟨b, o, rfl, hS, hbb, hcap, hkids⟩
          · exfalso; have := HN.out; rw [h0] at this; (simp at this) <;> omega
          · have hbb1 : b < bx + 1 := by have := HS1.out; omega
            obtain ⟨vs, hvl, hxk, hcl⟩ := KidsAt.get kids o k x hkids hx
            obtain ⟨op2, tag2, a2, n2, cap2, rfl⟩ := hxk.shape
            have k0 := (HBL.out.cell (p := ⟨b, o + k * 3, none⟩) hbb1).trans (hcl 0 _ rfl)
            have k1 := (HBL.out.cell (p := ⟨b, o + k * 3 + 1, none⟩) hbb1).trans (hcl 1 _ rfl)
            have k2 := (HBL.out.cell (p := ⟨b, o + k * 3 + 2, none⟩) hbb1).trans (hcl 2 _ rfl)
            have hkc : k < cap := by have := HN.out; omega
            have hbw : Below w1.heap.size w1 wr.drew := (by have := HBL.out; rw [← HS1.out] at this; exact this.drew)
            have hx5 : ExAt wr.drew S x [.string op2, .string tag2, .slice a2 n2 cap2] := hxk.keep (Same.of_below hbw) (fun _ h _ => h) x _
            have HC := Lib.hid (HKID.out x (List.mem_of_getElem? hx) [.string op2, .string tag2, .slice a2 n2 cap2] _ hx5 hbw)
            have HNX := Lib.hid (HSTP.out k x hx)
            have HXT := Lib.hid (HSAT.out k x hx)
            have HBD : Hid (Below wr.heap.size wr wr.drew) := Lib.hid ⟨rfl, rfl, rfl, Nat.le_refl _, fun _ _ => rfl⟩
            have HBXR : Hid (∀ w', Below wr.heap.size wr w' → ∀ i, w'.cell? ⟨W.heap.size, i, none⟩ = #[Value.string op, .string tag, .slice (some ⟨b, o, none⟩) n cap][i]?) := Lib.hid (fun w' hb i => HBX.out w' (HBL.out.trans (hb.mono hge)) i)
            clear hx hkids hxk hcl hx5 hvl hbw
            generalize hz : holdsF relF tags x = z at *
            cases z with
            | true =>
              have HF : Hid (R = true) := Lib.hid (HR.out.trans (HXT.out rfl))
              clear hz
              go_wp2_with fail
              go_region_law (go_simp; go_at_call 16; (with_reducible refine Calls.mono HC.out ?_); rintro e w6 ⟨rfl, hb6⟩; have hb7 := HBD.out.trans hb6; have HB6 := Lib.hid (HBF.out _ hb7); have d0 := HBXR.out _ hb7 0; have d2 := HBXR.out _ hb7 2; clear hb6 hb7)
              all_goals
                go_wp2_with fail
                go_ret
                exact ⟨by rw [HF.out]; first | rfl | simp, HB6.out⟩
            | false =>
              clear hz
              go_wp2_with fail
              go_region_law (go_simp; go_at_call 16; (with_reducible refine Calls.mono HC.out ?_); rintro e w6 ⟨rfl, hb6⟩; have hb7 := HBD.out.trans hb6; have HB6 := Lib.hid (HBL.out.trans (hb7.mono hge)); have d0 := HBXR.out _ hb7 0; have d2 := HBXR.out _ hb7 2; clear hb6 hb7)
              all_goals
                go_wp2_with fail
                go_roundw
                case rel => exact ⟨k + 1, by go_num, by omega, by rw [HNX.out, HSS.out]; rfl, HB6.out⟩
                case measure => simp [intOf] <;> omega
        · have hke : k = n := by omega
          have hlti : ¬ (k : Int) < (n : Int) := by omega
          have HF : Hid (R = false) := Lib.hid (by rw [HR.out, ← HALL.out, ← hke]; exact HSS.out)
          have HZ := Lib.hid (HBF.out _ (Below.refl _ _))
          go_wp2_with fail
          go_ret
          exact ⟨by rw [HF.out]; first | rfl | simp, HZ.out⟩
theorem refHolds_any : ∀ m : Nat, RefHoldsC m
  | 0 => fun x vs S W ta tcap tags hm _ _ _ _ _ _ => by have := x.size_pos; omega
  | m + 1 => refHolds_succ m (refHolds_any m)
end Go.Proofs.YtjgpopjnmonlkaaGreatDoor
