import Derived.Test.YtjgpopjnmonlkaaGreatDoorTgK
namespace Go.Proofs.YtjgpopjnmonlkaaGreatDoor
open Go.RowKit Go.Shelf
set_option linter.unusedSimpArgs false
set_option linter.unusedVariables false
set_option linter.unusedSectionVars false

/-! Layer 5: how it is written. -/
theorem ExAt.shape2 {w : World} {S : Nat → Prop} {x : Ex} {vs : List Value} (h : ExAt w S x vs) : ∃ (a : Option Addr) (n cap : Nat), vs = [.string x.op, .string x.tag, .slice a n cap] := by
  cases x with
  | node op tag kids =>
    obtain ⟨a, cap, rfl, _⟩ := h.row
    exact ⟨a, _, cap, rfl⟩
theorem Ex.rt.op2 {x : Ex} (h : x.rt) (op : ByteArray) (tag : ByteArray) (kids : List Ex) (hx : x = .node op tag kids) : op.size ≤ 2 := by
  subst hx
  rcases h.cases with ⟨h, _⟩ | ⟨h, _⟩ | ⟨h, _⟩ | ⟨h, _⟩ <;> rw [h] <;> decide
def TextC (m : Nat) : Prop := ∀ (x : Ex) (vs : List Value) (S : Nat → Prop) (W : World), x.size ≤ m → ExAt W S x vs → x.ok → x.rt →
  Calls Tryz.prog 26 #[.agg vs.toArray] W fun e w' => e = .returned (.string (textX x)) ∧ Below W.heap.size W w'
set_option maxRecDepth 100000 in
set_option maxHeartbeats 3200000 in
theorem text_succ (m : Nat) (hr : TextC m) : TextC (m + 1) := by
  intro x vs S W hm hex hok hrt
  obtain ⟨i0, hi0, hz0, hz1, hz2⟩ := info_parts info36g
  cases x with
  | node op tag kids =>
    have hsizes : ∀ k ∈ kids, (textX k).size ≤ 200001000000 := fun k hk => by
      have h1 := text_size k (hok.kid hk).1 (hrt.kids k hk)
      have h2 := (hok.kid hk).1.1
      have := Nat.mul_le_mul_left 2000010 h2
      omega
    have hjs : (textX (.node op tag kids)).size ≤ 200001000000 := by
      have h1 := text_size _ hok hrt
      have h2 := hok.1
      have := Nat.mul_le_mul_left 2000010 h2
      omega
    obtain ⟨a, cap, rfl, hrow⟩ := hex.row
    obtain ⟨hkl, hol, htgl⟩ := hok.len
    obtain ⟨bx, hbx⟩ : ∃ bx, W.heap.size = bx := ⟨_, rfl⟩
    have hb1 : Below W.heap.size W (W.alloc (.cells #[.string op, .string tag, .slice a kids.length cap] 29)) := (Below.refl _ _).alloc (Nat.le_refl _) _
    have hsz1 : (W.alloc (.cells #[.string op, .string tag, .slice a kids.length cap] 29)).heap.size = bx + 1 := by rw [← hbx]; simp
    have hbk : (W.alloc (.cells #[.string op, .string tag, .slice a kids.length cap] 29)).heap[bx]? = some (.cells #[.string op, .string tag, .slice a kids.length cap] 29 (0, 0)) := by rw [← hbx]; exact heap_alloc_new W _
    have hrow1 := hrow.below hb1
    have hkrt := hrt.kids
    obtain ⟨n, hn⟩ : ∃ n, kids.length = n := ⟨_, rfl⟩
    rw [hn] at hb1 hsz1 hbk hrow1 ⊢
    obtain ⟨w1, hw1⟩ : ∃ w1, W.alloc (.cells #[.string op, .string tag, .slice a n cap] 29) = w1 := ⟨_, rfl⟩
    rw [hw1] at hb1 hsz1 hbk hrow1
    have HN := Lib.hid hn
    have HB := Lib.hid hb1
    have HBK := Lib.hid hbk
    have HROW := Lib.hid hrow1
    have HW1 := Lib.hid hw1
    have HS1 := Lib.hid hsz1
    have HSZ := Lib.hid hsizes
    have HJS := Lib.hid hjs
    have HKID := Lib.hid (fun (k : Ex) (hk : k ∈ kids) (us : List Value) (W' : World) (hx : ExAt W' S k us) => hr k us S W' (by have := (hok.kid hk).2; omega) hx (hok.kid hk).1 (hkrt k hk))
    have hnl : n ≤ 100000 := by omega
    have HCASE := Lib.hid hrt.cases
    have HLT : Hid (W.heap.size = bx) := Lib.hid hbx
    clear hb1 hsz1 hbk hrow1 hrow hex hok hrt hr hm hkl hol htgl hn hw1 hkrt hbx hsizes hjs
    rw [HLT.out]
    go_enter Tryz.func26, Tryz.ntmps26
    go_wp2_with fail
    go_loopw [3, 10] (fun rv kv wr => ∃ (k : Nat) (l : List ByteArray), kv = .int .i64 k ∧ k ≤ n ∧ l = partsX op (kids.take k) ∧ wr.ownsRow (bx + 1) 9 1 rv l.length (szs l) ∧ Below (bx + 1) w1 wr) (fun _ kv _ => n - (intOf kv).toNat)
    case atStart => exact ⟨0, [], rfl, by omega, by simp [partsX], World.ownsRow_nil _ _ _ _, by rw [HW1.out]; exact Below.refl _ _⟩
    case round =>
      obtain ⟨k, l, rfl, hk, hl, hown, hbl⟩ := hrel
      have HL := Lib.hid hl
      have HO := Lib.hid hown
      have HBL := Lib.hid hbl
      have hlen : l.length = k := by rw [hl, partsX_map, List.length_map, List.length_take]; have := HN.out; omega
      have hge : bx + 1 ≤ wr.heap.size := by have := hbl.size; have := HS1.out; omega
      clear hl hown hbl
      by_cases hlt : k < n
      · have hlti : (k : Int) < (n : Int) := by omega
        obtain ⟨x, hx⟩ : ∃ x, kids[k]? = some x := ⟨_, List.getElem?_eq_getElem (by rw [HN.out]; exact hlt)⟩
        rcases HROW.out with h0 | ⟨b, o, rfl, hS, hbb, hcap, hkids⟩
        · exfalso; have := HN.out; rw [h0] at this; simp at this; omega
        · have hbb1 : b < bx + 1 := by have := HS1.out; omega
          obtain ⟨vs, hvl, hxk, hcl⟩ := KidsAt.get kids o k x hkids hx
          obtain ⟨a2, n2, cap2, rfl⟩ := hxk.shape2
          have k0 := (HBL.out.cell (p := ⟨b, o + k * 3, none⟩) hbb1).trans (hcl 0 _ rfl)
          have k1 := (HBL.out.cell (p := ⟨b, o + k * 3 + 1, none⟩) hbb1).trans (hcl 1 _ rfl)
          have k2 := (HBL.out.cell (p := ⟨b, o + k * 3 + 2, none⟩) hbb1).trans (hcl 2 _ rfl)
          have hkc : k < cap := by have := HN.out; omega
          have hb5 : Below wr.heap.size wr (wr.alloc (.cells #[.string x.op, .string x.tag, .slice a2 n2 cap2] 29)) := (Below.refl _ _).alloc (Nat.le_refl _) _
          have hx5 : ExAt (wr.alloc (.cells #[.string x.op, .string x.tag, .slice a2 n2 cap2] 29)) S x [.string x.op, .string x.tag, .slice a2 n2 cap2] := (hxk.keep (Same.of_below (by have := HBL.out; rw [← HS1.out] at this; exact this)) (fun _ h _ => h) x _).below hb5
          have HC := Lib.hid (HKID.out x (List.mem_of_getElem? hx) [.string x.op, .string x.tag, .slice a2 n2 cap2] _ hx5)
          have HO5 := Lib.hid (rowZ_kept HO.out hb5)
          have HB5 := Lib.hid (HBL.out.trans (hb5.mono hge))
          have HNX : Hid (partsX op (kids.take (k + 1)) = l ++ [withB (brF op x.op) (textX x)]) := Lib.hid (by rw [partsX_map, List.take_add_one, hx, HL.out, partsX_map]; simp)
          have hsz5 : (wr.alloc (.cells #[.string x.op, .string x.tag, .slice a2 n2 cap2] 29)).heap.size = wr.heap.size + 1 := by simp
          have HBOX : Hid (∀ w6, Below (wr.alloc (.cells #[.string x.op, .string x.tag, .slice a2 n2 cap2] 29)).heap.size (wr.alloc (.cells #[.string x.op, .string x.tag, .slice a2 n2 cap2] 29)) w6 → ∀ i, w6.cell? ⟨wr.heap.size, i, none⟩ = #[Value.string x.op, .string x.tag, .slice a2 n2 cap2][i]?) := Lib.hid (fun w6 hb i => by
            rw [hb.cell (p := ⟨wr.heap.size, i, none⟩) (by rw [hsz5]; show wr.heap.size < wr.heap.size + 1; omega)]
            exact cell_of (heap_alloc_new wr _) i)
          have HXB : Hid (∀ w6, Below (bx + 1) w1 w6 → ∀ i, w6.cell? ⟨W.heap.size, i, none⟩ = #[Value.string op, .string tag, .slice (some ⟨b, o, none⟩) n cap][i]?) := Lib.hid (fun w6 hb i => by
            rw [HLT.out, hb.cell (p := ⟨bx, i, none⟩) (by show bx < bx + 1; omega)]
            exact cell_of HBK.out i)
          have hpsz := HSZ.out x (List.mem_of_getElem? hx)
          have HBR := Lib.hid (fun w => brackets_v op (.string tag) (.slice (some ⟨b, o, none⟩) n cap) (.string x.tag) (.slice a2 n2 cap2) x.op w)
          clear hx hkids hxk hcl hx5 hvl hb5
          generalize textX x = P at *
          generalize x.op = xo at *
          generalize x.tag = xt at *
          have q1 : ¬ 9223372036854775807 < 1 + P.size := by omega
          have hsA : ((⟨#[40]⟩ : ByteArray) ++ P).size = 1 + P.size := by rw [size_app]; rfl
          have q2 : ¬ 9223372036854775807 < ((⟨#[40]⟩ : ByteArray) ++ P).size + 1 := by omega
          cases hbr : brF op xo with
          | false =>
            rw [hbr] at HBR HNX
            go_wp2_with (first
              | (go_at_call 26; with_reducible refine Calls.mono HC.out ?_; rintro e w6 ⟨rfl, hb6⟩; have HO6 := Lib.hid (rowZ_kept HO5.out hb6); have HB6 := Lib.hid (HB5.out.trans (hb6.mono (by rw [hsz5]; omega))); have hge6 := hb6.size; rw [hsz5] at hge6
                 have d0 := HBOX.out _ hb6 0; have d1 := HBOX.out _ hb6 1; have d2 := HBOX.out _ hb6 2; have e0 := HXB.out _ HB6.out 0; have e1 := HXB.out _ HB6.out 1; have e2 := HXB.out _ HB6.out 2; clear hb6)
              | (go_at_call 38; with_reducible refine Calls.mono (HBR.out _) ?_; rintro e w7 ⟨rfl, hb7⟩; have HO7 := Lib.hid (rowZ_kept HO6.out hb7); have HB7 := Lib.hid (HB6.out.trans (hb7.mono (by omega))); have hge7 := hb7.size; clear hb7)
              | (at_builtin; refine wpList_append_own _ rfl _ _ 25 rfl (bx + 1) 9 i0 (.string ⟨#[]⟩) 1 16 Tryz.underlying25 hi0 hz0 hz1 hz2 rfl (by decide) _ _ _ rfl (HO7.out.alloc _) ⟨w7.heap.size, 0, none⟩ 1 1 [.string (P)] rfl rfl newsG ?c2 ?c3 ?c4 ?c5 ?_))
            case c2 => intro u hu; simp at hu; subst hu; rfl
            case c3 => unfold maxLen; omega
            case c4 => omega
            case c5 => simp; omega
            intro v' w8 hown' hgrow _
            have HO8 : Hid (w8.ownsRow (bx + 1) 9 1 v' (l ++ [P]).length (szs (l ++ [P]))) := Lib.hid (by simpa [szs, hlen] using hown')
            have HB8 : Hid (Below (bx + 1) w1 w8) := Lib.hid (rowZ_below HB7.out HO7.out (by omega) hgrow)
            clear hown' hgrow
            go_wp2_with fail
            go_roundw
            case rel => exact ⟨k + 1, l ++ [P], by go_num, by omega, HNX.out.symm, HO8.out, HB8.out⟩
            case measure => simp [intOf]; omega
          | true =>
            rw [hbr] at HBR HNX
            go_wp2_with (first
              | (go_at_call 26; with_reducible refine Calls.mono HC.out ?_; rintro e w6 ⟨rfl, hb6⟩; have HO6 := Lib.hid (rowZ_kept HO5.out hb6); have HB6 := Lib.hid (HB5.out.trans (hb6.mono (by rw [hsz5]; omega))); have hge6 := hb6.size; rw [hsz5] at hge6
                 have d0 := HBOX.out _ hb6 0; have d1 := HBOX.out _ hb6 1; have d2 := HBOX.out _ hb6 2; have e0 := HXB.out _ HB6.out 0; have e1 := HXB.out _ HB6.out 1; have e2 := HXB.out _ HB6.out 2; clear hb6)
              | (go_at_call 38; with_reducible refine Calls.mono (HBR.out _) ?_; rintro e w7 ⟨rfl, hb7⟩; have HO7 := Lib.hid (rowZ_kept HO6.out hb7); have HB7 := Lib.hid (HB6.out.trans (hb7.mono (by omega))); have hge7 := hb7.size; clear hb7)
              | (at_builtin; refine wpList_append_own _ rfl _ _ 25 rfl (bx + 1) 9 i0 (.string ⟨#[]⟩) 1 16 Tryz.underlying25 hi0 hz0 hz1 hz2 rfl (by decide) _ _ _ rfl (HO7.out.alloc _) ⟨w7.heap.size, 0, none⟩ 1 1 [.string ((⟨#[40]⟩ : ByteArray) ++ P ++ ⟨#[41]⟩)] rfl rfl newsG ?c2 ?c3 ?c4 ?c5 ?_))
            case c2 => intro u hu; simp at hu; subst hu; rfl
            case c3 => unfold maxLen; omega
            case c4 => omega
            case c5 => simp; omega
            intro v' w8 hown' hgrow _
            have HO8 : Hid (w8.ownsRow (bx + 1) 9 1 v' (l ++ [(⟨#[40]⟩ : ByteArray) ++ P ++ ⟨#[41]⟩]).length (szs (l ++ [(⟨#[40]⟩ : ByteArray) ++ P ++ ⟨#[41]⟩]))) := Lib.hid (by simpa [szs, hlen] using hown')
            have HB8 : Hid (Below (bx + 1) w1 w8) := Lib.hid (rowZ_below HB7.out HO7.out (by omega) hgrow)
            clear hown' hgrow
            go_wp2_with fail
            go_roundw
            case rel => exact ⟨k + 1, l ++ [(⟨#[40]⟩ : ByteArray) ++ P ++ ⟨#[41]⟩], by go_num, by omega, HNX.out.symm, HO8.out, HB8.out⟩
            case measure => simp [intOf]; omega
      · have hke : k = n := by omega
        have hlti : ¬ (k : Int) < (n : Int) := by omega
        have hle : l = partsX op kids := by rw [HL.out, hke, ← HN.out, List.take_length]
        have c0 : wr.cell? ⟨W.heap.size, 0, none⟩ = some (.string op) := by rw [HLT.out]; exact (HBL.out.cell (p := ⟨bx, 0, none⟩) (by show bx < bx + 1; omega)).trans (cell_of HBK.out 0)
        have c1 : wr.cell? ⟨W.heap.size, 1, none⟩ = some (.string tag) := by rw [HLT.out]; exact (HBL.out.cell (p := ⟨bx, 1, none⟩) (by show bx < bx + 1; omega)).trans (cell_of HBK.out 1)
        have HBF : Hid (Below bx W wr) := Lib.hid (by have := HB.out; rw [HLT.out] at this; exact this.trans (HBL.out.mono (by omega)))
        have hgb : bx ≤ wr.heap.size := by omega
        rcases HCASE.out with ⟨rfl, hkk⟩ | ⟨rfl, kk, hkk, _⟩ | ⟨rfl, h2, _⟩ | ⟨rfl, h2, _⟩
        · have HF := Lib.hid (textX_nil tag kids)
          clear HL hle hkk
          go_wp2_with fail
          go_ret
          exact ⟨by rw [HF.out]; rfl, HBF.out⟩
        · subst hkk
          have hl1 : l = [withB (brF ⟨#[33]⟩ kk.op) (textX kk)] := by rw [hle]; simp [partsX]
          obtain ⟨g, cg, rfl, hg, hcg⟩ := rowZ_slice HO.out (by rw [hl1, List.length_singleton]; decide)
          have s0 : wr.cell? ⟨g, 0, none⟩ = some (.string (withB (brF ⟨#[33]⟩ kk.op) (textX kk))) := by
            rw [HO.out.cellAt 0 (by rw [hl1, List.length_singleton]; decide), hl1]; rfl
          have hF := textX_not tag kk
          have hjs := HJS.out
          rw [hF] at hjs
          have HF := Lib.hid hF
          generalize withB (brF ⟨#[33]⟩ kk.op) (textX kk) = P at *
          rw [size_app] at hjs
          have hq1 : ¬ 9223372036854775807 < 1 + P.size := by
            have : (⟨#[33]⟩ : ByteArray).size = 1 := rfl
            omega
          have hll : l.length = 1 := by rw [hl1]; rfl
          rw [hll]
          clear HL hle hF hl1 hjs
          go_wp2_with fail
          go_ret
          exact ⟨by rw [HF.out]; rfl, HBF.out⟩
        · have hF := textX_and tag kids
          rw [← hle] at hF
          have HR := Lib.hid (fun (v0 : Value) (w0 : World) h => join_row (bx + 1) v0 l ((⟨#[32]⟩ : ByteArray) ++ ⟨#[38, 38]⟩ ++ ⟨#[32]⟩) w0 h (by have := HN.out; omega) (by omega) (by rw [← hF]; have := HJS.out; omega))
          have HF := Lib.hid hF
          clear HL hle hF
          go_wp2_with (go_at_call 39; with_reducible refine Calls.mono (HR.out _ _ HO.out) ?_; rintro e w6 ⟨rfl, hb6⟩; have HB6 := Lib.hid (HBF.out.trans (hb6.mono hgb)); clear hb6)
          go_ret
          exact ⟨by rw [HF.out]; rfl, HB6.out⟩
        · have hF := textX_or tag kids
          rw [← hle] at hF
          have HR := Lib.hid (fun (v0 : Value) (w0 : World) h => join_row (bx + 1) v0 l ((⟨#[32]⟩ : ByteArray) ++ ⟨#[124, 124]⟩ ++ ⟨#[32]⟩) w0 h (by have := HN.out; omega) (by omega) (by rw [← hF]; have := HJS.out; omega))
          have HF := Lib.hid hF
          clear HL hle hF
          go_wp2_with (go_at_call 39; with_reducible refine Calls.mono (HR.out _ _ HO.out) ?_; rintro e w6 ⟨rfl, hb6⟩; have HB6 := Lib.hid (HBF.out.trans (hb6.mono hgb)); clear hb6)
          go_ret
          exact ⟨by rw [HF.out]; rfl, HB6.out⟩
theorem text_any : ∀ m : Nat, TextC m
  | 0 => fun x vs S W hm _ _ _ => by have := x.size_pos; omega
  | m + 1 => text_succ m (text_any m)
def WriteF (x : Ex) : ByteArray := if rightF 100 x = true then textX x else ⟨#[]⟩
set_option maxHeartbeats 1600000 in
theorem Write_v (x : Ex) (vs : List Value) (S : Nat → Prop) (W : World) (hex : ExAt W S x vs) (hok : x.ok) :
    Calls Tryz.prog 14 #[.agg vs.toArray] W fun e w' => e = .returned (.string (WriteF x)) ∧ Below W.heap.size W w' := by
  obtain ⟨v0, v1, v2, rfl⟩ := three hex.len
  have hb1 : Below W.heap.size W (W.alloc (.cells #[v0, v1, v2] 29)) := (Below.refl _ _).alloc (Nat.le_refl _) _
  have hlt : W.heap.size < (W.alloc (.cells #[v0, v1, v2] 29)).heap.size := by simp
  have H := Lib.hid (Right_v x [v0, v1, v2] S _ (hex.below hb1) hok)
  have hcell : ∀ w' i v, Below (W.alloc (.cells #[v0, v1, v2] 29)).heap.size (W.alloc (.cells #[v0, v1, v2] 29)) w' → [v0, v1, v2][i]? = some v → w'.cell? ⟨W.heap.size, i, none⟩ = some v := fun w' i v hb hv => by
    rw [hb.cell (p := ⟨W.heap.size, i, none⟩) hlt, cell_of (heap_alloc_new W _) i]
    simpa using hv
  have HC := Lib.hid hcell
  have HH := Lib.hid (fun (hr : rightF 100 x = true) (w' : World) (hb : Below (W.alloc (.cells #[v0, v1, v2] 29)).heap.size (W.alloc (.cells #[v0, v1, v2] 29)) w') =>
    text_any x.size x [v0, v1, v2] S w' (Nat.le_refl _) ((hex.below hb1).below hb) hok ⟨100, hr⟩)
  have HB := Lib.hid hb1
  unfold WriteF
  clear hb1 hex hcell hlt
  generalize textX x = R at *
  cases hr : rightF 100 x with
  | false =>
    rw [hr] at H
    rw [if_neg (by decide)]
    go_enter Tryz.func14, Tryz.ntmps14
    go_wp2_with (go_at_call 11; with_reducible refine Calls.mono H.out ?_; rintro e w2 ⟨rfl, hb2⟩; have HB2 := Lib.hid (HB.out.trans (hb2.mono HB.out.size)); clear hb2)
    go_ret
    exact ⟨by first | rfl | simp, HB2.out⟩
  | true =>
    rw [hr] at H
    rw [if_pos rfl]
    have HH2 := Lib.hid (HH.out hr)
    clear HH
    go_enter Tryz.func14, Tryz.ntmps14
    go_wp2_with (first
      | (go_at_call 11; with_reducible refine Calls.mono H.out ?_; rintro e w2 ⟨rfl, hb2⟩; have HB0 := Lib.hid hb2; have HB2 := Lib.hid (HB.out.trans (hb2.mono HB.out.size)); clear hb2; have c0 := HC.out _ 0 v0 HB0.out rfl; have c1 := HC.out _ 1 v1 HB0.out rfl; have c2 := HC.out _ 2 v2 HB0.out rfl)
      | (go_at_call 26; with_reducible refine Calls.mono (HH2.out _ HB0.out) ?_; rintro e w3 ⟨rfl, hb3⟩; have HB3 := Lib.hid (HB2.out.trans (hb3.mono HB2.out.size)); clear hb3))
    go_ret
    exact ⟨by first | rfl | simp, HB3.out⟩
end Go.Proofs.YtjgpopjnmonlkaaGreatDoor
