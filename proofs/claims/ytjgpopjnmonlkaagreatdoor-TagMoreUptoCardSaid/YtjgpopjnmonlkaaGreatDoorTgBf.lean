import Derived.Test.YtjgpopjnmonlkaaGreatDoorTgBd
import Derived.Test.YtjgpopjnmonlkaaGreatDoorTgAa
import Derived.Test.YtjgpopjnmonlkaaGreatDoorTgQ
namespace Go.Proofs.YtjgpopjnmonlkaaGreatDoor
open Go.RowKit Go.Shelf
set_option linter.unusedSimpArgs false
set_option linter.unusedVariables false
set_option linter.unusedSectionVars false

/-! Layer 5: TagLists. -/
def backF (l : List ByteArray) : List ByteArray := l.reverse.flatMap fun t => [t, t]
theorem backF_snoc (t : ByteArray) (l : List ByteArray) : backF (t :: l) = backF l ++ [t, t] := by
  unfold backF
  rw [List.reverse_cons, List.flatMap_append]
  rfl
theorem back_contains (l : List ByteArray) (x : ByteArray) : Lib.containsS (backF l) x = Lib.containsS l x := by
  apply Bool.eq_iff_iff.2
  rw [Lib.containsS_iff, Lib.containsS_iff]
  unfold backF
  simp [List.mem_flatMap]
theorem backF_len (l : List ByteArray) : (backF l).length = 2 * l.length := by
  induction l with
  | nil => rfl
  | cons t l ih =>
    rw [backF_snoc, List.length_append, ih, List.length_cons]
    simp only [List.length_cons, List.length_nil]
    omega
/-- A row of texts that is owned, as tags. -/
theorem tags_own {w : World} {B n : Nat} {v : Value} {l : List ByteArray} (h : w.ownsRow B 9 1 v n (szs l)) (hn : n = l.length) : ∃ a cap, v = .slice a l.length cap ∧ TagsAt w a cap l := by
  rcases h.2 with ⟨rfl, h2⟩ | ⟨g, cap, cur, rfl, hb, hg, hc, _⟩
  · have : l = [] := List.eq_nil_of_length_eq_zero (by omega)
    subst this
    exact ⟨none, 0, rfl, .inl rfl⟩
  · subst hn
    refine ⟨some ⟨g, 0, none⟩, cap, rfl, .inr ⟨g, 0, rfl, lt_of_block hg, hc, fun j x hx => ?_⟩⟩
    have hj := (List.getElem?_eq_some_iff.mp hx).1
    rw [Nat.zero_add, h.cellAt j (by omega)]
    simp [szs, List.getElem?_map, hx]
set_option maxHeartbeats 1600000 in
theorem lists_big (x : Ex) (vs : List Value) (W : World) (hx : ExAt W (fun _ => True) x vs) (hs : x.size ≤ 1048576) (a : Option Addr) (cap n : Nat) (h : 200 < x.size ∨ 20 < n) :
    Calls Tryz.prog 7 #[.agg vs.toArray, .slice a n cap] W fun e w' => e = .returned (.bool true) ∧ Below W.heap.size W w' := by
  obtain ⟨op, tag, ka, kn, kc, rfl⟩ := hx.shape
  have hb1 : Below W.heap.size W (W.alloc (.cells #[.string op, .string tag, .slice ka kn kc] 24)) := (Below.refl _ _).alloc (Nat.le_refl _) _
  have HC := Lib.hid (size_v x _ _ _ (by omega) (hx.below hb1))
  have HB := Lib.hid hb1
  clear hx hb1
  generalize x.size = z at *
  by_cases hz : 200 < z
  · have hzi : (200 : Int) < (z : Int) := by omega
    go_enter Tryz.func7, Tryz.ntmps7
    go_wp2_with (go_at_call 8; (with_reducible refine Calls.mono HC.out ?_); rintro e w2 ⟨rfl, hb2⟩; have HB2 := Lib.hid (HB.out.trans (hb2.mono HB.out.size)); clear hb2)
    go_ret
    exact ⟨by first | rfl | simp, HB2.out⟩
  · have hn : 20 < n := by omega
    have hni : (20 : Int) < (n : Int) := by omega
    have hzi : ¬ (200 : Int) < (z : Int) := by omega
    clear h
    go_enter Tryz.func7, Tryz.ntmps7
    go_wp2_with (go_at_call 8; (with_reducible refine Calls.mono HC.out ?_); rintro e w2 ⟨rfl, hb2⟩; have HB2 := Lib.hid (HB.out.trans (hb2.mono HB.out.size)); clear hb2)
    go_ret
    exact ⟨by first | rfl | simp, HB2.out⟩
set_option maxRecDepth 100000 in
set_option maxHeartbeats 3200000 in
theorem lists_ok (x : Ex) (vs : List Value) (W : World) (hx : ExAt W (fun _ => True) x vs) (hs : x.size ≤ 200) (hf : x.fits) (a : Option Addr) (cap : Nat) (tags : List ByteArray) (ht : TagsAt W a cap tags) (hl : tags.length ≤ 20) (hE : EnvV W) :
    Calls Tryz.prog 7 #[.agg vs.toArray, .slice a tags.length cap] W fun e w' => e = .returned (.bool true) ∧ Below W.heap.size W w' := by
  obtain ⟨i0, hi0, hz0, hz1, hz2⟩ := info_parts info36g
  obtain ⟨op, tag, ka, kn, kc, rfl⟩ := hx.shape
  have hok : x.ok := ⟨by omega, hf⟩
  have h8 := hE.2.2.2
  obtain ⟨bx, hbx⟩ : ∃ bx, W.heap.size = bx := ⟨_, rfl⟩
  have hb1 : Below W.heap.size W (W.alloc (.cells #[.string op, .string tag, .slice ka kn kc] 24)) := (Below.refl _ _).alloc (Nat.le_refl _) _
  obtain ⟨w1, hw1⟩ : ∃ w1, W.alloc (.cells #[.string op, .string tag, .slice ka kn kc] 24) = w1 := ⟨_, rfl⟩
  have hsz1 : w1.heap.size = bx + 1 := by rw [← hbx, ← hw1]; simp
  have hbk : w1.heap[bx]? = some (.cells #[.string op, .string tag, .slice ka kn kc] 24 (0, 0)) := by rw [← hbx, ← hw1]; exact heap_alloc_new W _
  rw [hw1] at hb1
  obtain ⟨n, hn⟩ : ∃ n, tags.length = n := ⟨_, rfl⟩
  rw [hn] at hl ⊢
  have HC := Lib.hid (size_v x _ _ w1 (by omega) (hx.below hb1))
  have hzi : ¬ (200 : Int) < (x.size : Int) := by omega
  have hni : ¬ (20 : Int) < (n : Int) := by omega
  have HW1 := Lib.hid hw1
  have HB := Lib.hid hb1
  have HBK := Lib.hid hbk
  have HN := Lib.hid hn
  have HLT : Hid (W.heap.size = bx) := Lib.hid hbx
  have HS1 := Lib.hid hsz1
  have HX := Lib.hid hx
  have HT := Lib.hid ht
  have HE := Lib.hid hE
  have HOK := Lib.hid hok
  have HZ := Lib.hid hs
  clear hw1 hb1 hbk hn hbx hx ht hE hok hs hf hsz1
  generalize hzz : x.size = z at *
  have HZZ := Lib.hid hzz
  clear hzz
  rw [HLT.out]
  go_enter Tryz.func7, Tryz.ntmps7
  go_wp2_with (go_at_call 8; rw [HW1.out]; (with_reducible refine Calls.mono HC.out ?_); rintro e w2 ⟨rfl, hb2⟩; have HB2 := Lib.hid hb2; clear hb2)
  have hge2 := HB2.out.size
  go_loopw [5, 6] (fun bv iv wr => ∃ (j : Nat) (l : List ByteArray), iv = .int .i64 ((j : Int) - 1) ∧ j ≤ n ∧ l = backF (tags.drop j) ∧ wr.ownsRow (bx + 1) 9 1 bv l.length (szs l) ∧ Below (bx + 1) w2 wr) (fun _ iv _ => (intOf iv + 1).toNat)
  case atStart =>
    refine ⟨n, [], ?_, Nat.le_refl _, ?_, World.ownsRow_nil _ _ _ _, Below.refl _ _⟩
    · first | rfl | (simp; done) | (congr 1; omega)
    · rw [List.drop_eq_nil_of_le (by rw [HN.out]; omega)]; rfl
  case round =>
    obtain ⟨j, l, rfl, hj, hlj, hown, hbl⟩ := hrel
    have HL := Lib.hid hlj
    have HO := Lib.hid hown
    have HBL := Lib.hid hbl
    have hll : l.length = 2 * (n - j) := by rw [hlj, backF_len, List.length_drop, HN.out]
    have hge : bx + 1 ≤ wr.heap.size := by have := hbl.size; have := HS1.out; omega
    have hbw : Below W.heap.size W wr := (HB.out.trans (HB2.out.mono (by have := HS1.out; have := HLT.out; omega))).trans (hbl.mono (by have := HLT.out; omega))
    have HBW := Lib.hid hbw
    clear hlj hown hbl hbw
    cases j with
    | succ k =>
      have e1 : ((k + 1 : Nat) : Int) - 1 = (k : Int) := by omega
      rw [e1]
      obtain ⟨t, htk⟩ : ∃ t, tags[k]? = some t := ⟨_, List.getElem?_eq_getElem (by rw [HN.out]; omega)⟩
      rcases HT.out with h0 | ⟨b, o, rfl, hbb, hcap, hcl⟩
      · exfalso; have := HN.out; rw [h0] at this; simp at this; omega
      · have k0 := (HBW.out.cell (p := ⟨b, o + k, none⟩) hbb).trans (hcl k t htk)
        have hkc : k < cap := by have := HN.out; omega
        have HNX : Hid (backF (tags.drop k) = l ++ [t, t]) := Lib.hid (by
          have hd : tags.drop k = t :: tags.drop (k + 1) := by
            have hk := (List.getElem?_eq_some_iff.mp htk).1
            rw [List.drop_eq_getElem_cons hk]
            congr 1
            rw [List.getElem?_eq_getElem hk] at htk
            exact Option.some.inj htk
          rw [hd, backF_snoc, HL.out])
        have hll2 : l.length ≤ 40 := by omega
        obtain ⟨ln, hln⟩ : ∃ ln, l.length = ln := ⟨_, rfl⟩
        have HLN := Lib.hid hln
        have HO1 := HO
        rw [hln] at HO1
        have hkn : k < n := by omega
        have hkni : (k : Int) < (n : Int) := by omega
        have HB3 := Lib.hid (HBL.out)
        rw [hln] at hll2
        clear htk hcl hll hln
        go_wp2_with fail
        go_region_law (refine step_append_lies _ (by rfl) _ _ _ (by rfl) (bx + 1) 9 i0 _ 1 16 Tryz.underlying25 hi0 hz0 hz1 hz2 rfl (by decide) _ _ _ (by rfl) ((rowZ_kept HO1.out (show Below wr.heap.size wr wr.drew from ⟨rfl, rfl, rfl, Nat.le_refl _, fun _ _ => rfl⟩)).alloc _) ⟨wr.heap.size, 0, none⟩ 2 2 [.string t, .string t] (by rfl) (by rfl) (newsG (w := wr.drew)) (by simp [Value.oneCell']) (by omega) (by unfold maxLen; omega) (by omega) (by simp; omega) (wr.heap.size + 1) (by simp) ?_; intro gg cap3 w7 hown' hgrow hat hlt3)
        all_goals
          have HO2 : Hid (w7.ownsRow (bx + 1) 9 1 (.slice (some ⟨gg, 0, none⟩) (ln + 2) cap3) (l ++ [t, t]).length (szs (l ++ [t, t]))) := Lib.hid (by rw [List.length_append, HLN.out]; simpa [szs] using hown')
          have HB7 : Hid (Below (bx + 1) w2 w7) := Lib.hid (rowZ_below (w1 := wr.drew) (HBL.out.trans (show Below (bx + 1) wr wr.drew from ⟨rfl, rfl, rfl, Nat.le_refl _, fun _ _ => rfl⟩)) (rowZ_kept HO1.out (show Below wr.heap.size wr wr.drew from ⟨rfl, rfl, rfl, Nat.le_refl _, fun _ _ => rfl⟩)) hge hgrow)
          clear hown' hgrow hat
          go_wp2_with fail
          go_roundw
          case rel => exact ⟨k, l ++ [t, t], by go_num, by omega, HNX.out.symm, HO2.out, HB7.out⟩
          case measure => simp [intOf] <;> omega
    | zero =>
      rw [List.drop_zero] at HL
      obtain ⟨a2, cap2, rfl, htb⟩ := tags_own HO.out rfl
      have hll2 : l.length ≤ 40 := by omega
      have hR : HoldsF x l = HoldsF x tags := by
        unfold HoldsF
        rw [HL.out, holds_tags (back_contains tags)]
      have hEw : EnvV wr := HE.out.below HBW.out h8
      have hxw : ExAt wr (fun _ => True) x [.string op, .string tag, .slice ka kn kc] := HX.out.below HBW.out
      have htw : TagsAt wr a cap tags := HT.out.below HBW.out
      have h8w : 8 ≤ wr.heap.size := hEw.2.2.2
      have HOF := Lib.hid (fun (w' : World) (hb : Below wr.heap.size wr w') => of_v x _ _ w' (by have := HZZ.out; have := HZ.out; omega) (hxw.below hb))
      have HH1 := Lib.hid (fun (w' : World) (S : Nat → Prop) (us : List Value) (hb : Below wr.heap.size wr w') (hu : ExAt w' S x us) => Holds_v x us S w' a cap tags hu HOK.out (htw.below hb) (by have := HN.out; omega) (hEw.below hb h8w))
      have HH2 := Lib.hid (fun (w' : World) (S : Nat → Prop) (us : List Value) (hb : Below wr.heap.size wr w') (hu : ExAt w' S x us) => Holds_v x us S w' a2 cap2 l hu HOK.out (htb.below hb) (by omega) (hEw.below hb h8w))
      have HAW := Lib.hid (fun (w' : World) (hb : Below wr.heap.size wr w') => awake_v w' (hEw.below hb h8w))
      rw [hR] at HH2
      rw [HN.out] at HH1
      have HBX : Hid (∀ w', Below wr.heap.size wr w' → ∀ i, w'.cell? ⟨W.heap.size, i, none⟩ = #[Value.string op, .string tag, .slice ka kn kc][i]?) := Lib.hid (fun w' hb i => by
        rw [HLT.out, hb.cell (p := ⟨bx, i, none⟩) (by show bx < wr.heap.size; omega)]
        have := (HBL.out.cell (p := ⟨bx, i, none⟩) (by show bx < bx + 1; omega)).trans (HB2.out.cell (p := ⟨bx, i, none⟩) (by have := HS1.out; show bx < w1.heap.size; omega))
        rw [this]
        exact cell_of HBK.out i)
      have HBc : Hid (Below wr.heap.size wr wr.drew) := Lib.hid ⟨rfl, rfl, rfl, Nat.le_refl _, fun _ _ => rfl⟩
      have c0 := HBX.out _ (Below.refl _ _) 0
      have c1 := HBX.out _ (Below.refl _ _) 1
      have c2 := HBX.out _ (Below.refl _ _) 2
      clear hR hEw hxw htw htb hll
      generalize HoldsF x tags = R at *
      generalize hln : l.length = ln at *
      have HLN := Lib.hid hln
      clear hln
      cases R
      all_goals
        go_wp2_with fail
        go_region_law (first
          | (go_simp; go_at_call 9; (with_reducible refine Calls.mono (HOF.out _ HBc.out) ?_); rintro e w3 ⟨us, rfl, hex, hb3⟩; obtain ⟨o3, t3, a3, n3, c3, rfl⟩ := hex.shape; replace HBc := Lib.hid (HBc.out.trans (hb3.mono HBc.out.size)); have HEX := Lib.hid hex; have c0 := HBX.out _ HBc.out 0; have c1 := HBX.out _ HBc.out 1; have c2 := HBX.out _ HBc.out 2; clear hb3 hex)
          | (go_simp; go_at_call 12; (with_reducible refine Calls.mono (HH1.out _ _ _ HBc.out HEX.out) ?_); rintro e w4 ⟨rfl, hb4⟩; replace HBc := Lib.hid (HBc.out.trans (hb4.mono HBc.out.size)); have c0 := HBX.out _ HBc.out 0; have c1 := HBX.out _ HBc.out 1; have c2 := HBX.out _ HBc.out 2; clear hb4)
          | (go_simp; go_at_call 12; (with_reducible refine Calls.mono (HH2.out _ _ _ HBc.out HEX.out) ?_); rintro e w5 ⟨rfl, hb5⟩; replace HBc := Lib.hid (HBc.out.trans (hb5.mono HBc.out.size)); have c0 := HBX.out _ HBc.out 0; have c1 := HBX.out _ HBc.out 1; have c2 := HBX.out _ HBc.out 2; clear hb5)
          | (go_simp; go_at_call 15; (with_reducible refine Calls.mono (HAW.out _ HBc.out) ?_); rintro e w6 ⟨rfl, hb6⟩; replace HBc := Lib.hid (HBc.out.trans (hb6.mono HBc.out.size)); clear hb6))
      all_goals
        go_wp2_with fail
        go_ret
        exact ⟨by first | rfl | simp, by rw [← HLT.out]; exact HBW.out.trans (HBc.out.mono (by have := HBW.out.size; omega))⟩
theorem lists_v (x : Ex) (vs : List Value) (a : Option Addr) (cap : Nat) (tags : List ByteArray) (W : World) (hx : ExAt W (fun _ => True) x vs) (hs : x.size ≤ 1048576) (hf : x.fits) (ht : TagsAt W a cap tags) (hE : EnvV W) :
    Calls Tryz.prog 7 #[.agg vs.toArray, .slice a tags.length cap] W fun e w' => e = .returned (.bool true) ∧ Below W.heap.size W w' := by
  by_cases h : 200 < x.size ∨ 20 < tags.length
  · exact lists_big x vs W hx hs a cap _ h
  · exact lists_ok x vs W hx (by omega) hf a cap tags ht (by omega) hE
end Go.Proofs.YtjgpopjnmonlkaaGreatDoor
