import Derived.Test.YtjgpopjnmonlkaaGreatDoorTgH
import Derived.Deep.OwnRows
import Derived.OwnWalk
import Derived.Deep.AppendLies
namespace Go.Proofs.YtjgpopjnmonlkaaGreatDoor
open Go.RowKit Go.Shelf
set_option linter.unusedSimpArgs false
set_option linter.unusedVariables false
set_option linter.unusedSectionVars false

/-! Layer 5: the least version. -/
def izs (l : List Int) : List Value := l.map fun z => Value.int .i64 z
theorem izs_len (l : List Int) : (izs l).length = l.length := by simp [izs]
theorem info64g : (Tryz.prog.info? 3).map (fun i => (i.zero, i.size, i.bytes)) = some (some (.int .i64 0), 1, 8) := by kernel_rfl
theorem newsG {w : World} {vs : List Value} {t : TypeId} : ∀ j u, vs[j]? = some u → (w.alloc (.cells vs.toArray t)).cell? ((⟨w.heap.size, 0, none⟩ : Addr).add j) = some u :=
  World.news_of_block (cs := vs.toArray) (heap_alloc_new w _)
theorem rowZ_slice {w : World} {base e size n : Nat} {v : Value} {xs : List Value} (h : w.ownsRow base e size v n xs) (hn : 0 < n) : ∃ g cap, v = .slice (some ⟨g, 0, none⟩) n cap ∧ g < w.heap.size ∧ n ≤ cap := by
  rcases h.2 with ⟨rfl, h2⟩ | ⟨g, cap, cur, rfl, hb, hg, hc, _⟩
  · omega
  · exact ⟨g, cap, rfl, lt_of_block hg, hc⟩
theorem rowZ_below {B : Nat} {e size : Nat} {w w1 w2 : World} {v : Value} {n : Nat} {xs : List Value} {o : Obj} (h : Below B w w1) (hown : w1.ownsRow B e size v n xs) (hB : B ≤ w1.heap.size) (hg : (w1.alloc o).grownBy w2 v.ownBlock) : Below B w w2 := by
  refine (h.alloc (by have := h.size; omega) o).grown hg (by simp; omega) ?_
  intro k hk
  exact (hown.lt k hk).1
theorem rowZ_kept {B : Nat} {e : TypeId} {k : Nat} {v : Value} {n : Nat} {xs : List Value} {w w' : World} (h : w.ownsRow B e k v n xs) (hb : Below w.heap.size w w') : w'.ownsRow B e k v n xs :=
  h.kept (row := none) ⟨hb.os, hb.tape, hb.output, hb.size, fun j hj _ => hb.block j hj⟩ (by cases hv : v.ownBlock <;> simp)
theorem Ex.rt.kids {op tag : ByteArray} {kids : List Ex} (h : (Ex.node op tag kids).rt) : ∀ k ∈ kids, k.rt := by
  rcases h.cases with ⟨_, rfl⟩ | ⟨_, k, rfl, hk⟩ | ⟨_, _, hk⟩ | ⟨_, _, hk⟩
  · intro k hk; cases hk
  · intro k' hk'
    rw [List.mem_singleton.mp hk']; exact hk
  · exact hk
  · exact hk
def LeastC (m : Nat) : Prop := ∀ (x : Ex) (vs : List Value) (S : Nat → Prop) (W : World), x.size ≤ m → ExAt W S x vs → x.ok → x.rt → EnvV W →
  Calls Tryz.prog 25 #[.agg vs.toArray] W fun e w' => e = .returned (.int .i64 (leastF relF x)) ∧ Below W.heap.size W w'
theorem leastF_nil (rel : ByteArray → Int) (tag : ByteArray) (kids : List Ex) : leastF rel (.node ⟨#[]⟩ tag kids) = rel tag := by rw [leastF, if_neg (by decide), if_neg (by decide), if_neg (by decide)]
theorem leastF_not (rel : ByteArray → Int) (tag : ByteArray) (kids : List Ex) : leastF rel (.node ⟨#[33]⟩ tag kids) = -1 := by rw [leastF, if_pos (show (⟨#[33]⟩ : ByteArray) = opNot from rfl)]
theorem leastF_and (rel : ByteArray → Int) (tag : ByteArray) (kids : List Ex) : leastF rel (.node ⟨#[38, 38]⟩ tag kids) = Lib.maxOf (kids.map (leastF rel)) := by rw [leastF, if_neg (by decide), if_pos (show (⟨#[38, 38]⟩ : ByteArray) = opAnd from rfl), leastL_map]
theorem leastF_or (rel : ByteArray → Int) (tag : ByteArray) (kids : List Ex) : leastF rel (.node ⟨#[124, 124]⟩ tag kids) = Lib.minOf (kids.map (leastF rel)) := by rw [leastF, if_neg (by decide), if_neg (by decide), if_pos (show (⟨#[124, 124]⟩ : ByteArray) = opOr from rfl), leastL_map]
theorem max_row (B : Nat) (v : Value) (zs : List Int) (w : World) (h : w.ownsRow B 3 1 v zs.length (izs zs)) (hn : 0 < zs.length) (hl : zs.length ≤ 1000000) :
    Calls Tryz.prog 36 #[v] w fun e w' => e = .returned (.int .i64 (Lib.maxOf zs)) ∧ w' = w := by
  obtain ⟨g, cap, rfl, hg, hc⟩ := rowZ_slice h hn
  have := Tryz.slices_Max_int g 0 zs.length cap zs w hn (Nat.le_refl _) (by omega) (fun j hj => by
    rw [Nat.zero_add, h.cellAt j (by omega)]
    simp [izs, List.getElem?_map, List.getD_eq_getElem?_getD, List.getElem?_eq_getElem hj])
  rw [List.take_length] at this
  exact this
theorem min_row (B : Nat) (v : Value) (zs : List Int) (w : World) (h : w.ownsRow B 3 1 v zs.length (izs zs)) (hn : 0 < zs.length) (hl : zs.length ≤ 1000000) :
    Calls Tryz.prog 37 #[v] w fun e w' => e = .returned (.int .i64 (Lib.minOf zs)) ∧ w' = w := by
  obtain ⟨g, cap, rfl, hg, hc⟩ := rowZ_slice h hn
  have := Tryz.slices_Min_int g 0 zs.length cap zs w hn (Nat.le_refl _) (by omega) (fun j hj => by
    rw [Nat.zero_add, h.cellAt j (by omega)]
    simp [izs, List.getElem?_map, List.getD_eq_getElem?_getD, List.getElem?_eq_getElem hj])
  rw [List.take_length] at this
  exact this
set_option maxRecDepth 100000 in
set_option maxHeartbeats 3200000 in
theorem least_succ (m : Nat) (hr : LeastC m) : LeastC (m + 1) := by
  intro x vs S W hm hex hok hrt hE
  obtain ⟨i0, hi0, hz0, hz1, hz2⟩ := info_parts info64g
  cases x with
  | node op tag kids =>
    obtain ⟨a, cap, rfl, hrow⟩ := hex.row
    obtain ⟨hkl, hol, htgl⟩ := hok.len
    obtain ⟨bx, hbx⟩ : ∃ bx, W.heap.size = bx := ⟨_, rfl⟩
    have hb1 : Below W.heap.size W (W.alloc (.cells #[.string op, .string tag, .slice a kids.length cap] 29)) := (Below.refl _ _).alloc (Nat.le_refl _) _
    have hsz1 : (W.alloc (.cells #[.string op, .string tag, .slice a kids.length cap] 29)).heap.size = bx + 1 := by rw [← hbx]; simp
    have hbk : (W.alloc (.cells #[.string op, .string tag, .slice a kids.length cap] 29)).heap[bx]? = some (.cells #[.string op, .string tag, .slice a kids.length cap] 29 (0, 0)) := by rw [← hbx]; exact heap_alloc_new W _
    have hE1 : EnvV (W.alloc (.cells #[.string op, .string tag, .slice a kids.length cap] 29)) := hE.below hb1 hE.2.2.2
    have h8 := hE.2.2.2
    have hrow1 := hrow.below hb1
    have hkrt := hrt.kids
    have h8b : 8 ≤ bx := by omega
    obtain ⟨n, hn⟩ : ∃ n, kids.length = n := ⟨_, rfl⟩
    rw [hn] at hb1 hsz1 hbk hE1 hrow1 ⊢
    obtain ⟨w1, hw1⟩ : ∃ w1, W.alloc (.cells #[.string op, .string tag, .slice a n cap] 29) = w1 := ⟨_, rfl⟩
    rw [hw1] at hb1 hsz1 hbk hE1 hrow1
    have HN := Lib.hid hn
    have HB := Lib.hid hb1
    have HBK := Lib.hid hbk
    have HE := Lib.hid hE1
    have HROW := Lib.hid hrow1
    have HW1 := Lib.hid hw1
    have HS1 := Lib.hid hsz1
    have HKID := Lib.hid (fun (k : Ex) (hk : k ∈ kids) (us : List Value) (W' : World) (hx : ExAt W' S k us) (hE' : EnvV W') => hr k us S W' (by have := (hok.kid hk).2; omega) hx (hok.kid hk).1 (hkrt k hk) hE')
    have hnl : n ≤ 100000 := by omega
    have HREL := Lib.hid (fun (w' : World) (hb : Below (bx + 1) w1 w') => release_v tag w' (by omega) (hE1.below hb (by omega)))
    have HCASE := Lib.hid hrt.cases
    have HLT : Hid (W.heap.size = bx) := Lib.hid hbx
    clear hb1 hsz1 hbk hE1 hrow1 hrow hex hok hrt hE hr hm hkl hol htgl hn hw1 hkrt hbx
    rw [HLT.out]
    go_enter Tryz.func25, Tryz.ntmps25
    go_wp2_with fail
    go_loopw [3, 9] (fun rv kv wr => ∃ (k : Nat) (l : List Int), kv = .int .i64 k ∧ k ≤ n ∧ l = (kids.take k).map (leastF relF) ∧ wr.ownsRow (bx + 1) 3 1 rv l.length (izs l) ∧ Below (bx + 1) w1 wr) (fun _ kv _ => n - (intOf kv).toNat)
    case atStart => exact ⟨0, [], rfl, by omega, rfl, World.ownsRow_nil _ _ _ _, by rw [HW1.out]; exact Below.refl _ _⟩
    case round =>
      obtain ⟨k, l, rfl, hk, hl, hown, hbl⟩ := hrel
      have HL := Lib.hid hl
      have HO := Lib.hid hown
      have HBL := Lib.hid hbl
      have hlen : l.length = k := by rw [hl, List.length_map, List.length_take]; have := HN.out; omega
      have hge : bx + 1 ≤ wr.heap.size := by have := hbl.size; have := HS1.out; omega
      clear hl hown hbl
      by_cases hlt : k < n
      · have hlti : (k : Int) < (n : Int) := by omega
        obtain ⟨x, hx⟩ : ∃ x, kids[k]? = some x := ⟨_, List.getElem?_eq_getElem (by rw [HN.out]; exact hlt)⟩
        rcases HROW.out with h0 | ⟨b, o, rfl, hS, hbb, hcap, hkids⟩
        · exfalso; have := HN.out; rw [h0] at this; simp at this; omega
        · have hbb1 : b < bx + 1 := by have := HS1.out; omega
          obtain ⟨vs, hvl, hxk, hcl⟩ := KidsAt.get kids o k x hkids hx
          obtain ⟨op2, tag2, a2, n2, cap2, rfl⟩ := hxk.shape
          have k0 := (HBL.out.cell (p := ⟨b, o + k * 3, none⟩) hbb1).trans (hcl 0 _ rfl)
          have k1 := (HBL.out.cell (p := ⟨b, o + k * 3 + 1, none⟩) hbb1).trans (hcl 1 _ rfl)
          have k2 := (HBL.out.cell (p := ⟨b, o + k * 3 + 2, none⟩) hbb1).trans (hcl 2 _ rfl)
          have hkc : k < cap := by have := HN.out; omega
          have hb5 : Below wr.heap.size wr (wr.alloc (.cells #[.string op2, .string tag2, .slice a2 n2 cap2] 29)) := (Below.refl _ _).alloc (Nat.le_refl _) _
          have hx5 : ExAt (wr.alloc (.cells #[.string op2, .string tag2, .slice a2 n2 cap2] 29)) S x [.string op2, .string tag2, .slice a2 n2 cap2] := (hxk.keep (Same.of_below (by have := HBL.out; rw [← HS1.out] at this; exact this)) (fun _ h _ => h) x _).below hb5
          have HC := Lib.hid (HKID.out x (List.mem_of_getElem? hx) [.string op2, .string tag2, .slice a2 n2 cap2] _ hx5 (HE.out.below (HBL.out.trans (hb5.mono hge)) (by omega)))
          have HO5 := Lib.hid (rowZ_kept HO.out hb5)
          have HB5 := Lib.hid (HBL.out.trans (hb5.mono hge))
          have HNX : Hid ((kids.take (k + 1)).map (leastF relF) = l ++ [leastF relF x]) := Lib.hid (by rw [List.take_add_one, hx, HL.out]; simp)
          have hsz5 : (wr.alloc (.cells #[.string op2, .string tag2, .slice a2 n2 cap2] 29)).heap.size = wr.heap.size + 1 := by simp
          clear hx hkids hxk hcl hx5 hvl hb5
          generalize leastF relF x = z at *
          go_wp2_with (first
            | (go_at_call 25; with_reducible refine Calls.mono HC.out ?_; rintro e w6 ⟨rfl, hb6⟩; have HO6 := Lib.hid (rowZ_kept HO5.out hb6); have HB6 := Lib.hid (HB5.out.trans (hb6.mono (by rw [hsz5]; omega))); have hge6 := hb6.size; rw [hsz5] at hge6; clear hb6)
            | (at_builtin; refine wpList_append_own _ rfl _ _ 54 rfl (bx + 1) 3 i0 (.int .i64 0) 1 8 Tryz.underlying54 hi0 hz0 hz1 hz2 rfl (by decide) _ _ _ rfl (HO6.out.alloc _) ⟨w6.heap.size, 0, none⟩ 1 1 [.int .i64 z] rfl rfl newsG ?c2 ?c3 ?c4 ?c5 ?_))
          case c2 => intro u hu; simp at hu; subst hu; rfl
          case c3 => unfold maxLen; omega
          case c4 => omega
          case c5 => simp; omega
          intro v' w7 hown' hgrow _
          have HO7 : Hid (w7.ownsRow (bx + 1) 3 1 v' (l ++ [z]).length (izs (l ++ [z]))) := Lib.hid (by simpa [izs, hlen] using hown')
          have HB7 : Hid (Below (bx + 1) w1 w7) := Lib.hid (rowZ_below HB6.out HO6.out (by omega) hgrow)
          clear hown' hgrow
          go_wp2_with fail
          go_roundw
          case rel => exact ⟨k + 1, l ++ [z], by go_num, by omega, HNX.out.symm, HO7.out, HB7.out⟩
          case measure => simp [intOf]; omega
      · have hke : k = n := by omega
        have hlti : ¬ (k : Int) < (n : Int) := by omega
        have hle : l = kids.map (leastF relF) := by rw [HL.out, hke, ← HN.out, List.take_length]
        have c0 : wr.cell? ⟨W.heap.size, 0, none⟩ = some (.string op) := by rw [HLT.out]; exact (HBL.out.cell (p := ⟨bx, 0, none⟩) (by show bx < bx + 1; omega)).trans (cell_of HBK.out 0)
        have c1 : wr.cell? ⟨W.heap.size, 1, none⟩ = some (.string tag) := by rw [HLT.out]; exact (HBL.out.cell (p := ⟨bx, 1, none⟩) (by show bx < bx + 1; omega)).trans (cell_of HBK.out 1)
        have HBF : Hid (Below bx W wr) := Lib.hid (by have := HB.out; rw [HLT.out] at this; exact this.trans (HBL.out.mono (by omega)))
        have hgb : bx ≤ wr.heap.size := by omega
        rcases HCASE.out with ⟨rfl, hkk⟩ | ⟨rfl, kk, hkk, _⟩ | ⟨rfl, h2, _⟩ | ⟨rfl, h2, _⟩
        · have hF := leastF_nil relF tag kids
          have HR := Lib.hid (HREL.out wr HBL.out)
          have HF := Lib.hid hF
          clear HL hle hF hkk
          generalize relF tag = z at *
          go_wp2_with (go_at_call 34; with_reducible refine Calls.mono HR.out ?_; rintro e w6 ⟨rfl, hb6⟩; have HB6 := Lib.hid (HBF.out.trans (hb6.mono hgb)); clear hb6)
          go_ret
          exact ⟨by rw [HF.out]; rfl, HB6.out⟩
        · have HF := Lib.hid (leastF_not relF tag kids)
          clear HL hle hkk
          go_wp2_with fail
          go_ret
          exact ⟨by rw [HF.out]; rfl, HBF.out⟩
        · have hF := leastF_and relF tag kids
          rw [← hle] at hF
          have HR := Lib.hid (fun (v0 : Value) (w0 : World) h => max_row (bx + 1) v0 l w0 h (by have := HN.out; omega) (by omega))
          have HF := Lib.hid hF
          clear HL hle hF
          go_wp2_with (go_at_call 36; with_reducible refine Calls.mono (HR.out _ _ HO.out) ?_; rintro e w6 ⟨rfl, hw6⟩; replace hw6 := hw6.symm; subst hw6)
          go_ret
          exact ⟨by rw [HF.out]; rfl, HBF.out⟩
        · have hF := leastF_or relF tag kids
          rw [← hle] at hF
          have HR := Lib.hid (fun (v0 : Value) (w0 : World) h => min_row (bx + 1) v0 l w0 h (by have := HN.out; omega) (by omega))
          have HF := Lib.hid hF
          clear HL hle hF
          go_wp2_with (go_at_call 37; with_reducible refine Calls.mono (HR.out _ _ HO.out) ?_; rintro e w6 ⟨rfl, hw6⟩; replace hw6 := hw6.symm; subst hw6)
          go_ret
          exact ⟨by rw [HF.out]; rfl, HBF.out⟩
end Go.Proofs.YtjgpopjnmonlkaaGreatDoor
