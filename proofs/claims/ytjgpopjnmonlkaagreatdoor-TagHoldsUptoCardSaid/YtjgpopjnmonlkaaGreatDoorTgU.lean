import Derived.Test.YtjgpopjnmonlkaaGreatDoorTgT
namespace Go.Proofs.YtjgpopjnmonlkaaGreatDoor
open Go.RowKit Go.Shelf
set_option linter.unusedSimpArgs false
set_option linter.unusedVariables false
set_option linter.unusedSectionVars false

/-! Layer 5: the reader: rows with a sign between. -/
def restLen (W : World) (rb : Nat) : Nat := match W.heap[rb]? with
  | some (.cells c _ _) => (match c[0]? with | some (Value.string s) => s.size | _ => 0)
  | _ => 0
theorem restLen_of {W : World} {rb d : Nat} {l : List UInt8} (h : RdAt W rb l d) : restLen W rb = l.length := by
  unfold restLen RdAt at *
  rw [h]
  exact bs_size l
theorem kids_one {w1 : World} {B rb : Nat} {x : Ex} {vs : List Value} (hx : ExAt w1 (fun b => B ≤ b) x vs) (hB : B ≤ w1.heap.size) :
    KidsI B rb (w1.alloc (.cells vs.toArray 29)) (.slice (some ⟨w1.heap.size, 0, none⟩) 1 1) [x] := by
  refine ⟨[vs], ?_, ?_⟩
  · have h := World.ownsRow_lit (base := B) (e := 29) (size := 3) w1 vs.toArray 1 hB (by unfold maxLen; decide) (by simp [hx.len])
    have hf : flat [vs] = vs := by simp [flat]
    rw [hf]
    simpa using h
  · have h := (All3.nil (w1.alloc (.cells vs.toArray 29)) (fun b => B ≤ b ∧ Value.ownBlock (.slice (some ⟨w1.heap.size, 0, none⟩) 1 1) ≠ some b)).snoc (k := x) (v := vs) ?_
    · simpa using h
    · refine hx.keep (Same.of_below ((Below.refl _ _).alloc (Nat.le_refl _) _)) (fun b hb hlt => ⟨hb, fun e => ?_⟩) x vs
      have : w1.heap.size = b := by simpa [Value.ownBlock] using e
      omega
theorem KidsI.shape {B rb : Nat} {w : World} {rv : Value} {acc : List Ex} (h : KidsI B rb w rv acc) (h1 : 1 ≤ acc.length) : ∃ g cap, rv = .slice (some ⟨g, 0, none⟩) acc.length cap ∧ g < w.heap.size ∧ B ≤ g ∧ acc.length ≤ cap := by
  obtain ⟨lvs, ho, _⟩ := h
  obtain ⟨g, cap, rfl, hg, hc⟩ := rowZ_slice ho (by omega)
  exact ⟨g, cap, rfl, hg, (ho.lt g rfl).1, hc⟩
theorem oneOr_one (op : ByteArray) (x : Ex) : oneOr op [x] = x := rfl
theorem oneOr_more (op : ByteArray) (acc : List Ex) (h : 2 ≤ acc.length) : oneOr op acc = .node op nilB acc := by
  match acc, h with
  | x :: y :: l, _ => rfl
/-- What the row is, as a constraint in memory. -/
theorem KidsI.one {B rb : Nat} {w : World} {rv : Value} {acc : List Ex} (h : KidsI B rb w rv acc) (h1 : acc.length = 1) : ∃ x g cap o t a n c, acc = [x] ∧ rv = .slice (some ⟨g, 0, none⟩) 1 cap ∧ 1 ≤ cap ∧ ExAt w (fun b => B ≤ b) x [.string o, .string t, .slice a n c] ∧ w.cell? ⟨g, 0, none⟩ = some (.string o) ∧ w.cell? ⟨g, 1, none⟩ = some (.string t) ∧ w.cell? ⟨g, 2, none⟩ = some (.slice a n c) := by
  obtain ⟨lvs, ho, hal⟩ := h
  obtain ⟨x, rfl⟩ := List.length_eq_one_iff.mp h1
  obtain ⟨vs, rfl⟩ := List.length_eq_one_iff.mp (hal.1.trans h1)
  obtain ⟨g, cap, rfl, hg, hc⟩ := rowZ_slice ho (by rw [h1]; decide)
  have hx := hal.2 0 x vs rfl rfl
  have hx2 := hx.keep (T := fun b => B ≤ b) (Same.of_below (Below.refl _ _)) (fun b hb _ => hb.1) x vs
  obtain ⟨o, t, a, n, c, rfl⟩ := hx.shape
  rw [h1] at ho hc
  have hf : flat [[Value.string o, .string t, .slice a n c]] = [Value.string o, .string t, .slice a n c] := by simp [flat]
  rw [hf] at ho
  exact ⟨x, g, cap, o, t, a, n, c, rfl, by rw [h1], hc, hx2, ho.cellAt 0 (by decide), ho.cellAt 1 (by decide), ho.cellAt 2 (by decide)⟩
theorem KidsI.more {B rb : Nat} {w : World} {rv : Value} {acc : List Ex} (h : KidsI B rb w rv acc) (op tag : ByteArray) : ExAt w (fun b => B ≤ b) (.node op tag acc) [.string op, .string tag, rv] := by
  obtain ⟨lvs, ho, hal⟩ := h
  exact (hal.keep (T := fun b => B ≤ b) (Same.of_below (Below.refl _ _)) (fun b hb _ => hb.1)).kids ho (fun g hg => (ho.lt g hg).1) op tag
/-- What is asked of the closure. -/
def PartC (f : Nat) (p : Value) (part : Part) (rb d : Nat) (W : World) : Prop := ∀ (W' : World) (l' : List UInt8), W.grownBy W' (some rb) → RdAt W' rb l' d → l'.length ≤ 1000 → Calls Tryz.prog f #[p] W' fun e w' => PartP W' rb d (part l') e w'
set_option maxRecDepth 100000 in
set_option maxHeartbeats 3200000 in
theorem row_and (rb : Nat) (l : List UInt8) (d : Nat) (W : World) (part : Part) (op : List UInt8) (pa : Addr) (h : RdAt W rb l d) (hl : l.length ≤ 1000)
    (hdec : ∀ l x r, part l = some (x, r) → r.length < l.length) (hp : PartC 56 (.pointer (some pa)) part rb d W) :
    Calls Tryz.prog 54 #[.pointer (some ⟨rb, 0, none⟩), .string (bs op), .func (.func 56) #[.pointer (some pa)] #[]] W fun e w' => PartP W rb d (rowF part (bs op) l) e w' := by
  obtain ⟨i0, hi0, hz0, hz1, hz2⟩ := info_parts info24g
  have hrl := lt_of_block h
  obtain ⟨W0, hW0⟩ : ∃ W0, W.alloc (.cells #[.string ⟨#[]⟩, .string ⟨#[]⟩, .slice none 0 0] 29) = W0 := ⟨_, rfl⟩
  have hb1 : Below W.heap.size W W0 := by rw [← hW0]; exact (Below.refl _ _).alloc (Nat.le_refl _) _
  have hsz0 : W0.heap.size = W.heap.size + 1 := by rw [← hW0]; simp
  have hbox : W0.heap[W.heap.size]? = some (.cells #[.string ⟨#[]⟩, .string ⟨#[]⟩, .slice none 0 0] 29 (0, 0)) := by rw [← hW0]; exact heap_alloc_new W _
  have hg0 : W.grownBy W0 (some rb) := grow_of hb1 _
  have hfirst := hp W0 l hg0 (h.below hb1) hl
  have HW0 := Lib.hid hW0
  have HBOX := Lib.hid hbox
  have HG0 := Lib.hid hg0
  have HDEC := Lib.hid hdec
  have HP := Lib.hid hp
  clear h hp hb1 hW0 hbox hg0 hdec
  unfold rowF
  rw [bs_list]
  cases hpl : part l with
  | none =>
    rw [hpl] at hfirst
    have HF := Lib.hid hfirst
    clear hfirst hpl
    go_enter Tryz.func54, Tryz.ntmps54
    go_wp2_with (go_at_call 56; rw [HW0.out]; (with_reducible refine Calls.mono HF.out ?_); rintro e w2 ⟨hg2, hth⟩; unfold thrown at hth; subst hth; have HG2 := Lib.hid hg2; clear hg2)
    exact ⟨rfl, HG0.out.trans HG2.out, rfl⟩
  | some xr =>
    obtain ⟨x, r⟩ := xr
    rw [hpl] at hfirst
    have HF := Lib.hid hfirst
    have hrl1 := HDEC.out l x r hpl
    clear hfirst hpl
    simp only
    obtain ⟨RES, hRES⟩ : ∃ RES, rowLoop part op (r.length + 1) r [x] = RES := ⟨_, rfl⟩
    have HRES := Lib.hid hRES
    rw [hRES]
    clear hRES
    go_enter Tryz.func54, Tryz.ntmps54
    go_wp2_with (go_at_call 56; rw [HW0.out]; (with_reducible refine Calls.mono HF.out ?_); rintro e w2 ⟨hg2, vs, rfl, hx2, hr2⟩; obtain ⟨xo, xt, xa, xn, xc, rfl⟩ := hx2.shape; have HG2 := Lib.hid hg2; have HX2 := Lib.hid hx2; have HR2 := Lib.hid hr2; clear hg2 hx2 hr2)
    have HA2 := Lib.hid (show Below w2.heap.size w2 (w2.alloc (.cells #[.string xo, .string xt, .slice xa xn xc] 29)) from (Below.refl _ _).alloc (Nat.le_refl _) _)
    have hge2 := HG2.out.size
    have HK2 := Lib.hid (kids_one (rb := rb) HX2.out hge2)
    go_loopw [7] (fun rv wr => ∃ (m : Nat) (l : List UInt8) (acc : List Ex), RdAt wr rb l d ∧ l.length ≤ 1000 ∧ l.length < m ∧ 1 ≤ acc.length ∧ acc.length + l.length ≤ 1001 ∧ rowLoop part op m l acc = RES ∧ KidsI W0.heap.size rb wr rv acc ∧ W0.grownBy wr (some rb)) (fun _ wr => restLen wr rb)
    case atStart => exact ⟨r.length + 1, r, [x], HR2.out.below HA2.out, by omega, by omega, by simp, by simp; omega, HRES.out, HK2.out, HG2.out.trans (grow_of HA2.out _)⟩
    case round =>
      obtain ⟨m, l3, acc, hr3, hl3, hm, ha1, ha2, hres, hk3, hg3⟩ := hrel
      obtain ⟨m, rfl⟩ : ∃ k, m = k + 1 := ⟨m - 1, by omega⟩
      obtain ⟨g, cap, rfl, hgl, hgB, hgc⟩ := hk3.shape ha1
      have HT := Lib.hid (takes_v rb l3 op d wr hr3)
      have hml := restLen_of hr3
      have HK3 := Lib.hid hk3
      have HG3 := Lib.hid hg3
      have hwz := hg3.size
      have htl := takes_len op l3
      rw [rowLoop] at hres
      clear HRES HK2 HA2 HX2 HR2 HF hr3 hk3 hg3
      cases htb : takesB op l3 with
      | false =>
        rw [htb] at HT hres
        rw [if_neg (by decide)] at hres
        have HRES := Lib.hid hres
        generalize takesL op l3 = l4 at *
        have HBW : Hid (∀ w5, wr.grownBy w5 (some rb) → w5.heap[W.heap.size]? = some (.cells #[.string ⟨#[]⟩, .string ⟨#[]⟩, .slice none 0 0] 29 (0, 0))) := Lib.hid (fun w5 hg => by
          rw [(HG3.out.trans hg).block W.heap.size (by omega) (fun e => by cases e; omega)]
          exact HBOX.out)
        by_cases h1 : acc.length = 1
        · obtain ⟨x1, g1, cap1, xo1, xt1, xa1, xn1, xc1, rfl, hgg, hcc1, _⟩ := HK3.out.one h1
          simp only [List.length_singleton] at *
          cases hgg
          have HRE2 : Hid (RES = some ([x1], l4)) := Lib.hid HRES.out.symm
          go_wp2_with (go_at_call 67; (with_reducible refine Calls.mono HT.out ?_); rintro e w5 ⟨rfl, hr5, hg5⟩; have HR5 := Lib.hid hr5; have HG5 := Lib.hid hg5; have hk5 := HK3.out.far hg5 (by omega); have hz5 := HBW.out _ hg5; clear hr5 hg5; obtain ⟨x9, g9, c9, yo, yt, ya, yn, yc, hx9, hg9, _, hx5, k0, k1, k2⟩ := hk5.one rfl; cases hx9; cases hg9; have HX5 := Lib.hid hx5; have HZ5 := Lib.hid hz5; have y0 := cell_of hz5 0; have y1 := cell_of hz5 1; have y2 := cell_of hz5 2; have u0 := free_of hz5 0; have u1 := free_of hz5 1; have u2 := free_of hz5 2; clear hx5 hz5 hk5)
          obtain ⟨p1, p2⟩ := put3_at HZ5.out (.string yo) (.string yt) (.slice ya yn yc)
          have hgw : W.grownBy _ (some rb) := grown_new ((HG0.out.trans HG3.out).trans HG5.out) p2 (Nat.le_refl _)
          have hrd := HR5.out.far p2 (by omega)
          have hxw := HX5.out.keep (T := fun b => W.heap.size ≤ b) (W' := put3 _ _ _ _ _) ⟨p2.size, fun b hb hlt => p2.block b hlt (fun e => by cases e; omega)⟩ (fun b hb _ => by omega) _ _
          have r0 := cell_of p1 0
          have r1 := cell_of p1 1
          have r2 := cell_of p1 2
          unfold put3 at *
          refine bodyPost_ret (v := .agg #[.string yo, .string yt, .slice ya yn yc]) ?_ rfl ?_
          · simp [results, Tryz.results54, go_sem, r0, r1, r2]
          · rw [HRE2.out]
            exact ⟨hgw, ⟨[.string yo, .string yt, .slice ya yn yc], rfl, hxw, hrd⟩⟩
        · have hac : 2 ≤ acc.length := by omega
          have hne1 : ¬ (acc.length : Int) = 1 := by omega
          have HRE2 : Hid (RES = some (acc, l4)) := Lib.hid HRES.out.symm
          have HONE := Lib.hid (oneOr_more (bs op) acc hac)
          go_wp2_with (go_at_call 67; (with_reducible refine Calls.mono HT.out ?_); rintro e w5 ⟨rfl, hr5, hg5⟩; have HR5 := Lib.hid hr5; have HG5 := Lib.hid hg5; have hk5 := HK3.out.far hg5 (by omega); have hz5 := HBW.out _ hg5; clear hr5 hg5; have HX5 := Lib.hid (hk5.more (bs op) nilB); have HZ5 := Lib.hid hz5; have y0 := cell_of hz5 0; have y1 := cell_of hz5 1; have y2 := cell_of hz5 2; have u0 := free_of hz5 0; have u1 := free_of hz5 1; have u2 := free_of hz5 2; clear hz5 hk5)
          obtain ⟨p1, p2⟩ := put3_at HZ5.out (.string (bs op)) (.string ⟨#[]⟩) (.slice (some ⟨g, 0, none⟩) acc.length cap)
          have hgw : W.grownBy _ (some rb) := grown_new ((HG0.out.trans HG3.out).trans HG5.out) p2 (Nat.le_refl _)
          have hrd := HR5.out.far p2 (by omega)
          have hxw := HX5.out.keep (T := fun b => W.heap.size ≤ b) (W' := put3 _ _ _ _ _) ⟨p2.size, fun b hb hlt => p2.block b hlt (fun e => by cases e; omega)⟩ (fun b hb _ => by omega) _ _
          have r0 := cell_of p1 0
          have r1 := cell_of p1 1
          have r2 := cell_of p1 2
          unfold put3 at *
          refine bodyPost_ret (v := .agg #[.string (bs op), .string ⟨#[]⟩, .slice (some ⟨g, 0, none⟩) acc.length cap]) ?_ rfl ?_
          · simp [results, Tryz.results54, go_sem, r0, r1, r2]
          · rw [HRE2.out]
            refine ⟨hgw, ⟨[.string (bs op), .string ⟨#[]⟩, .slice (some ⟨g, 0, none⟩) acc.length cap], rfl, ?_, hrd⟩⟩
            rw [HONE.out]
            exact hxw
      | true =>
        rw [htb] at HT hres
        rw [if_pos rfl] at hres
        have hl4 : (takesL op l3).length ≤ 1000 := by omega
        cases hpl : part (takesL op l3) with
        | none =>
          rw [hpl] at hres
          have HRES := Lib.hid (show RES = none from hres.symm)
          have HPN : Hid (∀ (W' : World), W.grownBy W' (some rb) → RdAt W' rb (takesL op l3) d → Calls Tryz.prog 56 #[.pointer (some pa)] W' fun e w' => PartP W' rb d none e w') := Lib.hid (fun W' hw hr => by have := HP.out W' _ hw hr hl4; rwa [hpl] at this)
          generalize takesL op l3 = l4 at *
          clear hres hpl
          go_wp2_with (first
            | (go_at_call 67; (with_reducible refine Calls.mono HT.out ?_); rintro e w5 ⟨rfl, hr5, hg5⟩; have HR5 := Lib.hid hr5; have HG5 := Lib.hid hg5; clear hr5 hg5)
            | (go_at_call 56; (with_reducible refine Calls.mono (HPN.out _ ((HG0.out.trans HG3.out).trans HG5.out) HR5.out) ?_); rintro e w6 ⟨hg6, hth⟩; unfold thrown at hth; subst hth; have HG6 := Lib.hid hg6; clear hg6))
          exact ⟨rfl, by show PartP W rb d _ _ _; rw [HRES.out]; exact ⟨((HG0.out.trans HG3.out).trans HG5.out).trans HG6.out, rfl⟩⟩
        | some xr =>
          obtain ⟨x2, r2⟩ := xr
          rw [hpl] at hres
          have hdl := HDEC.out _ _ _ hpl
          have HRES := Lib.hid (show rowLoop part op m r2 (acc ++ [x2]) = RES from hres)
          have HPN : Hid (∀ (W' : World), W.grownBy W' (some rb) → RdAt W' rb (takesL op l3) d → Calls Tryz.prog 56 #[.pointer (some pa)] W' fun e w' => PartP W' rb d (some (x2, r2)) e w') := Lib.hid (fun W' hw hr => by have := HP.out W' _ hw hr hl4; rwa [hpl] at this)
          generalize takesL op l3 = l4 at *
          clear hres hpl
          go_wp2_with (first
            | (go_at_call 67; (with_reducible refine Calls.mono HT.out ?_); rintro e w5 ⟨rfl, hr5, hg5⟩; have HR5 := Lib.hid hr5; have HG5 := Lib.hid hg5; clear hr5 hg5)
            | (go_at_call 56; (with_reducible refine Calls.mono (HPN.out _ ((HG0.out.trans HG3.out).trans HG5.out) HR5.out) ?_); rintro e w6 ⟨hg6, vs6, rfl, hx6, hr6⟩; obtain ⟨yo, yt, ya, yn, yc, rfl⟩ := hx6.shape; have HG6 := Lib.hid hg6; have HX6 := Lib.hid hx6; have HR6 := Lib.hid hr6; have hge5 := HG5.out.size; have hge6 := HG6.out.size; clear hg6 hx6 hr6
               have HK6 := Lib.hid ((HK3.out.far HG5.out (by omega)).far HG6.out (by omega)); obtain ⟨lvs, ho6, hal6⟩ := HK6.out; have HO6 := Lib.hid ho6; have HAL6 := Lib.hid hal6; clear ho6 hal6)
            | (at_builtin; refine wpList_append_lies _ rfl _ _ 27 rfl W0.heap.size 29 i0 _ 3 56 Tryz.underlying27 hi0 hz0 hz1 hz2 rfl (by omega) (.slice (some ⟨g, 0, none⟩) acc.length cap) acc.length (flat lvs) rfl (HO6.out.alloc _)
                ⟨w6.heap.size, 0, none⟩ 1 1 [.string yo, .string yt, .slice ya yn yc] rfl rfl newsG ?c2 ?c3 ?c4 ?c5 ?c6 (w6.heap.size + 1) ?c7 ?_))
          case c2 => exact HX6.out.one
          case c3 => omega
          case c4 => unfold maxLen; omega
          case c5 => omega
          case c6 => simp; omega
          case c7 => simp
          intro gg cap2 w8 hown hgrow hat hlt8
          have HK8 := Lib.hid (HK6.out.snoc HX6.out (by omega) (fun k hk => by have : g = k := by simpa [Value.ownBlock] using hk
                                                                               omega) hgrow lvs HAL6.out (by rw [hsz0]; exact hown) hat)
          have ha6 : Below w6.heap.size w6 (w6.alloc (.cells #[.string yo, .string yt, .slice ya yn yc] 29)) := (Below.refl _ _).alloc (Nat.le_refl _) _
          have HG8 := Lib.hid (grown_new (((HG3.out.trans HG5.out).trans HG6.out).trans (grow_of ha6 (some rb))) hgrow hgB)
          have hr8 := (HR6.out.below ha6).far hgrow (show g ≠ rb by omega)
          have hml8 := restLen_of hr8
          have HR8 := Lib.hid hr8
          clear hown hgrow hat ha6 hr8
          go_wp2_with fail
          go_roundw
          case rel => exact ⟨m, r2, acc ++ [x2], HR8.out, by omega, by omega, by simp, by simp; omega, HRES.out, by first | exact HK8.out | simpa using HK8.out, HG8.out⟩
          case measure => rw [hml8, hml]; omega
set_option maxRecDepth 100000 in
set_option maxHeartbeats 3200000 in
theorem row_or (rb : Nat) (l : List UInt8) (d : Nat) (W : World) (part : Part) (op : List UInt8) (pa : Addr) (h : RdAt W rb l d) (hl : l.length ≤ 1000)
    (hdec : ∀ l x r, part l = some (x, r) → r.length < l.length) (hp : PartC 55 (.pointer (some pa)) part rb d W) :
    Calls Tryz.prog 54 #[.pointer (some ⟨rb, 0, none⟩), .string (bs op), .func (.func 55) #[] #[.pointer (some pa)]] W fun e w' => PartP W rb d (rowF part (bs op) l) e w' := by
  obtain ⟨i0, hi0, hz0, hz1, hz2⟩ := info_parts info24g
  have hrl := lt_of_block h
  obtain ⟨W0, hW0⟩ : ∃ W0, W.alloc (.cells #[.string ⟨#[]⟩, .string ⟨#[]⟩, .slice none 0 0] 29) = W0 := ⟨_, rfl⟩
  have hb1 : Below W.heap.size W W0 := by rw [← hW0]; exact (Below.refl _ _).alloc (Nat.le_refl _) _
  have hsz0 : W0.heap.size = W.heap.size + 1 := by rw [← hW0]; simp
  have hbox : W0.heap[W.heap.size]? = some (.cells #[.string ⟨#[]⟩, .string ⟨#[]⟩, .slice none 0 0] 29 (0, 0)) := by rw [← hW0]; exact heap_alloc_new W _
  have hg0 : W.grownBy W0 (some rb) := grow_of hb1 _
  have hfirst := hp W0 l hg0 (h.below hb1) hl
  have HW0 := Lib.hid hW0
  have HBOX := Lib.hid hbox
  have HG0 := Lib.hid hg0
  have HDEC := Lib.hid hdec
  have HP := Lib.hid hp
  clear h hp hb1 hW0 hbox hg0 hdec
  unfold rowF
  rw [bs_list]
  cases hpl : part l with
  | none =>
    rw [hpl] at hfirst
    have HF := Lib.hid hfirst
    clear hfirst hpl
    go_enter Tryz.func54, Tryz.ntmps54
    go_wp2_with (go_at_call 55; rw [HW0.out]; (with_reducible refine Calls.mono HF.out ?_); rintro e w2 ⟨hg2, hth⟩; unfold thrown at hth; subst hth; have HG2 := Lib.hid hg2; clear hg2)
    exact ⟨rfl, HG0.out.trans HG2.out, rfl⟩
  | some xr =>
    obtain ⟨x, r⟩ := xr
    rw [hpl] at hfirst
    have HF := Lib.hid hfirst
    have hrl1 := HDEC.out l x r hpl
    clear hfirst hpl
    simp only
    obtain ⟨RES, hRES⟩ : ∃ RES, rowLoop part op (r.length + 1) r [x] = RES := ⟨_, rfl⟩
    have HRES := Lib.hid hRES
    rw [hRES]
    clear hRES
    go_enter Tryz.func54, Tryz.ntmps54
    go_wp2_with (go_at_call 55; rw [HW0.out]; (with_reducible refine Calls.mono HF.out ?_); rintro e w2 ⟨hg2, vs, rfl, hx2, hr2⟩; obtain ⟨xo, xt, xa, xn, xc, rfl⟩ := hx2.shape; have HG2 := Lib.hid hg2; have HX2 := Lib.hid hx2; have HR2 := Lib.hid hr2; clear hg2 hx2 hr2)
    have HA2 := Lib.hid (show Below w2.heap.size w2 (w2.alloc (.cells #[.string xo, .string xt, .slice xa xn xc] 29)) from (Below.refl _ _).alloc (Nat.le_refl _) _)
    have hge2 := HG2.out.size
    have HK2 := Lib.hid (kids_one (rb := rb) HX2.out hge2)
    go_loopw [7] (fun rv wr => ∃ (m : Nat) (l : List UInt8) (acc : List Ex), RdAt wr rb l d ∧ l.length ≤ 1000 ∧ l.length < m ∧ 1 ≤ acc.length ∧ acc.length + l.length ≤ 1001 ∧ rowLoop part op m l acc = RES ∧ KidsI W0.heap.size rb wr rv acc ∧ W0.grownBy wr (some rb)) (fun _ wr => restLen wr rb)
    case atStart => exact ⟨r.length + 1, r, [x], HR2.out.below HA2.out, by omega, by omega, by simp, by simp; omega, HRES.out, HK2.out, HG2.out.trans (grow_of HA2.out _)⟩
    case round =>
      obtain ⟨m, l3, acc, hr3, hl3, hm, ha1, ha2, hres, hk3, hg3⟩ := hrel
      obtain ⟨m, rfl⟩ : ∃ k, m = k + 1 := ⟨m - 1, by omega⟩
      obtain ⟨g, cap, rfl, hgl, hgB, hgc⟩ := hk3.shape ha1
      have HT := Lib.hid (takes_v rb l3 op d wr hr3)
      have hml := restLen_of hr3
      have HK3 := Lib.hid hk3
      have HG3 := Lib.hid hg3
      have hwz := hg3.size
      have htl := takes_len op l3
      rw [rowLoop] at hres
      clear HRES HK2 HA2 HX2 HR2 HF hr3 hk3 hg3
      cases htb : takesB op l3 with
      | false =>
        rw [htb] at HT hres
        rw [if_neg (by decide)] at hres
        have HRES := Lib.hid hres
        generalize takesL op l3 = l4 at *
        have HBW : Hid (∀ w5, wr.grownBy w5 (some rb) → w5.heap[W.heap.size]? = some (.cells #[.string ⟨#[]⟩, .string ⟨#[]⟩, .slice none 0 0] 29 (0, 0))) := Lib.hid (fun w5 hg => by
          rw [(HG3.out.trans hg).block W.heap.size (by omega) (fun e => by cases e; omega)]
          exact HBOX.out)
        by_cases h1 : acc.length = 1
        · obtain ⟨x1, g1, cap1, xo1, xt1, xa1, xn1, xc1, rfl, hgg, hcc1, _⟩ := HK3.out.one h1
          simp only [List.length_singleton] at *
          cases hgg
          have HRE2 : Hid (RES = some ([x1], l4)) := Lib.hid HRES.out.symm
          go_wp2_with (go_at_call 67; (with_reducible refine Calls.mono HT.out ?_); rintro e w5 ⟨rfl, hr5, hg5⟩; have HR5 := Lib.hid hr5; have HG5 := Lib.hid hg5; have hk5 := HK3.out.far hg5 (by omega); have hz5 := HBW.out _ hg5; clear hr5 hg5; obtain ⟨x9, g9, c9, yo, yt, ya, yn, yc, hx9, hg9, _, hx5, k0, k1, k2⟩ := hk5.one rfl; cases hx9; cases hg9; have HX5 := Lib.hid hx5; have HZ5 := Lib.hid hz5; have y0 := cell_of hz5 0; have y1 := cell_of hz5 1; have y2 := cell_of hz5 2; have u0 := free_of hz5 0; have u1 := free_of hz5 1; have u2 := free_of hz5 2; clear hx5 hz5 hk5)
          obtain ⟨p1, p2⟩ := put3_at HZ5.out (.string yo) (.string yt) (.slice ya yn yc)
          have hgw : W.grownBy _ (some rb) := grown_new ((HG0.out.trans HG3.out).trans HG5.out) p2 (Nat.le_refl _)
          have hrd := HR5.out.far p2 (by omega)
          have hxw := HX5.out.keep (T := fun b => W.heap.size ≤ b) (W' := put3 _ _ _ _ _) ⟨p2.size, fun b hb hlt => p2.block b hlt (fun e => by cases e; omega)⟩ (fun b hb _ => by omega) _ _
          have r0 := cell_of p1 0
          have r1 := cell_of p1 1
          have r2 := cell_of p1 2
          unfold put3 at *
          refine bodyPost_ret (v := .agg #[.string yo, .string yt, .slice ya yn yc]) ?_ rfl ?_
          · simp [results, Tryz.results54, go_sem, r0, r1, r2]
          · rw [HRE2.out]
            exact ⟨hgw, ⟨[.string yo, .string yt, .slice ya yn yc], rfl, hxw, hrd⟩⟩
        · have hac : 2 ≤ acc.length := by omega
          have hne1 : ¬ (acc.length : Int) = 1 := by omega
          have HRE2 : Hid (RES = some (acc, l4)) := Lib.hid HRES.out.symm
          have HONE := Lib.hid (oneOr_more (bs op) acc hac)
          go_wp2_with (go_at_call 67; (with_reducible refine Calls.mono HT.out ?_); rintro e w5 ⟨rfl, hr5, hg5⟩; have HR5 := Lib.hid hr5; have HG5 := Lib.hid hg5; have hk5 := HK3.out.far hg5 (by omega); have hz5 := HBW.out _ hg5; clear hr5 hg5; have HX5 := Lib.hid (hk5.more (bs op) nilB); have HZ5 := Lib.hid hz5; have y0 := cell_of hz5 0; have y1 := cell_of hz5 1; have y2 := cell_of hz5 2; have u0 := free_of hz5 0; have u1 := free_of hz5 1; have u2 := free_of hz5 2; clear hz5 hk5)
          obtain ⟨p1, p2⟩ := put3_at HZ5.out (.string (bs op)) (.string ⟨#[]⟩) (.slice (some ⟨g, 0, none⟩) acc.length cap)
          have hgw : W.grownBy _ (some rb) := grown_new ((HG0.out.trans HG3.out).trans HG5.out) p2 (Nat.le_refl _)
          have hrd := HR5.out.far p2 (by omega)
          have hxw := HX5.out.keep (T := fun b => W.heap.size ≤ b) (W' := put3 _ _ _ _ _) ⟨p2.size, fun b hb hlt => p2.block b hlt (fun e => by cases e; omega)⟩ (fun b hb _ => by omega) _ _
          have r0 := cell_of p1 0
          have r1 := cell_of p1 1
          have r2 := cell_of p1 2
          unfold put3 at *
          refine bodyPost_ret (v := .agg #[.string (bs op), .string ⟨#[]⟩, .slice (some ⟨g, 0, none⟩) acc.length cap]) ?_ rfl ?_
          · simp [results, Tryz.results54, go_sem, r0, r1, r2]
          · rw [HRE2.out]
            refine ⟨hgw, ⟨[.string (bs op), .string ⟨#[]⟩, .slice (some ⟨g, 0, none⟩) acc.length cap], rfl, ?_, hrd⟩⟩
            rw [HONE.out]
            exact hxw
      | true =>
        rw [htb] at HT hres
        rw [if_pos rfl] at hres
        have hl4 : (takesL op l3).length ≤ 1000 := by omega
        cases hpl : part (takesL op l3) with
        | none =>
          rw [hpl] at hres
          have HRES := Lib.hid (show RES = none from hres.symm)
          have HPN : Hid (∀ (W' : World), W.grownBy W' (some rb) → RdAt W' rb (takesL op l3) d → Calls Tryz.prog 55 #[.pointer (some pa)] W' fun e w' => PartP W' rb d none e w') := Lib.hid (fun W' hw hr => by have := HP.out W' _ hw hr hl4; rwa [hpl] at this)
          generalize takesL op l3 = l4 at *
          clear hres hpl
          go_wp2_with (first
            | (go_at_call 67; (with_reducible refine Calls.mono HT.out ?_); rintro e w5 ⟨rfl, hr5, hg5⟩; have HR5 := Lib.hid hr5; have HG5 := Lib.hid hg5; clear hr5 hg5)
            | (go_at_call 55; (with_reducible refine Calls.mono (HPN.out _ ((HG0.out.trans HG3.out).trans HG5.out) HR5.out) ?_); rintro e w6 ⟨hg6, hth⟩; unfold thrown at hth; subst hth; have HG6 := Lib.hid hg6; clear hg6))
          exact ⟨rfl, by show PartP W rb d _ _ _; rw [HRES.out]; exact ⟨((HG0.out.trans HG3.out).trans HG5.out).trans HG6.out, rfl⟩⟩
        | some xr =>
          obtain ⟨x2, r2⟩ := xr
          rw [hpl] at hres
          have hdl := HDEC.out _ _ _ hpl
          have HRES := Lib.hid (show rowLoop part op m r2 (acc ++ [x2]) = RES from hres)
          have HPN : Hid (∀ (W' : World), W.grownBy W' (some rb) → RdAt W' rb (takesL op l3) d → Calls Tryz.prog 55 #[.pointer (some pa)] W' fun e w' => PartP W' rb d (some (x2, r2)) e w') := Lib.hid (fun W' hw hr => by have := HP.out W' _ hw hr hl4; rwa [hpl] at this)
          generalize takesL op l3 = l4 at *
          clear hres hpl
          go_wp2_with (first
            | (go_at_call 67; (with_reducible refine Calls.mono HT.out ?_); rintro e w5 ⟨rfl, hr5, hg5⟩; have HR5 := Lib.hid hr5; have HG5 := Lib.hid hg5; clear hr5 hg5)
            | (go_at_call 55; (with_reducible refine Calls.mono (HPN.out _ ((HG0.out.trans HG3.out).trans HG5.out) HR5.out) ?_); rintro e w6 ⟨hg6, vs6, rfl, hx6, hr6⟩; obtain ⟨yo, yt, ya, yn, yc, rfl⟩ := hx6.shape; have HG6 := Lib.hid hg6; have HX6 := Lib.hid hx6; have HR6 := Lib.hid hr6; have hge5 := HG5.out.size; have hge6 := HG6.out.size; clear hg6 hx6 hr6
               have HK6 := Lib.hid ((HK3.out.far HG5.out (by omega)).far HG6.out (by omega)); obtain ⟨lvs, ho6, hal6⟩ := HK6.out; have HO6 := Lib.hid ho6; have HAL6 := Lib.hid hal6; clear ho6 hal6)
            | (at_builtin; refine wpList_append_lies _ rfl _ _ 27 rfl W0.heap.size 29 i0 _ 3 56 Tryz.underlying27 hi0 hz0 hz1 hz2 rfl (by omega) (.slice (some ⟨g, 0, none⟩) acc.length cap) acc.length (flat lvs) rfl (HO6.out.alloc _)
                ⟨w6.heap.size, 0, none⟩ 1 1 [.string yo, .string yt, .slice ya yn yc] rfl rfl newsG ?c2 ?c3 ?c4 ?c5 ?c6 (w6.heap.size + 1) ?c7 ?_))
          case c2 => exact HX6.out.one
          case c3 => omega
          case c4 => unfold maxLen; omega
          case c5 => omega
          case c6 => simp; omega
          case c7 => simp
          intro gg cap2 w8 hown hgrow hat hlt8
          have HK8 := Lib.hid (HK6.out.snoc HX6.out (by omega) (fun k hk => by have : g = k := by simpa [Value.ownBlock] using hk
                                                                               omega) hgrow lvs HAL6.out (by rw [hsz0]; exact hown) hat)
          have ha6 : Below w6.heap.size w6 (w6.alloc (.cells #[.string yo, .string yt, .slice ya yn yc] 29)) := (Below.refl _ _).alloc (Nat.le_refl _) _
          have HG8 := Lib.hid (grown_new (((HG3.out.trans HG5.out).trans HG6.out).trans (grow_of ha6 (some rb))) hgrow hgB)
          have hr8 := (HR6.out.below ha6).far hgrow (show g ≠ rb by omega)
          have hml8 := restLen_of hr8
          have HR8 := Lib.hid hr8
          clear hown hgrow hat ha6 hr8
          go_wp2_with fail
          go_roundw
          case rel => exact ⟨m, r2, acc ++ [x2], HR8.out, by omega, by omega, by simp, by simp; omega, HRES.out, by first | exact HK8.out | simpa using HK8.out, HG8.out⟩
          case measure => rw [hml8, hml]; omega
end Go.Proofs.YtjgpopjnmonlkaaGreatDoor
