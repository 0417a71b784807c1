import Derived.Test.YtgoaakdopbielaaDoorBgN
namespace Go.Proofs.YtgoaakdopbielaaDoor
open Go.RowKit Go.Shelf
set_option linter.unusedSimpArgs false
set_option linter.unusedVariables false
set_option linter.unusedSectionVars false

/-! Layer 9: a number's text. -/
def signZ (below : Bool) (a : List Int) : Int := if below = true then -(valI a) else valI a
theorem rowT_cons (x : Int) (r : List Int) (h : r ≠ []) : rowT (x :: r) = rowT r ++ padk 9 x.toNat := by
  cases r with
  | nil => exact absurd rfl h
  | cons y t => rfl
theorem pad9 (x : Nat) (h : x < 10 ^ 9) : padk 9 x = List.replicate (9 - (Lib.decDigits x).length) 48 ++ Lib.decDigits x := padk_dec 8 x h
theorem rowT_len : ∀ (l : List Int), okR l → (rowT l).length ≤ 9 * l.length
  | [], _ => Nat.le_refl _
  | [x], h => by
    have hx := h.cons.1
    unfold okP BB at hx
    have := dec_len_le 8 x.toNat (by omega)
    show (Lib.decDigits x.toNat).length ≤ 9
    exact this
  | x :: y :: r, h => by
    have ih := rowT_len (y :: r) h.cons.2
    have hx := h.cons.1
    unfold okP BB at hx
    rw [rowT_cons x (y :: r) (by simp), List.length_append, pad9 _ (by omega), List.length_append, List.length_replicate]
    have := dec_len_le 8 x.toNat (by omega)
    simp at ih ⊢
    omega
theorem text_itoa (below : Bool) (a : List Int) (h : canon a) (hn : a ≠ []) : (if below = true then [45] else []) ++ rowT a = Lib.itoa (signZ below a) := by
  have hv := valI_nonneg a h.1
  have hz : valI a ≠ 0 := fun e => hn (canon_zero h e)
  rw [rowT_val a h hn]
  unfold signZ
  obtain ⟨n, hn2⟩ := Int.eq_ofNat_of_zero_le hv
  rw [hn2]
  cases below
  · rw [if_neg (by decide), if_neg (by decide), Lib.itoa_nonneg]; rfl
  · rw [if_pos rfl, if_pos rfl, Lib.itoa_neg n (by omega)]; rfl
theorem bld_keep {B b : Nat} {l : List UInt8} {w w' : World} (h : Bld B b l w) (hb : Below w.heap.size w w') : Bld B b l w' := by
  have H : ∀ p, Lib.BuilderAt 72 5 B b p (Lib.byteCells l) w → Lib.BuilderAt 72 5 B b p (Lib.byteCells l) w' := by
    rintro p ⟨h1, v, h2, h3, h4⟩
    exact ⟨h1, v, (hb.block _ (lt_of_block h2)).trans h2, h3.kept (row := none) ⟨hb.os, hb.tape, hb.output, hb.size, fun k hk _ => hb.block k hk⟩ (by cases v.ownBlock <;> simp), h4⟩
  rcases h with h | h
  · exact .inl (H _ h)
  · exact .inr (H _ h)
set_option maxRecDepth 100000 in
set_option maxHeartbeats 6400000 in
theorem text_v (below : Bool) (v : Value) (a : List Int) (w : World) (hA : RowA w v a) (hc : canon a) (hl : a.length ≤ 1000) (hE : EnvB w) :
    Calls Tryd.prog 47 #[.agg #[.bool below, v]] w fun e w' => e = .returned (.string ⟨(Lib.itoa (signZ below a)).toArray⟩) ∧ Below w.heap.size w w' := by
  obtain ⟨p, o, cap, L, rfl, hL, hLw, hLl, hcap⟩ := hA
  by_cases h0 : a = []
  · have hz : signZ below a = 0 := by rw [h0]; unfold signZ; cases below <;> rfl
    have hi : Lib.itoa 0 = [48] := by rw [show (0 : Int) = ((0 : Nat) : Int) from rfl, Lib.itoa_nonneg, Lib.decDigits_one (by omega)]; rfl
    rw [hz, hi, h0]
    clear hz hi hc hLw
    go_enter Tryd.func47, Tryd.ntmps47
    go_wp2_with fail
    go_ret
    exact ⟨rfl, (Below.refl _ _).alloc (Nat.le_refl _) _⟩
  have hTX := text_itoa below a hc h0
  obtain ⟨n, hn⟩ : ∃ n, a.length = n := ⟨_, rfl⟩
  have hn0 : n ≠ 0 := fun e => h0 (List.eq_nil_of_length_eq_zero (by omega))
  have hlt := hL.lt
  have HCA := Lib.hid (fun (W : World) (hW : Below w.heap.size w W) i x hx => (hL.below hW).cellD (o + i) x (win_cells hLw i x hx))
  have HOK : Hid (∀ i x, a[i]? = some x → okP x) := Lib.hid (fun i x hx => hc.1 x (List.mem_of_getElem? hx))
  have HGA : Hid (∀ j, j + 1 ≤ n → ∃ x, a[n - (j + 1)]? = some x ∧ a.drop (n - (j + 1)) = x :: a.drop (n - j)) := Lib.hid (fun j hj => ⟨a[n - (j + 1)]'(by omega), List.getElem?_eq_getElem (by omega), by
    rw [List.drop_eq_getElem_cons (by omega), show n - (j + 1) + 1 = n - j by omega]⟩)
  have HLEN : Hid (∀ j, (rowT (a.drop j)).length ≤ 9000) := Lib.hid (fun j => by
    have h1 := rowT_len (a.drop j) (hc.1.drop j)
    rw [List.length_drop] at h1
    omega)
  have HE := Lib.hid (fun (W : World) (hW : Below w.heap.size w W) => EnvB.below hE hW)
  -- the number's box, the builder
  obtain ⟨wa, hwa⟩ : ∃ wa, wa = w.alloc (.cells #[.bool below, .slice (some ⟨p, o, none⟩) n cap] 44) := ⟨_, rfl⟩
  have hwaz : wa.heap.size = w.heap.size + 1 := by rw [hwa]; simp
  have hba : Below w.heap.size w wa := by rw [hwa]; exact (Below.refl _ _).alloc (Nat.le_refl _) _
  have hbox : wa.heap[w.heap.size]? = some (.cells #[.bool below, .slice (some ⟨p, o, none⟩) n cap] 44 (0, 0)) := by rw [hwa]; exact heap_alloc_new w _
  have hbld : Bld wa.heap.size wa.heap.size [] (wa.alloc (.cells #[.pointer none, .slice none 0 0] 72)) := Lib.fresh_isBuilder 72 5 wa
  have hb2 : Below wa.heap.size wa (wa.alloc (.cells #[.pointer none, .slice none 0 0] 72)) := (Below.refl _ _).alloc (Nat.le_refl _) _
  have hnz : ¬ (n : Int) = 0 := by omega
  have hne : ((n : Int) == 0) = false := by rw [beq_eq_false_iff_ne]; omega
  have hnd : decide ((n : Int) = 0) = false := decide_eq_false hnz
  have c0 := cell_of hbox 0
  have c1 := cell_of hbox 1
  have HBOX := Lib.hid hbox
  have HBA := Lib.hid hba
  have HBLD := Lib.hid hbld
  have HB2 := Lib.hid hb2
  have HTX := Lib.hid hTX
  have hwab : w.heap.size < wa.heap.size := by omega
  rw [hn]
  rw [hwa] at c0 c1
  have HWA := Lib.hid hwa
  clear hL hLw hLl hcap hc hE h0 hbld hb2 hba hbox hTX hwa
  cases below
  · have HT1 := 0
    go_enter Tryd.func47, Tryd.ntmps47
    go_wp2_with fail
    rw [← HWA.out, show w.heap.size + 1 = wa.heap.size from hwaz.symm]
    obtain ⟨bb, hbb⟩ : ∃ bb, wa.heap.size = bb := ⟨_, rfl⟩
    rw [hbb] at HBLD HB2 hwab ⊢
    have hbw : bb ≤ wa.heap.size := by omega
    clear hwaz hbb
    clear c0 c1 HWA HT1
    go_loopw [16] (fun iv wr => ∃ j : Nat, iv = .int .i64 j ∧ j ≤ n ∧ Bld bb bb (([] : List UInt8) ++ rowT (a.drop (n - j))) wr ∧ Below bb wa wr) (fun iv _ => n - (intOf iv).toNat)
    case atStart => exact ⟨0, rfl, by omega, by rw [Nat.sub_zero, List.drop_eq_nil_of_le (by omega)]; exact HBLD.out, HB2.out⟩
    case round =>
      obtain ⟨j, rfl, hj, hbl, hbr⟩ := hrel
      have HBL := Lib.hid hbl
      have HBR := Lib.hid hbr
      have hbrs := hbr.size
      have hwr : bb ≤ wr.heap.size := by omega
      have hwB : Below w.heap.size w wr := HBA.out.trans (hbr.mono (by omega))
      have c1r : wr.cell? ⟨w.heap.size, 1, none⟩ = some (.slice (some ⟨p, o, none⟩) n cap) := cell_of ((hbr.block _ (by omega)).trans HBOX.out) 1
      have hEr := HE.out wr hwB
      by_cases hlt : j < n
      · have hlti : (j : Int) < (n : Int) := by omega
        obtain ⟨x, hx, hdrop⟩ := HGA.out j (by omega)
        obtain ⟨k, hk⟩ : ∃ k, n - (j + 1) = k := ⟨_, rfl⟩
        rw [hk] at hx hdrop
        have hxo := HOK.out k x hx
        unfold okP BB at hxo
        obtain ⟨xn, rfl⟩ := Int.eq_ofNat_of_zero_le hxo.1
        have hcx := HCA.out wr hwB k xn hx
        have hki : (n : Int) - 1 - (j : Int) = (k : Int) := by omega
        have q1 : IntKind.i64.wrap ((n : Int) - 1) = (n : Int) - 1 := IntWalk.i64_in _ (by omega)
        have q2 : IntKind.i64.wrap (k : Int) = (k : Int) := IntWalk.i64_in _ (by omega)
        have hkn : k < n := by omega
        have hkni : (k : Int) < (n : Int) := by omega
        have hit := itoa_v xn (by omega) (by omega) wr hEr
        rw [Lib.itoa_nonneg] at hit
        have hdl := dec_len_le 8 xn (by omega)
        have hdz : (⟨(Lib.decDigits xn).toArray⟩ : ByteArray).size = (Lib.decDigits xn).length := List.size_toArray
        obtain ⟨D, hD⟩ : ∃ D, Lib.decDigits xn = D := ⟨_, rfl⟩
        rw [hD] at hit hdl hdz
        have hlen0 := HLEN.out (n - j)
        have hlenP : (([] : List UInt8) ++ rowT (a.drop (n - j))).length ≤ 9001 := by rw [List.length_append]; show 0 + _ ≤ _; omega
        by_cases hj0 : j = 0
        · subst hj0
          have hcx0 : wr.cell? ⟨p, o + (n - 1), none⟩ = some (.int .i64 xn) := by rw [show n - 1 = k by omega]; exact hcx
          have HN : Hid ((([] : List UInt8) ++ rowT (a.drop (n - 0))) ++ D = ([] : List UInt8) ++ rowT (a.drop (n - (0 + 1)))) := Lib.hid (by
            rw [hk, hdrop, Nat.sub_zero, List.drop_eq_nil_of_le (by omega), ← hD]
            show ([] : List UInt8) ++ [] ++ _ = ([] : List UInt8) ++ Lib.decDigits ((xn : Int)).toNat
            rw [List.append_nil, Int.toNat_natCast])
          have hws := fun W (hb : Bld bb bb (([] : List UInt8) ++ rowT (a.drop (n - 0))) W) (hB : bb ≤ W.heap.size) => wstr_v bb bb _ D W hb (by omega) hB
          clear hx hdrop hk hbl hbr hD
          go_wp2_with (first
            | (go_at_call 40; with_reducible refine Calls.mono hit ?_; rintro e w2 ⟨rfl, hb2⟩; have HB3 := Lib.hid (HBR.out.trans (hb2.mono hwr)); have H3 := Lib.hid (hws w2 (bld_keep HBL.out hb2) (Nat.le_trans hwr hb2.size)); clear hb2 hws)
            | (go_at_call 68; with_reducible refine Calls.mono H3.out ?_; rintro e w3 ⟨rfl, hbl3, hb3⟩; have HBL3 := Lib.hid hbl3; have HB4 := Lib.hid (HB3.out.trans hb3); clear hbl3 hb3))
          go_roundw
          case rel => exact ⟨0 + 1, by go_num, by omega, by rw [← HN.out]; exact HBL3.out, HB4.out⟩
          case measure => first | (simp [intOf]; done) | (simp [intOf]; omega)
        · have hj0i : (0 : Int) < (j : Int) := by omega
          have hjd : decide ((0 : Int) < (j : Int)) = true := decide_eq_true hj0i
          have HN : Hid (((([] : List UInt8) ++ rowT (a.drop (n - j))) ++ List.replicate (9 - D.length) 48) ++ D = ([] : List UInt8) ++ rowT (a.drop (n - (j + 1)))) := Lib.hid (by
            rw [hk, hdrop, rowT_cons _ _ (fun e => by have := congrArg List.length e; rw [List.length_drop] at this; simp at this; omega), Int.toNat_natCast, pad9 xn (by omega), hD]
            simp only [List.append_assoc])
          obtain ⟨c, hc⟩ : ∃ c, 9 - D.length = c := ⟨_, rfl⟩
          rw [hc] at HN
          have hci : 9 - (D.length : Int) = (c : Int) := by omega
          obtain ⟨Z, hZ⟩ : ∃ Z, List.replicate c (48 : UInt8) = Z := ⟨_, rfl⟩
          have hZl : Z.length = c := by rw [← hZ, List.length_replicate]
          have hrep := fun W => rep_v c W (by omega)
          rw [hZ] at hrep HN
          have hws1 := fun W (hb : Bld bb bb (([] : List UInt8) ++ rowT (a.drop (n - j))) W) (hB : bb ≤ W.heap.size) => wstr_v bb bb _ Z W hb (by omega) hB
          have hws2 := fun W (hb : Bld bb bb ((([] : List UInt8) ++ rowT (a.drop (n - j))) ++ Z) W) (hB : bb ≤ W.heap.size) => wstr_v bb bb _ D W hb (by rw [List.length_append]; omega) hB
          clear hx hdrop hk hbl hbr hD hZ hZl
          go_wp2_with (first
            | (go_at_call 40; with_reducible refine Calls.mono hit ?_; rintro e w2 ⟨rfl, hb2⟩; have HB3 := Lib.hid (HBR.out.trans (hb2.mono hwr)); have HK3 := Lib.hid (bld_keep HBL.out hb2); have HW3 := Lib.hid (Nat.le_trans hwr hb2.size); clear hb2)
            | (go_at_call 69; with_reducible refine Calls.mono (hrep _) ?_; rintro e w3 ⟨rfl, hb3⟩; have HB4 := Lib.hid (HB3.out.trans (hb3.mono HW3.out)); have HW4 := Lib.hid (Nat.le_trans HW3.out hb3.size); have H4 := Lib.hid (hws1 w3 (bld_keep HK3.out hb3) (Nat.le_trans HW3.out hb3.size)); clear hb3 hws1)
            | (go_at_call 68; with_reducible refine Calls.mono H4.out ?_; rintro e w4 ⟨rfl, hbl4, hb4⟩; have HB5 := Lib.hid (HB4.out.trans hb4); have H5 := Lib.hid (hws2 w4 hbl4 (Nat.le_trans HW4.out hb4.size)); clear hbl4 hb4 hws2)
            | (go_at_call 68; with_reducible refine Calls.mono H5.out ?_; rintro e w5 ⟨rfl, hbl5, hb5⟩; have HBL5 := Lib.hid hbl5; have HB6 := Lib.hid (HB5.out.trans hb5); clear hbl5 hb5))
          go_roundw
          case rel => exact ⟨j + 1, by go_num, by omega, by rw [← HN.out]; exact HBL5.out, HB6.out⟩
          case measure => first | (simp [intOf]; done) | (simp [intOf]; omega)
      · have hlti : ¬ (j : Int) < (n : Int) := by omega
        have hld : decide ((j : Int) < (n : Int)) = false := decide_eq_false hlti
        have hnj : n - j = 0 := by omega
        have hst := bstr_v bb bb (Lib.itoa (signZ false a)) wr (by
          have h := HBL.out
          rw [hnj, List.drop_zero] at h
          have e : ([] : List UInt8) ++ rowT a = Lib.itoa (signZ false a) := by have e := HTX.out; simpa using e
          rw [← e]; exact h) hwr
        go_wp2_with (go_at_call 70; with_reducible refine Calls.mono hst ?_; rintro e w6 ⟨rfl, hb6⟩; have HB7 := Lib.hid (HBR.out.trans hb6); clear hb6)
        go_ret
        exact ⟨rfl, HBA.out.trans (HB7.out.mono (by omega))⟩
  · have HT1 := 0
    go_enter Tryd.func47, Tryd.ntmps47
    go_wp2_with fail
    rw [← HWA.out, show w.heap.size + 1 = wa.heap.size from hwaz.symm]
    have hwb := wbyte_v wa.heap.size wa.heap.size [] 45 _ HBLD.out (by decide) HB2.out.size
    clear c0 c1 HWA HT1
    go_at_call 67
    refine Calls.mono hwb ?_
    rintro e wc ⟨rfl, hblc, hbc⟩
    have HBLD2 := Lib.hid hblc
    have HB22 := Lib.hid (HB2.out.trans hbc)
    have c1c : wc.cell? ⟨w.heap.size, 1, none⟩ = some (.slice (some ⟨p, o, none⟩) n cap) := cell_of ((HB22.out.block _ (by omega)).trans HBOX.out) 1
    clear hblc hbc hwb HBLD HB2
    have HBLD := HBLD2
    have HB2 := HB22
    clear HBLD2 HB22
    go_wp2_with fail
    rw [show w.heap.size + 1 = wa.heap.size from hwaz.symm]
    obtain ⟨bb, hbb⟩ : ∃ bb, wa.heap.size = bb := ⟨_, rfl⟩
    rw [hbb] at HBLD HB2 hwab ⊢
    have hbw : bb ≤ wa.heap.size := by omega
    clear hwaz hbb
    go_loopw [16] (fun iv wr => ∃ j : Nat, iv = .int .i64 j ∧ j ≤ n ∧ Bld bb bb (([45] : List UInt8) ++ rowT (a.drop (n - j))) wr ∧ Below bb wa wr) (fun iv _ => n - (intOf iv).toNat)
    case atStart => exact ⟨0, rfl, by omega, by rw [Nat.sub_zero, List.drop_eq_nil_of_le (by omega)]; exact HBLD.out, HB2.out⟩
    case round =>
      obtain ⟨j, rfl, hj, hbl, hbr⟩ := hrel
      have HBL := Lib.hid hbl
      have HBR := Lib.hid hbr
      have hbrs := hbr.size
      have hwr : bb ≤ wr.heap.size := by omega
      have hwB : Below w.heap.size w wr := HBA.out.trans (hbr.mono (by omega))
      have c1r : wr.cell? ⟨w.heap.size, 1, none⟩ = some (.slice (some ⟨p, o, none⟩) n cap) := cell_of ((hbr.block _ (by omega)).trans HBOX.out) 1
      have hEr := HE.out wr hwB
      by_cases hlt : j < n
      · have hlti : (j : Int) < (n : Int) := by omega
        obtain ⟨x, hx, hdrop⟩ := HGA.out j (by omega)
        obtain ⟨k, hk⟩ : ∃ k, n - (j + 1) = k := ⟨_, rfl⟩
        rw [hk] at hx hdrop
        have hxo := HOK.out k x hx
        unfold okP BB at hxo
        obtain ⟨xn, rfl⟩ := Int.eq_ofNat_of_zero_le hxo.1
        have hcx := HCA.out wr hwB k xn hx
        have hki : (n : Int) - 1 - (j : Int) = (k : Int) := by omega
        have q1 : IntKind.i64.wrap ((n : Int) - 1) = (n : Int) - 1 := IntWalk.i64_in _ (by omega)
        have q2 : IntKind.i64.wrap (k : Int) = (k : Int) := IntWalk.i64_in _ (by omega)
        have hkn : k < n := by omega
        have hkni : (k : Int) < (n : Int) := by omega
        have hit := itoa_v xn (by omega) (by omega) wr hEr
        rw [Lib.itoa_nonneg] at hit
        have hdl := dec_len_le 8 xn (by omega)
        have hdz : (⟨(Lib.decDigits xn).toArray⟩ : ByteArray).size = (Lib.decDigits xn).length := List.size_toArray
        obtain ⟨D, hD⟩ : ∃ D, Lib.decDigits xn = D := ⟨_, rfl⟩
        rw [hD] at hit hdl hdz
        have hlen0 := HLEN.out (n - j)
        have hlenP : (([45] : List UInt8) ++ rowT (a.drop (n - j))).length ≤ 9001 := by rw [List.length_append]; show 1 + _ ≤ _; omega
        by_cases hj0 : j = 0
        · subst hj0
          have hcx0 : wr.cell? ⟨p, o + (n - 1), none⟩ = some (.int .i64 xn) := by rw [show n - 1 = k by omega]; exact hcx
          have HN : Hid ((([45] : List UInt8) ++ rowT (a.drop (n - 0))) ++ D = ([45] : List UInt8) ++ rowT (a.drop (n - (0 + 1)))) := Lib.hid (by
            rw [hk, hdrop, Nat.sub_zero, List.drop_eq_nil_of_le (by omega), ← hD]
            show ([45] : List UInt8) ++ [] ++ _ = ([45] : List UInt8) ++ Lib.decDigits ((xn : Int)).toNat
            rw [List.append_nil, Int.toNat_natCast])
          have hws := fun W (hb : Bld bb bb (([45] : List UInt8) ++ rowT (a.drop (n - 0))) W) (hB : bb ≤ W.heap.size) => wstr_v bb bb _ D W hb (by omega) hB
          clear hx hdrop hk hbl hbr hD
          go_wp2_with (first
            | (go_at_call 40; with_reducible refine Calls.mono hit ?_; rintro e w2 ⟨rfl, hb2⟩; have HB3 := Lib.hid (HBR.out.trans (hb2.mono hwr)); have H3 := Lib.hid (hws w2 (bld_keep HBL.out hb2) (Nat.le_trans hwr hb2.size)); clear hb2 hws)
            | (go_at_call 68; with_reducible refine Calls.mono H3.out ?_; rintro e w3 ⟨rfl, hbl3, hb3⟩; have HBL3 := Lib.hid hbl3; have HB4 := Lib.hid (HB3.out.trans hb3); clear hbl3 hb3))
          go_roundw
          case rel => exact ⟨0 + 1, by go_num, by omega, by rw [← HN.out]; exact HBL3.out, HB4.out⟩
          case measure => first | (simp [intOf]; done) | (simp [intOf]; omega)
        · have hj0i : (0 : Int) < (j : Int) := by omega
          have hjd : decide ((0 : Int) < (j : Int)) = true := decide_eq_true hj0i
          have HN : Hid (((([45] : List UInt8) ++ rowT (a.drop (n - j))) ++ List.replicate (9 - D.length) 48) ++ D = ([45] : List UInt8) ++ rowT (a.drop (n - (j + 1)))) := Lib.hid (by
            rw [hk, hdrop, rowT_cons _ _ (fun e => by have := congrArg List.length e; rw [List.length_drop] at this; simp at this; omega), Int.toNat_natCast, pad9 xn (by omega), hD]
            simp only [List.append_assoc])
          obtain ⟨c, hc⟩ : ∃ c, 9 - D.length = c := ⟨_, rfl⟩
          rw [hc] at HN
          have hci : 9 - (D.length : Int) = (c : Int) := by omega
          obtain ⟨Z, hZ⟩ : ∃ Z, List.replicate c (48 : UInt8) = Z := ⟨_, rfl⟩
          have hZl : Z.length = c := by rw [← hZ, List.length_replicate]
          have hrep := fun W => rep_v c W (by omega)
          rw [hZ] at hrep HN
          have hws1 := fun W (hb : Bld bb bb (([45] : List UInt8) ++ rowT (a.drop (n - j))) W) (hB : bb ≤ W.heap.size) => wstr_v bb bb _ Z W hb (by omega) hB
          have hws2 := fun W (hb : Bld bb bb ((([45] : List UInt8) ++ rowT (a.drop (n - j))) ++ Z) W) (hB : bb ≤ W.heap.size) => wstr_v bb bb _ D W hb (by rw [List.length_append]; omega) hB
          clear hx hdrop hk hbl hbr hD hZ hZl
          go_wp2_with (first
            | (go_at_call 40; with_reducible refine Calls.mono hit ?_; rintro e w2 ⟨rfl, hb2⟩; have HB3 := Lib.hid (HBR.out.trans (hb2.mono hwr)); have HK3 := Lib.hid (bld_keep HBL.out hb2); have HW3 := Lib.hid (Nat.le_trans hwr hb2.size); clear hb2)
            | (go_at_call 69; with_reducible refine Calls.mono (hrep _) ?_; rintro e w3 ⟨rfl, hb3⟩; have HB4 := Lib.hid (HB3.out.trans (hb3.mono HW3.out)); have HW4 := Lib.hid (Nat.le_trans HW3.out hb3.size); have H4 := Lib.hid (hws1 w3 (bld_keep HK3.out hb3) (Nat.le_trans HW3.out hb3.size)); clear hb3 hws1)
            | (go_at_call 68; with_reducible refine Calls.mono H4.out ?_; rintro e w4 ⟨rfl, hbl4, hb4⟩; have HB5 := Lib.hid (HB4.out.trans hb4); have H5 := Lib.hid (hws2 w4 hbl4 (Nat.le_trans HW4.out hb4.size)); clear hbl4 hb4 hws2)
            | (go_at_call 68; with_reducible refine Calls.mono H5.out ?_; rintro e w5 ⟨rfl, hbl5, hb5⟩; have HBL5 := Lib.hid hbl5; have HB6 := Lib.hid (HB5.out.trans hb5); clear hbl5 hb5))
          go_roundw
          case rel => exact ⟨j + 1, by go_num, by omega, by rw [← HN.out]; exact HBL5.out, HB6.out⟩
          case measure => first | (simp [intOf]; done) | (simp [intOf]; omega)
      · have hlti : ¬ (j : Int) < (n : Int) := by omega
        have hld : decide ((j : Int) < (n : Int)) = false := decide_eq_false hlti
        have hnj : n - j = 0 := by omega
        have hst := bstr_v bb bb (Lib.itoa (signZ true a)) wr (by
          have h := HBL.out
          rw [hnj, List.drop_zero] at h
          have e : ([45] : List UInt8) ++ rowT a = Lib.itoa (signZ true a) := by have e := HTX.out; simpa using e
          rw [← e]; exact h) hwr
        go_wp2_with (go_at_call 70; with_reducible refine Calls.mono hst ?_; rintro e w6 ⟨rfl, hb6⟩; have HB7 := Lib.hid (HBR.out.trans hb6); clear hb6)
        go_ret
        exact ⟨rfl, HBA.out.trans (HB7.out.mono (by omega))⟩
end Go.Proofs.YtgoaakdopbielaaDoor
