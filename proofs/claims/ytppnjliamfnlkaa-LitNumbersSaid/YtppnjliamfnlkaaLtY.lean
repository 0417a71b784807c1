import Derived.Test.YtppnjliamfnlkaaLtX
namespace Go.Proofs.Ytppnjliamfnlkaa
open Go.RowKit
set_option linter.unusedSimpArgs false
set_option linter.unusedVariables false
set_option linter.unusedSectionVars false

theorem append64_below {B : Nat} {w w1 w2 : World} {v : Value} {n : Nat} {xs : List Value} {o : Obj} (h : Below B w w1) (hown : w1.ownsRow B 3 1 v n xs) (hB : B ≤ w1.heap.size) (hg : (w1.alloc o).grownBy w2 v.ownBlock) : Below B w w2 := by
  refine (h.alloc (by have := h.size; omega) o).grown hg (by simp; omega) ?_
  intro k hk
  exact (hown.lt k hk).1
theorem row_read {w w' : World} {B0 : Nat} {a : Option Addr} {c : Nat} {ds : List Nat} (h : w.ownsRow B0 3 1 (.slice a ds.length c) ds.length (i64s ds)) (hb : Below w.heap.size w w') (k : Nat) (hk : k < ds.length) :
    ∃ g cap, a = some ⟨g, 0, none⟩ ∧ c = cap ∧ w'.cell? ⟨g, k, none⟩ = some (.int .i64 (ds[k] : Int)) := by
  obtain ⟨g, cap, hs⟩ := row_some h (by intro h0; have := congrArg List.length h0; rw [i64s_len] at this; simp at this; subst this; simp at hk)
  simp only [Value.slice.injEq, true_and] at hs
  obtain ⟨rfl, rfl⟩ := hs
  refine ⟨g, c, rfl, rfl, ?_⟩
  rw [hb.cell (p := ⟨g, k, none⟩) (h.lt g rfl).2, h.cellAt k (by omega), i64s_get _ _ hk]

set_option maxHeartbeats 12800000 in
theorem decimal_ref (B0 : Nat) (v : Value) (ds : List Nat) (base : Nat) (w : World) (hv : w.ownsRow B0 3 1 v ds.length (i64s ds)) (hd : ∀ d ∈ ds, d < base) (hb2 : 2 ≤ base) (hb : base ≤ 16) (hn : ds.length ≤ 10000) :
    Calls Try.prog 22 #[v, .int .i64 base] w fun e w' => e = .returned (.string (decF (foldD base [] ds))) ∧ Below w.heap.size w w' := by
  obtain ⟨i0, hi0, hz0, hz1, hz2⟩ := info_parts info64
  obtain ⟨j0, hj0, hy0, hy1, hy2⟩ := info_parts info8
  obtain ⟨a, c, rfl⟩ := row_slice hv
  have HV := Lib.hid hv
  have HD := Lib.hid hd
  clear hv hd
  go_enter Try.func22, Try.ntmps22
  go_wp2_with fail
  have hown0 : (w.alloc (.cells #[.int .i64 0] 3)).ownsRow w.heap.size 3 1 (.slice (some ⟨w.heap.size, 0, none⟩) 1 1) 1 [.int .i64 0] := World.ownsRow_lit w #[.int .i64 0] 1 (Nat.le_refl _) (by decide) rfl
  have hb0 : Below w.heap.size w (w.alloc (.cells #[.int .i64 0] 3)) := (Below.refl _ _).alloc (Nat.le_refl _) _
  generalize w.alloc (.cells #[.int .i64 0] 3) = w0 at *
  go_loopw [5, 6] (fun rv iv wr => ∃ (k : Nat) (l : List Nat), iv = .int .i64 k ∧ k ≤ ds.length ∧ l = foldD base [] (ds.take k) ∧ wr.ownsRow w.heap.size 3 1 rv (pad l).length (i64s (pad l)) ∧ Below w.heap.size w wr) (fun _ iv _ => ds.length - (intOf iv).toNat)
  case atStart => exact ⟨0, [], rfl, by omega, by simp [foldD], by simpa [pad, i64s] using hown0, hb0⟩
  case round =>
    obtain ⟨k, l, rfl, hk, hl, hown, hbl⟩ := hrel
    clear hown0 hb0
    have HL := Lib.hid hl
    have HO := Lib.hid hown
    have HBL := Lib.hid hbl
    clear hl hown hbl
    by_cases hlt : k < ds.length
    · obtain ⟨g, cap, rfl, rfl, e0⟩ := row_read HV.out HBL.out k hlt
      have hdb := HD.out _ (List.getElem_mem hlt)
      have HLN : Hid (foldD base [] (ds.take (k + 1)) = timesF base l ds[k]) := Lib.hid (by rw [List.take_add_one, List.getElem?_eq_getElem hlt, HL.out]; exact foldD_snoc _ _ _ _)
      have HCN : Hid (Canon l) := Lib.hid (by rw [HL.out]; exact foldD_canon hb2 hb _ _ ⟨by simp, by simp⟩ (fun d hd => HD.out d (List.mem_of_mem_take hd)))
      have hll : l.length ≤ 30000 := by have := foldD_len base (ds.take k) []; rw [← HL.out] at this; simp at this; omega
      generalize ds[k] = d at *
      obtain ⟨ra, rc, rfl⟩ := row_slice HO.out
      have hpl := pad_len l
      have HPT := Lib.hid (pad_times hb2 hb HCN.out hdb)
      have HPL := Lib.hid (pad_lt HCN.out.1)
      generalize pad l = p at *
      go_wp2_with fail
      go_loopw [7, 8] (fun mv jv wr2 => ∃ (done todo : List Nat) (q : Nat), mv = .int .i64 q ∧ jv = .int .i64 done.length ∧ mulF base p d = (done ++ (mulF base todo q).1, (mulF base todo q).2) ∧ done.length + todo.length = p.length ∧ q < base ∧
        (∀ x ∈ todo, x < 10) ∧ wr2.ownsRow w.heap.size 3 1 (.slice ra p.length rc) p.length (i64s (done ++ todo)) ∧ Below w.heap.size w wr2) (fun _ jv _ => p.length - (intOf jv).toNat)
      case atStart => exact ⟨[], p, d, rfl, rfl, rfl, by simp, hdb, HPL.out, HO.out, HBL.out⟩
      case round =>
        obtain ⟨done, todo, q, rfl, rfl, he, hlen, hq, htodo, hown, hbl⟩ := hrel
        have HE := Lib.hid he
        have HO2 := Lib.hid hown
        have HB2 := Lib.hid hbl
        clear he hown hbl e0
        cases todo with
        | cons f t =>
          simp only [List.length_cons] at hlen
          have hlt2 : done.length < p.length := by omega
          obtain ⟨g2, cap2, hs⟩ := row_some HO2.out (by simp [i64s])
          simp only [Value.slice.injEq, true_and] at hs
          obtain ⟨rfl, rfl⟩ := hs
          have hf : f < 10 := htodo f (by simp)
          have e0 : wr.cell? ⟨g2, done.length, none⟩ = some (.int .i64 (f : Int)) := (HO2.out.cellAt done.length (by omega)).trans (i64s_at done t f)
          have e1 : wr.frozen? ⟨g2, done.length, none⟩ = false := HO2.out.frozenAt _
          obtain ⟨m, hm1⟩ : ∃ m, f * base = m := ⟨_, rfl⟩
          have hm2 : (f : Int) * (base : Int) = (m : Int) := by rw [← hm1, Int.natCast_mul]
          have hm3 : m ≤ 144 := by
            have h1 := Nat.mul_le_mul (show f ≤ 9 by omega) hb
            omega
          have hcl := carry_lt hq hf
          rw [hm1] at hcl
          obtain ⟨x, hx⟩ : ∃ x, q + m = x := ⟨_, rfl⟩
          have hx2 : (m : Int) + (q : Int) = (x : Int) := by omega
          have hx3 : x ≤ 200 := by omega
          have ht1 : (x : Int).tmod 10 = ((x % 10 : Nat) : Int) := by rw [Int.tmod_eq_emod_of_nonneg (by omega)]; omega
          have ht2 : (x : Int).tdiv 10 = ((x / 10 : Nat) : Int) := by rw [Int.tdiv_eq_ediv_of_nonneg (by omega)]; omega
          rw [hx] at hcl
          have HS : Hid (mulF base p d = ((done ++ [x % 10]) ++ (mulF base t (x / 10)).1, (mulF base t (x / 10)).2)) := Lib.hid (by
            rw [HE.out]; simp only [mulF, hm1, hx]; simp)
          have HST := HO2.out.stored done.length (.int .i64 ((x % 10 : Nat) : Int))
          rw [i64s_mid] at HST
          have HST := Lib.hid HST
          obtain ⟨r, hr⟩ : ∃ r, x % 10 = r := ⟨_, rfl⟩
          have hr2 : r < 10 := by omega
          obtain ⟨y, hy⟩ : ∃ y, x / 10 = y := ⟨_, rfl⟩
          rw [hr] at ht1 HS HST
          rw [hy] at ht2 HS hcl
          clear hm1 hx hr hy
          go_wp2_with fail
          go_roundw
          case rel =>
            refine ⟨done ++ [r], t, y, rfl, by simp, HS.out, by simp; omega, hcl, fun x hx => htodo x (by simp [hx]), HST.out.1, ?_⟩
            exact HB2.out.grown HST.out.2 (by have := HB2.out.size; omega) (fun k hk => (HO2.out.lt k hk).1)
          case measure => simp [intOf]; omega
        | nil =>
          simp only [List.length_nil, Nat.add_zero] at hlen
          have HQ : Hid (mulF base p d = (done, q)) := Lib.hid (by rw [HE.out]; simp [mulF])
          rw [List.append_nil] at HO2
          go_wp2_with fail
          go_loopw [5, 7] (fun rv qv wr3 => ∃ (l' : List Nat) (q' n : Nat), qv = .int .i64 q' ∧ timesF base p d = l' ++ restF n q' ∧ q' < 10 ^ n ∧ l'.length + n = p.length + 3 ∧ q' < 16 ∧
            wr3.ownsRow w.heap.size 3 1 rv l'.length (i64s l') ∧ Below w.heap.size w wr3) (fun _ qv _ => (intOf qv).toNat)
          case atStart => exact ⟨done, q, 3, rfl, by simp [timesF, HQ.out], by omega, by omega, by omega, by rw [hlen]; exact HO2.out, HB2.out⟩
          case round =>
            obtain ⟨l', q', n, rfl, ht, hqn, hln, hq16, hown, hbl⟩ := hrel
            have HT := Lib.hid ht
            have HB3 := Lib.hid hbl
            clear ht hbl HQ HE hq HO2 HB2 hlen htodo
            by_cases hq0 : q' = 0
            · subst hq0
              have HR : Hid (timesF base p d = l') := Lib.hid (by rw [HT.out]; cases n <;> simp [restF])
              have HO3 := Lib.hid hown
              clear hown hqn
              go_wp2_with fail
              go_roundw
              case rel => exact ⟨k + 1, timesF base l d, by go_num, by omega, HLN.out.symm, by rw [← HPT.out, HR.out]; exact HO3.out, HB3.out⟩
              case measure => simp [intOf]; omega
            · obtain ⟨n, rfl⟩ : ∃ m, n = m + 1 := ⟨n - 1, by
                cases n with
                | zero => simp at hqn; omega
                | succ n => simp⟩
              have HR : Hid (timesF base p d = (l' ++ [q' % 10]) ++ restF n (q' / 10)) := Lib.hid (by rw [HT.out, restF, if_neg hq0]; simp)
              have ht1 : (q' : Int).tmod 10 = ((q' % 10 : Nat) : Int) := by rw [Int.tmod_eq_emod_of_nonneg (by omega)]; omega
              have ht2 : (q' : Int).tdiv 10 = ((q' / 10 : Nat) : Int) := by rw [Int.tdiv_eq_ediv_of_nonneg (by omega)]; omega
              have hlt10 : q' / 10 < 10 ^ n := by rw [Nat.pow_succ] at hqn; omega
              clear hqn
              obtain ⟨r, hr⟩ : ∃ r, q' % 10 = r := ⟨_, rfl⟩
              have hr2 : r < 10 := by omega
              obtain ⟨y, hy⟩ : ∃ y, q' / 10 = y := ⟨_, rfl⟩
              have hdq : y < q' := by omega
              rw [hr] at ht1 HR
              rw [hy] at ht2 HR hlt10
              clear hy hr
              have HO3 := Lib.hid hown
              have HLT := Lib.hid hlt10
              clear hown hlt10
              go_wp2_with (first
                | (at_builtin; refine wpList_append_own _ rfl _ _ 37 rfl w.heap.size 3 i0 (.int .i64 0) 1 8 Try.underlying37 hi0 hz0 hz1 hz2 rfl (by decide) _ _ _ rfl (HO3.out.alloc _) ⟨wr.heap.size, 0, none⟩ 1 1 [.int .i64 (r : Int)] rfl rfl newsN ?c2 ?c3 ?c4 ?c5 ?_))
              case c2 => intro u hu; simp at hu; subst hu; rfl
              case c3 => unfold maxLen; omega
              case c4 => omega
              case c5 => have := HB3.out.size; simp; omega
              intro v' w1 hown' hgrow _
              have HO4 : Hid (w1.ownsRow w.heap.size 3 1 v' (l' ++ [r]).length (i64s (l' ++ [r]))) := Lib.hid (by simpa [i64s] using hown')
              have HB4 : Hid (Below w.heap.size w w1) := Lib.hid (append64_below HB3.out HO3.out (by have := HB3.out.size; omega) hgrow)
              clear hown' hgrow
              go_wp2_with fail
              go_roundw
              case rel => exact ⟨l' ++ [r], y, n, rfl, HR.out, HLT.out, by simp; omega, by omega, HO4.out, HB4.out⟩
              case measure => simp [intOf]; omega
    · obtain rfl : k = ds.length := by omega
      rw [List.take_length] at HL
      have HCN : Hid (Canon l) := Lib.hid (by rw [HL.out]; exact foldD_canon hb2 hb _ _ ⟨by simp, by simp⟩ HD.out)
      have hll : l.length ≤ 30000 := by have := foldD_len base ds []; rw [← HL.out] at this; simp at this; omega
      have HRES : Hid (decF (foldD base [] ds) = bytesOf ((pad l).reverse.map (48 + ·))) := Lib.hid (by rw [decF_pad l HCN.out.1, HL.out])
      have hpl := pad_len l
      have HPL := Lib.hid (pad_lt HCN.out.1)
      have hpn := pad_ne l
      have HLAST : Hid (1 < (pad l).length → (pad l)[(pad l).length - 1]? ≠ some 0) := Lib.hid (by
        intro h1
        have hln : l ≠ [] := by intro h0; subst h0; simp [pad] at h1
        rw [pad, if_neg hln, ← List.getLast?_eq_getElem?]
        exact HCN.out.2)
      obtain ⟨ra, rc, rfl⟩ := row_slice HO.out
      generalize pad l = p at *
      have hp1 : 1 ≤ p.length := List.length_pos_iff.2 hpn
      clear hlt
      go_wp2_with fail
      go_loopw [5] (fun rv wr2 => rv = .slice ra p.length rc ∧ wr2.ownsRow w.heap.size 3 1 (.slice ra p.length rc) p.length (i64s p) ∧ Below w.heap.size w wr2) (fun _ _ => 0)
      case atStart => exact ⟨rfl, HO.out, HBL.out⟩
      case round =>
        obtain ⟨rfl, hown, hbl⟩ := hrel
        obtain ⟨g, cap, hs⟩ := row_some hown (by intro h0; have := congrArg List.length h0; rw [i64s_len] at this; simp only [List.length_nil] at this; omega)
        simp only [Value.slice.injEq, true_and] at hs
        obtain ⟨rfl, rfl⟩ := hs
        have hlast : p.length - 1 < p.length := by omega
        obtain ⟨k, hk⟩ : ∃ k, p.length - 1 = k := ⟨_, rfl⟩
        have hkI : (p.length : Int) - 1 = (k : Int) := by omega
        have e0 : wr.cell? ⟨g, k, none⟩ = some (.int .i64 ((p[k]'(by omega) : Nat) : Int)) := by rw [hown.cellAt k (by omega), i64s_get p k (by omega)]
        have hnz : 1 < p.length → p[k]'(by omega) ≠ 0 := by
          intro h1 h0
          have := HLAST.out h1
          rw [hk, List.getElem?_eq_getElem (by omega), h0] at this
          exact this rfl
        have HO5 := Lib.hid hown
        have HB5 := Lib.hid hbl
        clear hown hbl
        generalize p[k]'(by omega) = z at *
        by_cases h1 : 1 < p.length
        · have hz := hnz h1
          have hz2 : ((z : Int) == 0) = false := by simp [hz]
          have hd1 : decide ((1 : Int) < (p.length : Int)) = true := by simp; omega
          have hkp : k < p.length := by omega
          clear hnz hk
          go_wp2_with fail
          generalize wr = W at *
          have hgW : g < W.heap.size := (HO5.out.lt g rfl).2
          clear e0
          go_loopw [10, 11] (fun ov kv wr3 => ∃ j : Nat, kv = .int .i64 ((j : Int) - 1) ∧ j ≤ p.length ∧ wr3.ownsRow W.heap.size 5 1 ov ((p.drop j).reverse.map (48 + ·)).length (u8s ((p.drop j).reverse.map (48 + ·))) ∧ Below W.heap.size W wr3) (fun _ kv _ => ((intOf kv) + 1).toNat)
          case atStart =>
            refine ⟨p.length, by first | (rw [hkI]) | (congr 1; omega), Nat.le_refl _, ?_, Below.refl _ _⟩
            simp only [List.drop_length, List.reverse_nil, List.map_nil, List.length_nil]
            exact World.ownsRow_nil _ _ _ _
          case round =>
            obtain ⟨j, rfl, hj, hown, hbl⟩ := hrel
            have HO6 := Lib.hid hown
            have HB6 := Lib.hid hbl
            clear hown hbl
            cases j with
            | zero =>
              rw [List.drop_zero] at HO6
              obtain ⟨aa, cc, rfl⟩ := row_slice HO6.out
              have hcv := conv_at (row_bsl HO6.out (by
                intro x hx
                simp only [List.mem_map, List.mem_reverse] at hx
                obtain ⟨y, hy, rfl⟩ := hx
                have := HPL.out y hy
                omega)) cc
              rw [bytesOf_size] at hcv
              simp only [List.length_map, List.length_reverse] at hcv
              have hneg : (((0 : Nat) : Int) - 1) = -1 := rfl
              go_wp2_with fail
              go_ret
              exact ⟨by rw [HRES.out, List.map_reverse] <;> rfl, HB5.out.trans (HB6.out.mono HB5.out.size)⟩
            | succ j =>
              have hjI : (((j + 1 : Nat) : Int) - 1) = (j : Int) := by omega
              have hjp : j < p.length := by omega
              have e1 : wr.cell? ⟨g, j, none⟩ = some (.int .i64 ((p[j] : Nat) : Int)) := by rw [HB6.out.cell (p := ⟨g, j, none⟩) hgW, HO5.out.cellAt j (by omega), i64s_get p j hjp]
              have hpj := HPL.out _ (List.getElem_mem hjp)
              have HDR : Hid ((p.drop j).reverse.map (48 + ·) = (p.drop (j + 1)).reverse.map (48 + ·) ++ [48 + p[j]]) := Lib.hid (by rw [List.drop_eq_getElem_cons hjp, List.reverse_cons, List.map_append]; rfl)
              generalize p[j] = y at *
              obtain ⟨q, hq⟩ : ∃ q, 48 + y = q := ⟨_, rfl⟩
              have hqI : (48 : Int) + (y : Int) = (q : Int) := by omega
              have hq2 : q < 60 := by omega
              rw [hq] at HDR
              clear hq
              have hlL : ((p.drop (j + 1)).reverse.map (48 + ·)).length ≤ 40000 := by simp; omega
              generalize (p.drop (j + 1)).reverse.map (48 + ·) = L at *
              rw [hjI]
              go_wp2_with (first
                | (at_builtin; refine wpList_append_own _ rfl _ _ 32 rfl W.heap.size 5 j0 (.int .u8 0) 1 1 Try.underlying32 hj0 hy0 hy1 hy2 rfl (by decide) _ _ _ rfl (HO6.out.alloc _) ⟨wr.heap.size, 0, none⟩ 1 1 [.int .u8 (q : Int)] rfl rfl newsN ?c2 ?c3 ?c4 ?c5 ?_))
              case c2 => intro u hu; simp at hu; subst hu; rfl
              case c3 => unfold maxLen; omega
              case c4 => omega
              case c5 => have := HB6.out.size; simp; omega
              intro v' w1 hown' hgrow _
              have HO7 : Hid (w1.ownsRow W.heap.size 5 1 v' ((p.drop j).reverse.map (48 + ·)).length (u8s ((p.drop j).reverse.map (48 + ·)))) := Lib.hid (by rw [HDR.out]; simpa [u8s] using hown')
              have HB7 : Hid (Below W.heap.size W w1) := Lib.hid (append8_below HB6.out HO6.out HB6.out.size hgrow)
              clear hown' hgrow
              go_wp2_with fail
              go_roundw
              case rel => exact ⟨j, by go_num, by omega, HO7.out, HB7.out⟩
              case measure => simp [intOf] <;> omega
        · have hd1 : decide ((1 : Int) < (p.length : Int)) = false := by simp; omega
          clear hnz hk
          go_wp2_with fail
          generalize wr = W at *
          have hgW : g < W.heap.size := (HO5.out.lt g rfl).2
          clear e0
          go_loopw [10, 11] (fun ov kv wr3 => ∃ j : Nat, kv = .int .i64 ((j : Int) - 1) ∧ j ≤ p.length ∧ wr3.ownsRow W.heap.size 5 1 ov ((p.drop j).reverse.map (48 + ·)).length (u8s ((p.drop j).reverse.map (48 + ·))) ∧ Below W.heap.size W wr3) (fun _ kv _ => ((intOf kv) + 1).toNat)
          case atStart =>
            refine ⟨p.length, by first | (rw [hkI]) | (congr 1; omega), Nat.le_refl _, ?_, Below.refl _ _⟩
            simp only [List.drop_length, List.reverse_nil, List.map_nil, List.length_nil]
            exact World.ownsRow_nil _ _ _ _
          case round =>
            obtain ⟨j, rfl, hj, hown, hbl⟩ := hrel
            have HO6 := Lib.hid hown
            have HB6 := Lib.hid hbl
            clear hown hbl
            cases j with
            | zero =>
              rw [List.drop_zero] at HO6
              obtain ⟨aa, cc, rfl⟩ := row_slice HO6.out
              have hcv := conv_at (row_bsl HO6.out (by
                intro x hx
                simp only [List.mem_map, List.mem_reverse] at hx
                obtain ⟨y, hy, rfl⟩ := hx
                have := HPL.out y hy
                omega)) cc
              rw [bytesOf_size] at hcv
              simp only [List.length_map, List.length_reverse] at hcv
              have hneg : (((0 : Nat) : Int) - 1) = -1 := rfl
              go_wp2_with fail
              go_ret
              exact ⟨by rw [HRES.out, List.map_reverse] <;> rfl, HB5.out.trans (HB6.out.mono HB5.out.size)⟩
            | succ j =>
              have hjI : (((j + 1 : Nat) : Int) - 1) = (j : Int) := by omega
              have hjp : j < p.length := by omega
              have e1 : wr.cell? ⟨g, j, none⟩ = some (.int .i64 ((p[j] : Nat) : Int)) := by rw [HB6.out.cell (p := ⟨g, j, none⟩) hgW, HO5.out.cellAt j (by omega), i64s_get p j hjp]
              have hpj := HPL.out _ (List.getElem_mem hjp)
              have HDR : Hid ((p.drop j).reverse.map (48 + ·) = (p.drop (j + 1)).reverse.map (48 + ·) ++ [48 + p[j]]) := Lib.hid (by rw [List.drop_eq_getElem_cons hjp, List.reverse_cons, List.map_append]; rfl)
              generalize p[j] = y at *
              obtain ⟨q, hq⟩ : ∃ q, 48 + y = q := ⟨_, rfl⟩
              have hqI : (48 : Int) + (y : Int) = (q : Int) := by omega
              have hq2 : q < 60 := by omega
              rw [hq] at HDR
              clear hq
              have hlL : ((p.drop (j + 1)).reverse.map (48 + ·)).length ≤ 40000 := by simp; omega
              generalize (p.drop (j + 1)).reverse.map (48 + ·) = L at *
              rw [hjI]
              go_wp2_with (first
                | (at_builtin; refine wpList_append_own _ rfl _ _ 32 rfl W.heap.size 5 j0 (.int .u8 0) 1 1 Try.underlying32 hj0 hy0 hy1 hy2 rfl (by decide) _ _ _ rfl (HO6.out.alloc _) ⟨wr.heap.size, 0, none⟩ 1 1 [.int .u8 (q : Int)] rfl rfl newsN ?c2 ?c3 ?c4 ?c5 ?_))
              case c2 => intro u hu; simp at hu; subst hu; rfl
              case c3 => unfold maxLen; omega
              case c4 => omega
              case c5 => have := HB6.out.size; simp; omega
              intro v' w1 hown' hgrow _
              have HO7 : Hid (w1.ownsRow W.heap.size 5 1 v' ((p.drop j).reverse.map (48 + ·)).length (u8s ((p.drop j).reverse.map (48 + ·)))) := Lib.hid (by rw [HDR.out]; simpa [u8s] using hown')
              have HB7 : Hid (Below W.heap.size W w1) := Lib.hid (append8_below HB6.out HO6.out HB6.out.size hgrow)
              clear hown' hgrow
              go_wp2_with fail
              go_roundw
              case rel => exact ⟨j, by go_num, by omega, HO7.out, HB7.out⟩
              case measure => simp [intOf] <;> omega
end Go.Proofs.Ytppnjliamfnlkaa
