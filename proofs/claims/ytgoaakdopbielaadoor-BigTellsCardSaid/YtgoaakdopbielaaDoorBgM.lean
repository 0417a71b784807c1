import Derived.Test.YtgoaakdopbielaaDoorBgK
import Derived.Test.YtgoaakdopbielaaDoorBgL
import Derived.Test.YtgoaakdopbielaaDoorReg
import Derived.BigQuiet
namespace Go.Proofs.YtgoaakdopbielaaDoor
open Go.RowKit
set_option linter.unusedSimpArgs false
set_option linter.unusedVariables false
set_option linter.unusedSectionVars false

/-! Layer 9: a quotient of rows. -/
theorem put_put (L : List Int) (i : Nat) (m m2 : List Int) (h : m2.length = m.length) (hl : i + m.length ≤ L.length) : putL (putL L i m) i m2 = putL L i m2 := by
  have h1 : (putL L i m).take i = L.take i := put_take L i m (by omega)
  have h2 : (putL L i m).drop (i + m2.length) = L.drop (i + m2.length) := put_drop L i m hl _ (by omega)
  unfold putL at h1 h2 ⊢
  rw [h1, h2]
theorem div_start {D A : List Int} {n : Nat} (hD : canon D) (hn : D.length = n) (hn1 : 1 ≤ n) (hA : okR A) :
    DivS D (A ++ [0]) (List.replicate (A.length + 1 - n) 0) (A.length + 1) (A.length + 1 - n) (valI A) (A.length + 1 - n) := by
  have hDn : D ≠ [] := by intro e; rw [e] at hn; simp at hn; omega
  obtain ⟨m, x, hm⟩ : ∃ m x, D = m ++ [x] := ⟨D.dropLast, D.getLast hDn, (List.dropLast_concat_getLast _).symm⟩
  have hlow : powB (n - 1) ≤ valI D := by
    have h1 := canon_low (m := m) (x := x) (by rw [← hm]; exact hD)
    have h2 : m.length = n - 1 := by rw [hm] at hn; simp at hn; omega
    rw [hm, ← h2]; exact h1
  refine ⟨by simp, by simp, hA.app (okR.mk ⟨by decide, by decide⟩ okR.nil), ?_, ?_, ?_⟩
  · rw [List.drop_eq_nil_of_le (by simp)]; exact okR.nil
  · rw [app0_val, show (List.replicate (A.length + 1 - n) (0 : Int)).drop (A.length + 1 - n) = [] from List.drop_eq_nil_of_le (by simp)]
    show valI A + valI D * (powB _ * 0) = _
    rw [Int.mul_zero, Int.mul_zero, Int.add_zero]
  · by_cases hle : n ≤ A.length + 1
    · have e : (A ++ [0]).drop (A.length + 1 - n) = A.drop (A.length + 1 - n) ++ [0] := by rw [List.drop_append_of_le_length (by omega)]
      rw [e, app0_val]
      have h3 := valI_lt _ (hA.drop (A.length + 1 - n))
      rw [List.length_drop, show A.length - (A.length + 1 - n) = n - 1 by omega] at h3
      omega
    · rw [show A.length + 1 - n = 0 by omega, List.drop_zero, app0_val]
      have h3 := valI_lt A hA
      have h4 := powB_mono (show A.length ≤ n - 1 by omega)
      omega
theorem one_blk (w : World) (f : Int) : Blk (w.alloc (.cells #[.int .i64 f] 3)) w.heap.size [f] := heap_alloc_new w _
theorem RowA.drew {w : World} {v : Value} {a : List Int} (h : RowA w v a) : RowA w.drew v a := by
  obtain ⟨p, o, cap, L, h1, h2, h3⟩ := h
  exact ⟨p, o, cap, L, h1, h2, h3⟩
set_option maxRecDepth 100000 in
set_option maxHeartbeats 6400000 in
theorem by_v (va vb : Value) (a b : List Int) (w : World) (hA : RowA w va a) (hB : RowA w vb b) (ha : okR a) (hb : canon b) (hbn : b ≠ []) (hla : a.length ≤ 1000) (hlb : b.length ≤ 1000) :
    Calls Tryd.prog 52 #[va, vb] w fun e w' => ∃ v c, e = .returned v ∧ RowA w' v c ∧ canon c ∧ valI c = valI a / valI b ∧ c.length ≤ a.length + 2 ∧ Below w.heap.size w w' := by
  obtain ⟨q, r, capB, M, rfl, hM, hMw, hMl, hcB⟩ := hB
  obtain ⟨m, d, hmd⟩ : ∃ m x, b = m ++ [x] := ⟨b.dropLast, b.getLast hbn, (List.dropLast_concat_getLast _).symm⟩
  obtain ⟨k, hk⟩ : ∃ k, m.length = k := ⟨_, rfl⟩
  have hbl : b.length = k + 1 := by rw [hmd]; simp [hk]
  have hdat : b[k]? = some d := by rw [hmd, List.getElem?_append_right (by omega), hk, Nat.sub_self]; rfl
  have hdok := hb.1 d (List.mem_of_getElem? hdat)
  have hd0 : d ≠ 0 := hb.2 d (by rw [hmd]; simp)
  unfold okP at hdok
  have hB9 : BB = 1000000000 := rfl
  obtain ⟨f, hf⟩ : ∃ f, BB / (d + 1) = f := ⟨_, rfl⟩
  obtain ⟨f1, f2, f3⟩ := factor_ok (show 0 < d by omega) hdok.2
  rw [hf] at f1 f2 f3
  have hft : Int.tdiv 1000000000 (d + 1) = f := by rw [← hf]; exact Int.tdiv_eq_ediv_of_nonneg (by omega)
  have hcd := hM.cellD (r + k) d (win_cells hMw k d hdat)
  have hA1 := hA.below (w' := w.alloc (.cells #[.int .i64 f] 3)) ((Below.refl _ _).alloc (Nat.le_refl _) _)
  have hF1 : RowA (w.alloc (.cells #[.int .i64 f] 3)) (.slice (some ⟨w.heap.size, 0, none⟩) 1 1) [f] := ⟨w.heap.size, 0, 1, [f], rfl, one_blk w f, rfl, Nat.le_refl _, Nat.le_refl _⟩
  have hB1 : RowA (w.alloc (.cells #[.int .i64 f] 3)) (.slice (some ⟨q, r, none⟩) b.length capB) b := RowA.below ⟨q, r, capB, M, rfl, hM, hMw, hMl, hcB⟩ ((Below.refl _ _).alloc (Nat.le_refl _) _)
  have hb1 : Below w.heap.size w (w.alloc (.cells #[.int .i64 f] 3)) := (Below.refl _ _).alloc (Nat.le_refl _) _
  have hfo : okR [f] := okR.mk ⟨by omega, f2⟩ okR.nil
  have w1 : IntKind.i64.wrap (d + 1) = d + 1 := IntWalk.i64_in _ (by omega)
  have w2 : IntKind.i64.wrap f = f := IntWalk.i64_in _ (by omega)
  have w3 : wrap64 f = f := IntWalk.wrap64_in _ (by omega)
  have hdz : ¬ d + 1 = 0 := by omega
  have hkb : k < b.length := by omega
  have HT1 := Lib.hid (fun (W : World) (hW : Below w.heap.size w W) (ha1 : RowA W va a) (hf1 : RowA W (.slice (some ⟨w.heap.size, 0, none⟩) 1 1) [f]) => times_v va _ a [f] W ha1 hf1 ha hfo (by omega) (by simp))
  have HT2 := Lib.hid (fun (W : World) (hb2 : RowA W (.slice (some ⟨q, r, none⟩) b.length capB) b) (hf1 : RowA W (.slice (some ⟨w.heap.size, 0, none⟩) 1 1) [f]) => times_v _ _ b [f] W hb2 hf1 hb.1 hfo (by omega) (by simp))
  have HA1 := Lib.hid hA1
  have HF1 := Lib.hid hF1
  have HB1 := Lib.hid hB1
  have HBL1 := Lib.hid hb1
  have hk1000 : k ≤ 1000 := by omega
  have hkbi : (k : Int) < (b.length : Int) := by omega
  have hbli : (b.length : Int) - 1 = (k : Int) := by omega
  rw [hbl] at *
  clear hA hM hMw hMl hA1 hF1 hB1 hb1
  go_enter Tryd.func52, Tryd.ntmps52
  go_wp2_with fail
  have ht1 := HT1.out _ HBL1.out HA1.out HF1.out
  go_at_call 51
  with_reducible refine Calls.mono ht1 ?_
  rintro e w2 ⟨v1, c1, rfl, hr1, hc1, hv1, hl1, hbl1⟩
  have hB2 := HBL1.out.trans (hbl1.mono HBL1.out.size)
  have hw1z : (w.alloc (.cells #[.int .i64 f] 3)).heap.size = w.heap.size + 1 := by simp
  have hBr2 := HB1.out.below hbl1
  have hFr2 := HF1.out.below hbl1
  obtain ⟨p1, o1, cap1, L1, hp1, rfl, hL1, hL1w, hL1l, hcap1⟩ := hr1
  have hwd := wider_v p1 o1 cap1 c1 L1 w2 hL1 hL1w (by simp at hl1; omega)
  have HC1 := Lib.hid hc1
  have HV1 := Lib.hid hv1
  have HB2 := Lib.hid hB2
  have HBr2 := Lib.hid hBr2
  have HFr2 := Lib.hid hFr2
  have hc1l : c1.length ≤ 1001 := by simp at hl1; omega
  have HC1L := Lib.hid hl1
  clear hc1 hv1 hl1 hbl1 hB2 hBr2 hFr2 hL1 hL1w hL1l hcap1 ht1
  go_wp2_with fail
  go_at_call 71
  with_reducible refine Calls.mono hwd ?_
  rintro e w3 ⟨rfl, hR3, hb3⟩
  have hB3 := HB2.out.trans (hb3.mono HB2.out.size)
  have ht2 := HT2.out w3 (HBr2.out.below hb3) (HFr2.out.below hb3)
  have hlt3 := hR3.lt
  have HR3 := Lib.hid hR3
  have HB3 := Lib.hid hB3
  clear hR3 hb3 hB3 hwd
  go_wp2_with fail
  go_at_call 51
  with_reducible refine Calls.mono ht2 ?_
  rintro e w4 ⟨v2, D, rfl, hr4, hc4, hv4, hl4, hb4⟩
  have hB4 := HB3.out.trans (hb4.mono HB3.out.size)
  have hR4 := HR3.out.below hb4
  obtain ⟨pd, od, capd, LD, hpd, rfl, hLD, hLDw, hLDl, hcapd⟩ := hr4
  have hsv : valI D = valI (m ++ [d]) * f := by rw [hv4, hmd]; simp [valI]
  obtain ⟨hDl, _, _, hd1⟩ := scale_len (by rw [← hmd]; exact hb) hc4 hf.symm hsv
  rw [hk] at hDl
  have hDne : D ≠ [] := by intro e; rw [e] at hDl; simp at hDl
  have hA0 : valI c1 = valI a * f := by rw [HV1.out]; simp [valI]
  have hDS := div_start hc4 hDl (by omega) HC1.out.1
  have hD0 : 0 < valI D := by
    have h0 := valI_nonneg D hc4.1
    by_cases hz : valI D = 0
    · exact absurd (canon_zero hc4 hz) hDne
    · omega
  have hquot : valI c1 / valI D = valI a / valI b := by
    rw [hA0, hsv, ← hmd]
    have hbv : 0 < valI b := by
      have h0 := valI_nonneg b hb.1
      by_cases hz : valI b = 0
      · exact absurd (canon_zero hb hz) hbn
      · omega
    exact quot_scale hbv (by omega) (valI_nonneg a ha)
  have hprd : w2.heap.size ≠ pd := by omega
  have hpr2 : w.heap.size ≤ w2.heap.size := HB2.out.size
  have hpd2 : w.heap.size ≤ pd := by omega
  obtain ⟨pr, hpr⟩ : ∃ pr, w2.heap.size = pr := ⟨_, rfl⟩
  rw [hpr] at hR4 hprd hlt3 hpr2 ⊢
  obtain ⟨N, hN⟩ : ∃ N, c1.length = N := ⟨_, rfl⟩
  rw [hN] at hDS hc1l ⊢
  rw [hDl]
  obtain ⟨lo, hlo⟩ : ∃ lo, N + 1 - (k + 1) = lo := ⟨_, rfl⟩
  rw [hlo] at hDS
  have hmk := run_make_row' (P := Tryd.prog) 42 3 (.int .i64 0) 8 Tryd.underlying42 (by kernel_rfl) rfl .i64 .i64 lo (by omega) (by omega)
  have hmax : max 0 ((N : Int) + 1 - ((k : Int) + 1)) = (lo : Int) := by omega
  have hmax2 : max ((N : Int) + 1 - ((k : Int) + 1)) 0 = (lo : Int) := by omega
  obtain ⟨md, dd, hmdD, hmdl, hddat⟩ := top_get hDl
  have hddok := hc4.1 dd (List.mem_of_getElem? hddat)
  have hdd0 : dd ≠ 0 := hc4.2 dd (by rw [hmdD]; simp)
  unfold okP at hddok
  have HDOK : Hid (okR D) := Lib.hid hc4.1
  have HDC := Lib.hid hc4
  have HDL := Lib.hid hDl
  have HMDD := Lib.hid hmdD
  have HD0 := Lib.hid hD0
  have HQ := Lib.hid hquot
  have HLD := Lib.hid hLD
  have HCD : Hid (∀ W, Blk W pd LD → W.cell? ⟨pd, od + k, none⟩ = some (.int .i64 dd)) := Lib.hid (fun W h => h.cellD (od + k) dd (win_cells hLDw k dd hddat))
  have HTAKE : Hid (∀ (W : World) (R : List Int) (c : Nat) (V p1 p0 g : Int), Blk W pr R → Blk W pd LD → R.length = N + 1 → c + (k + 1 + 1) ≤ N + 1 → StepS D (winL R c (k + 1 + 1)) V dd p1 p0 (k + 1) → g = (p1 * BB + p0) / dd →
      Calls Tryd.prog 73 #[.slice (some ⟨pr, c, none⟩) (k + 1 + 1) (k + 1 + 1), .slice (some ⟨pd, od, none⟩) (k + 1) capd, .int .i64 g] W fun e w' => e = .returned (.tuple #[]) ∧ Blk w' pr (putL R c (takL 0 (winL R c (k + 1 + 1)) D g)) ∧ Keeps (fun b => b = pr) W w') := Lib.hid (by
    intro W R c V p1 p0 g hR hLd hRl hfit hS hg
    have h := take_v pr c (k + 1) (k + 1 + 1) pd od (k + 1) capd g R LD W hR hLd hprd (by omega) (by omega) (Nat.le_refl _) (okI_of hS.wok) (by rw [← hDl, hLDw]; exact hc4.1) ⟨by rw [hg]; exact hS.g0, by rw [hg]; exact hS.gle⟩ (by omega) (fun x hx => by
      obtain ⟨y, h1, h2⟩ := win_get R c (k + 1 + 1) (k + 1) (by omega) (by omega)
      rw [hx] at h1
      rw [hS.at1] at h2
      have := hS.ok1
      unfold okP at this
      have e1 := Option.some.inj h1
      have e2 := Option.some.inj h2
      omega)
    have e : winL LD od (k + 1) = D := by rw [← hDl]; exact hLDw
    rw [e] at h
    exact h)
  have HADD : Hid (∀ (W : World) (R Wc : List Int) (c : Nat) (V g : Int), Blk W pr (putL R c Wc) → Blk W pd LD → R.length = N + 1 → c + (k + 1 + 1) ≤ N + 1 → GuessS D Wc V g (k + 1) → 0 ≤ V →
      Calls Tryd.prog 72 #[.slice (some ⟨pr, c, none⟩) (k + 1 + 1) (k + 1 + 1), .slice (some ⟨pd, od, none⟩) (k + 1) capd, .int .i64 1] W fun e w' => e = .returned (.tuple #[]) ∧ Blk w' pr (putL R c (addL 0 Wc D 1)) ∧ Keeps (fun b => b = pr) W w') := Lib.hid (by
    intro W R Wc c V g hR hLd hRl hfit hG hV
    have hWl := hG.len
    have hpl : (putL R c Wc).length = N + 1 := by rw [put_len _ _ _ (by omega), hRl]
    have hwin : winL (putL R c Wc) c (k + 1 + 1) = Wc := by rw [← hWl]; exact put_winS R c Wc (by omega)
    have h := add_v pr c (k + 1) (k + 1 + 1) pd od (k + 1) capd 1 (putL R c Wc) LD W hR hLd hprd (by omega) (by omega) (Nat.le_refl _) (by rw [hwin]; exact hG.ok) (by rw [← hDl, hLDw]; exact hc4.1) ⟨by decide, by decide⟩ (by omega) (fun x hx => by
      obtain ⟨y, h1, h2⟩ := win_get (putL R c Wc) c (k + 1 + 1) (k + 1) (by omega) (by omega)
      rw [hx] at h1
      rw [hwin] at h2
      have := guess_top hc4.1 hDl hV hG h2
      have e1 := Option.some.inj h1
      omega)
    have e : winL LD od (k + 1) = D := by rw [← hDl]; exact hLDw
    rw [e, hwin, put_put R c Wc _ (by rw [addL_len]) (by omega)] at h
    exact h)
  go_wp2_with fail
  have hb5 : Below w4.heap.size w4 (w4.alloc (.cells (madeCells #[.int .i64 0] lo) 3)) := (Below.refl _ _).alloc (Nat.le_refl _) _
  have HP5 := Lib.hid (Blk.made w4 lo)
  have HR5 := Lib.hid (hR4.below hb5)
  have HL5 := Lib.hid (HLD.out.below hb5)
  have HB5 := Lib.hid (hB4.trans (hb5.mono hB4.size))
  have HDS := Lib.hid hDS
  have hpo1 : pr < w4.heap.size := by have := hb4.size; omega
  have hpo2 : pd < w4.heap.size := HLD.out.lt
  have hpo3 : w.heap.size ≤ w4.heap.size := hB4.size
  have hloN : lo + (k + 1) ≤ N + 1 ∨ lo = 0 := by omega
  obtain ⟨po, hpo⟩ : ∃ po, w4.heap.size = po := ⟨_, rfl⟩
  rw [hpo] at HP5 hpo1 hpo2 hpo3 ⊢
  generalize w4.alloc (.cells (madeCells #[.int .i64 0] lo) 3) = w5 at *
  have hddz : ¬ dd = 0 := hdd0
  clear hb5 hR4 hB4 hDS hLD hLDw hLDl hb4 hpr hmk hmax hmax2 hquot hD0 hmdl hmdD hddat hc4 hv4 hl4 hsv hDl hDne hA0 hlo hpo hcd hdat
  go_loopw [38] (fun iv wr => ∃ (i : Nat) (R O : List Int), iv = .int .i64 i ∧ i ≤ lo ∧ DivS D R O (N + 1) lo (valI c1) (lo - i) ∧ Blk wr pr R ∧ Blk wr po O ∧ Blk wr pd LD ∧ Below w.heap.size w wr) (fun iv _ => lo - (intOf iv).toNat)
  case atStart => exact ⟨0, _, _, rfl, by omega, HDS.out, HR5.out, HP5.out, HL5.out, HB5.out⟩
  case round =>
    obtain ⟨i, R, O, rfl, hi, hS, hR, hO, hLd, hbr⟩ := hrel
    have HS := Lib.hid hS
    have HO := Lib.hid hO
    have HL := Lib.hid hLd
    have HBR := Lib.hid hbr
    by_cases hlt : i < lo
    · have hlti : (i : Int) < (lo : Int) := by omega
      obtain ⟨c, hc⟩ : ∃ c, lo - i = c + 1 := ⟨lo - i - 1, by omega⟩
      rw [hc] at HS hS
      have hat : (lo : Int) - 1 - (i : Int) = (c : Int) := by omega
      have hfit : c + (k + 1 + 1) ≤ N + 1 := by omega
      obtain ⟨V, p1, p0, hst, hp0, hV, hz, _⟩ := step_window HMDD.out HDC.out HDL.out HS.out (by omega)
      have hRl := hS.rlen
      have hcp1 := hR.cellD (c + (k + 1)) p1 (by
        obtain ⟨y, h1, h2⟩ := win_get R c (k + 1 + 1) (k + 1) (by omega) (by omega)
        rw [hst.at1] at h2
        rw [h1]; exact h2.symm)
      have hcp0 := hR.cellD (c + k) p0 (by
        obtain ⟨y, h1, h2⟩ := win_get R c (k + 1 + 1) k (by omega) (by omega)
        rw [show k + 1 - 1 = k from rfl] at hp0
        rw [hp0] at h2
        rw [h1]; exact h2.symm)
      have hcp1d : wr.drew.cell? ⟨pr, c + (k + 1), none⟩ = some (.int .i64 p1) := hcp1
      have hcp0d : wr.drew.cell? ⟨pr, c + k, none⟩ = some (.int .i64 p0) := hcp0
      have hcdd := HCD.out wr hLd
      have hcddd : wr.drew.cell? ⟨pd, od + k, none⟩ = some (.int .i64 dd) := hcdd
      have hk1 := hst.ok1
      have hk0 := hst.ok0
      have hple := hst.le1
      unfold okP at hk1 hk0
      obtain ⟨g, hg⟩ : ∃ g, (p1 * BB + p0) / dd = g := ⟨_, rfl⟩
      have hgle := hst.gle
      have hg0 := hst.g0
      rw [hg] at hgle hg0
      have hpB0 : 0 ≤ p1 * BB + p0 := by have := Int.mul_nonneg hk1.1 (show (0 : Int) ≤ BB by decide); omega
      have hgt : Int.tdiv (p1 * 1000000000 + p0) dd = g := by rw [← hg]; exact Int.tdiv_eq_ediv_of_nonneg hpB0
      have q1 : IntKind.i64.wrap (p1 * 1000000000) = p1 * 1000000000 := IntWalk.i64_in _ (by omega)
      have q2 : IntKind.i64.wrap (p1 * 1000000000 + p0) = p1 * 1000000000 + p0 := IntWalk.i64_in _ (by omega)
      have q3 : IntKind.i64.wrap g = g := IntWalk.i64_in _ (by omega)
      have q4 : IntKind.i64.wrap (k : Int) = (k : Int) := IntWalk.i64_in _ (by omega)
      have q5 : IntKind.i64.wrap ((k : Int) + 1 - 1) = (k : Int) := by rw [show (k : Int) + 1 - 1 = (k : Int) by omega]; exact IntWalk.i64_in _ (by omega)
      have q6 : wrap64 g = g := IntWalk.wrap64_in _ (by omega)
      have q7 : IntKind.i64.wrap (c : Int) = (c : Int) := IntWalk.i64_in _ (by omega)
      have q8 : IntKind.i64.wrap ((lo : Int) - 1) = (lo : Int) - 1 := IntWalk.i64_in _ (by omega)
      have hkk : ((k : Int) + 1).toNat = k + 1 := by omega
      have r1 : (0 : Int) ≤ (k : Int) + 1 := by omega
      have r2 : (k : Int) < (k : Int) + 1 := by omega
      have r3 : (k : Int) < (k : Int) + 1 + 1 := by omega
      have r4 : (k : Int) + 1 < (k : Int) + 1 + 1 := by omega
      have r5 : k < k + 1 + 1 := by omega
      have hwin := fun w2 => window_v pr 0 (N + 1) (N + 1) c (k + 1 + 1) w2 (by omega) hfit (by omega)
      rw [show ((k + 1 + 1 : Nat) : Int) = (k : Int) + 1 + 1 from by omega, Nat.zero_add] at hwin
      have htk := HTAKE.out wr.drew R c V p1 p0 g hR hLd hRl hfit hst hg.symm
      have HGF := Lib.hid (guess_first HD0.out HDL.out hst)
      rw [hg] at HGF
      have HST := Lib.hid hst
      have HV := Lib.hid hV
      have HZ := Lib.hid hz
      have hV0 := hst.v0
      have HRL := Lib.hid hRl
      have HCC := Lib.hid hc
      have hclo : c < lo := by omega
      have hcloi : (c : Int) < (lo : Int) := by omega
      clear hS hR hO hLd hbr hst hp0 hV hz hRl hg hc
      go_wp2_with (go_at_call 74; with_reducible refine Calls.mono (hwin _) ?_; rintro e w2 ⟨rfl, hw2⟩; replace hw2 := hw2.symm; subst hw2)
      have z1 : ∀ i : Wld (fun W => W = wr.drew), i.w.cell? ⟨pr, c + (k + 1), none⟩ = some (.int .i64 p1) := fun i => by rw [i.ok]; exact hcp1d
      have z2 : ∀ i : Wld (fun W => W = wr.drew), i.w.cell? ⟨pr, c + k, none⟩ = some (.int .i64 p0) := fun i => by rw [i.ok]; exact hcp0d
      have z3 : ∀ i : Wld (fun W => W = wr.drew), i.w.cell? ⟨pd, od + k, none⟩ = some (.int .i64 dd) := fun i => by rw [i.ok]; exact hcddd
      have hneW : Nonempty (Wld (fun W => W = wr.drew)) := ⟨⟨_, rfl⟩⟩
      refine wp_region_inv (fun W => W = wr.drew) (by kernel_rfl) (by kernel_rfl) rfl ?_
      repeat (go_big_quiet_step (fail))
      refine wpQuiet_nil ?_
      intro w6 hw6
      obtain ⟨i6, rfl⟩ := hw6
      obtain ⟨W6, hW6⟩ := i6
      subst hW6
      simp only
      clear hneW z1 z2 z3
      clear hcp1d hcp0d hcddd hcp1 hcp0 hcdd hgt q1 q2 hk1 hk0 hple hpB0
      go_wp2_with (go_at_call 73; with_reducible refine Calls.mono htk ?_; rintro e w3 ⟨rfl, hb3, hk3⟩; have HB3 := Lib.hid hb3; have HK3 := Lib.hid hk3; clear hb3 hk3 htk)
      have hO3 : Blk w3 po O := Blk.keep (w := wr.drew) HO.out HK3.out (show ¬ po = pr from fun e => by omega)
      have hL3 : Blk w3 pd LD := Blk.keep (w := wr.drew) HL.out HK3.out (show ¬ pd = pr from fun e => hprd e.symm)
      have hBL3 : Below w.heap.size w w3 := HBR.out.drew.trans (HK3.out.below HBR.out.drew.size (fun b hb => by omega))
      have HO3 := Lib.hid hO3
      have HL3 := Lib.hid hL3
      have HBL3 := Lib.hid hBL3
      clear hO3 hL3 hBL3
      go_loopw [12] (fun gv wq => ∃ (g : Int) (Wc : List Int), gv = .int .i64 g ∧ GuessS D Wc V g (k + 1) ∧ Blk wq pr (putL R c Wc) ∧ Blk wq po O ∧ Blk wq pd LD ∧ Below w.heap.size w wq) (fun gv _ => (intOf gv).toNat)
      case atStart => exact ⟨g, _, rfl, HGF.out, HB3.out, HO3.out, HL3.out, HBL3.out⟩
      case round =>
        obtain ⟨gg, Wc, rfl, hG, hB, hO4, hL4, hB4⟩ := hrel
        have HG := Lib.hid hG
        have HB := Lib.hid hB
        have HO4 := Lib.hid hO4
        have HL4 := Lib.hid hL4
        have HB4 := Lib.hid hB4
        have hWl := hG.len
        obtain ⟨x, hx⟩ : ∃ x, Wc[k + 1]? = some x := ⟨Wc[k + 1]'(by omega), List.getElem?_eq_getElem _⟩
        obtain ⟨hsign, hx1, hx2⟩ := guess_top HDOK.out HDL.out hV0 hG hx
        have hcx := hB.cellD (c + (k + 1)) x (by
          have hRl := HRL.out
          obtain ⟨y, h1, h2⟩ := win_get (putL R c Wc) c (k + 1 + 1) (k + 1) (by omega) (by rw [put_len _ _ _ (by omega)]; omega)
          have h3 : winL (putL R c Wc) c (k + 1 + 1) = Wc := by rw [← hWl]; exact put_winS R c Wc (by omega)
          rw [h3, hx] at h2
          rw [h1]; exact h2.symm)
        have hgle := hG.gle
        have hgg0 := hG.g0
        have s1 : IntKind.i64.wrap (gg - 1) = gg - 1 := IntWalk.i64_in _ (by omega)
        have s2 : wrap64 (gg - 1) = gg - 1 := IntWalk.wrap64_in _ (by omega)
        by_cases hneg : x < 0
        · have hnd : decide (x < 0) = true := decide_eq_true hneg
          obtain ⟨hG2, hg1⟩ := guess_more HD0.out HDL.out hV0 hG (hsign.1 hneg)
          have HG2 := Lib.hid hG2
          have had := HADD.out _ R Wc c V gg hB hL4 HRL.out hfit hG hV0
          clear hG hB hO4 hL4 hB4 hWl hx hsign hG2
          go_wp2_with (go_at_call 72; with_reducible refine Calls.mono had ?_; rintro e w6 ⟨rfl, hb6, hk6⟩; have HB6 := Lib.hid hb6; have HK6 := Lib.hid hk6; clear hb6 hk6 had)
          refine ⟨⟨gg - 1, _, rfl, HG2.out, HB6.out, HO4.out.keep HK6.out (show ¬ po = pr from fun e => by omega), HL4.out.keep HK6.out (show ¬ pd = pr from fun e => hprd e.symm), HB4.out.trans (HK6.out.below HB4.out.size (fun b hb => by omega))⟩, ?_⟩
          simp [intOf]; omega
        · have hnd : decide (x < 0) = false := decide_eq_false hneg
          have hpos : 0 ≤ valI Wc := by
            by_cases h : 0 ≤ valI Wc
            · exact h
            · exact absurd (hsign.2 (by omega)) hneg
          obtain ⟨hS2, hgok⟩ := step_done HDOK.out HD0.out HDL.out HS.out (by omega) hclo HV.out HZ.out HST.out.vlt hG hpos
          have HS2 := Lib.hid hS2
          have HO5 := Lib.hid (hO4.set c gg)
          have hfo := hO4.free c
          have hOl : O.length = lo := HS.out.olen
          obtain ⟨z, hz⟩ : ∃ z, O[c]? = some z := ⟨O[c]'(by omega), List.getElem?_eq_getElem _⟩
          have hco := hO4.cellD c z hz
          have HB5 := Lib.hid (hB.keep (S := fun b => b = po) ((Keeps.refl (fun b => b = po) wr).setCell (p := ⟨po, c, none⟩) (.inl rfl) (.int .i64 gg)) (by omega))
          have HL5 := Lib.hid (hL4.keep (S := fun b => b = po) ((Keeps.refl (fun b => b = po) wr).setCell (p := ⟨po, c, none⟩) (.inl rfl) (.int .i64 gg)) (by omega))
          have HBl5 := Lib.hid (hB4.setCell (p := ⟨po, c, none⟩) (by show w.heap.size ≤ po; omega) (.int .i64 gg))
          have hic : lo - (i + 1) = c := by have := HCC.out; omega
          clear hG hB hO4 hL4 hB4 hWl hx hsign hS2 hz hOl
          go_wp2_with fail
          refine ⟨⟨i + 1, _, _, by go_num, by omega, by rw [hic]; exact HS2.out, HB5.out, HO5.out, HL5.out, HBl5.out⟩, ?_⟩
          simp [intOf]; omega
    · have hie : lo - i = 0 := by omega
      have hlti : ¬ (i : Int) < (lo : Int) := by omega
      have hltd : decide ((i : Int) < (lo : Int)) = false := decide_eq_false hlti
      rw [hie] at HS
      obtain ⟨hv, ho⟩ := div_end HD0.out HS.out
      have hOl := HS.out.olen
      have htr := trimmed_v po 0 lo O O wr hO (win_full O) (by omega) (by omega)
      rw [hOl] at htr
      have HRW := Lib.hid (row_of hO (trim_take O).symm rfl (trim_le O))
      have HCN := Lib.hid (trim_ok O ho)
      have HVV : Hid (valI (trimL O) = valI a / valI b) := Lib.hid (by rw [trim_val, hv, HQ.out])
      have HLE : Hid ((trimL O).length ≤ a.length + 2) := Lib.hid (by
        have h1 := trim_le O
        have h2 := HC1L.out
        simp at h2
        omega)
      clear hS hR hO hLd hbr hv ho hOl
      go_wp2_with (go_at_call 66; with_reducible refine Calls.mono htr ?_; rintro e w7 ⟨rfl, hw7⟩; replace hw7 := hw7.symm; subst hw7)
      go_ret
      exact ⟨_, _, rfl, HRW.out, HCN.out, HVV.out, HLE.out, HBR.out⟩
end Go.Proofs.YtgoaakdopbielaaDoor
