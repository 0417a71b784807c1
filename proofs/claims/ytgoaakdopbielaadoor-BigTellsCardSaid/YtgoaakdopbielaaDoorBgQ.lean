import Derived.Test.YtgoaakdopbielaaDoorBgO
import Derived.Test.YtgoaakdopbielaaDoorBgP
namespace Go.Proofs.YtgoaakdopbielaaDoor
open Go.RowKit Go.Shelf
set_option linter.unusedSimpArgs false
set_option linter.unusedVariables false
set_option linter.unusedSectionVars false

/-! Layer 9: a number read. -/
theorem amt_trim (l : List UInt8) : Lib.trimPrefix l [45] = amtL l := by
  unfold Lib.trimPrefix Lib.hasPrefix
  rcases amt_cases l with ⟨r, rfl, h, _⟩ | ⟨hh, h, _⟩
  · rw [h, if_pos (by simp [List.isPrefixOf])]; rfl
  · rw [h, if_neg]
    intro hp
    cases l with
    | nil => simp [List.isPrefixOf] at hp
    | cons x r =>
      simp only [List.isPrefixOf, Bool.and_true, beq_iff_eq] at hp
      exact hh (by rw [← hp]; rfl)
def amtB (s : ByteArray) : ByteArray := ⟨(amtL s.data.toList).toArray⟩
theorem amountOf_v (s : ByteArray) (w : World) : Calls Tryd.prog 41 #[.string s] w fun e w' => e = .returned (.string (amtB s)) ∧ w' = w := by
  have h := fun w => Tryd.strings_TrimPrefix s ⟨#[45]⟩ w
  rw [show Lib.trimPrefix s.data.toList (⟨#[45]⟩ : ByteArray).data.toList = amtL s.data.toList from amt_trim _] at h
  rw [show (⟨(amtL s.data.toList).toArray⟩ : ByteArray) = amtB s from rfl] at h
  generalize amtB s = x at *
  go_enter Tryd.func41, Tryd.ntmps41
  go_wp2_with (go_at_call 62; with_reducible refine Calls.mono (h _) ?_; rintro e w2 ⟨rfl, hw2⟩; replace hw2 := hw2.symm; subst hw2)
  go_ret
  exact ⟨rfl, rfl⟩
theorem amt_sign (s : ByteArray) : ((amtB s).toList != s.toList) = signL s.data.toList := by
  rw [Lib.toList_data, Lib.toList_data]
  show (amtL s.data.toList != s.data.toList) = _
  rcases amt_cases s.data.toList with ⟨r, h, h1, h2⟩ | ⟨_, h1, h2⟩
  · rw [h2, h1, h, bne_iff_ne]
    intro e
    have := congrArg List.length e
    simp at this
  · rw [h1, h2]; simp
theorem amtB_size (s : ByteArray) : (amtB s).size = (amtL s.data.toList).length := List.size_toArray
/-- The cell of a number that is told. -/
def NumC (w : World) (p : Nat) (x y : Value) : Prop := w.heap[p]? = some (.cells #[x, y] 44 (0, 0))
theorem NumC.facts {w : World} {p : Nat} {x y : Value} (h : NumC w p x y) :
    w.cell? ⟨p, 0, none⟩ = some x ∧ w.frozen? ⟨p, 0, none⟩ = false ∧ w.cell? ⟨p, 1, none⟩ = some y ∧ w.frozen? ⟨p, 1, none⟩ = false ∧
    (∀ a, (w.setCell ⟨p, 0, none⟩ a).cell? ⟨p, 1, none⟩ = some y) ∧ (∀ a, (w.setCell ⟨p, 0, none⟩ a).frozen? ⟨p, 1, none⟩ = false) ∧
    (∀ a b, NumC ((w.setCell ⟨p, 0, none⟩ a).setCell ⟨p, 1, none⟩ b) p a b) ∧
    (∀ a b, ((w.setCell ⟨p, 0, none⟩ a).setCell ⟨p, 1, none⟩ b).cell? ⟨p, 0, none⟩ = some a) ∧
    (∀ a b, ((w.setCell ⟨p, 0, none⟩ a).setCell ⟨p, 1, none⟩ b).cell? ⟨p, 1, none⟩ = some b) := by
  have h1 : ∀ a, (w.setCell ⟨p, 0, none⟩ a).heap[p]? = some (.cells #[a, y] 44 (0, 0)) := fun a => by rw [heap_setCell h]; rfl
  have h2 : ∀ a b, ((w.setCell ⟨p, 0, none⟩ a).setCell ⟨p, 1, none⟩ b).heap[p]? = some (.cells #[a, b] 44 (0, 0)) := fun a b => by rw [heap_setCell (h1 a)]; rfl
  exact ⟨cell_of h 0, free_of h 0, cell_of h 1, free_of h 1, fun a => cell_of (h1 a) 1, fun a => free_of (h1 a) 1, h2, fun a b => cell_of (h2 a b) 0, fun a b => cell_of (h2 a b) 1⟩
theorem num_below {B : Nat} {w0 w : World} {p : Nat} (hb : Below B w0 w) (hp : B ≤ p) (a b : Value) : Below B w0 ((w.setCell ⟨p, 0, none⟩ a).setCell ⟨p, 1, none⟩ b) := (hb.setCell (p := ⟨p, 0, none⟩) hp a).setCell (p := ⟨p, 1, none⟩) hp b
theorem row_set {w : World} {v : Value} {c : List Int} {p : Nat} {x y : Value} (h : RowA w v c) (hn : NumC w p x y) (a b : Value) : RowA ((w.setCell ⟨p, 0, none⟩ a).setCell ⟨p, 1, none⟩ b) v c := by
  obtain ⟨q, o, cap, L, h1, h2, h3⟩ := h
  have hqp : q ≠ p := by
    intro e
    subst e
    unfold Blk at h2
    unfold NumC at hn
    rw [h2] at hn
    have e2 := Option.some.inj hn
    simp only [Obj.cells.injEq] at e2
    exact absurd e2.2.1 (by decide)
  have hk : Keeps (fun k => k = p) w ((w.setCell ⟨p, 0, none⟩ a).setCell ⟨p, 1, none⟩ b) := ((Keeps.refl (fun k => k = p) w).setCell (p := ⟨p, 0, none⟩) (.inl rfl) a).setCell (p := ⟨p, 1, none⟩) (.inl rfl) b
  exact ⟨q, o, cap, L, h1, h2.keep hk hqp, h3⟩
theorem dec_fig (F : ByteArray) (i : Nat) (b : UInt8) (h : F.data.toList[i]? = some b) (hf : isF b = true) : Utf8.decode F i = (b.toNat, 1) ∧ i < F.size := by
  have hi : i < F.data.toList.length := (List.getElem?_eq_some_iff.1 h).1
  have hz : i < F.size := by rw [Array.length_toList] at hi; exact hi
  have hb : byteN F i = b.toNat := by
    unfold byteN
    rw [List.getD_eq_getElem?_getD, h]; rfl
  have hff := fig_back b hf
  refine ⟨?_, hz⟩
  rw [decode_B F i hz]
  unfold decB
  rw [if_pos (by omega), hb]
set_option maxRecDepth 100000 in
set_option maxHeartbeats 6400000 in
theorem read_v (s : ByteArray) (w : World) (hp : plainD (amtL s.data.toList)) (hl : (amtL s.data.toList).length ≤ 1000) :
    Calls Tryd.prog 45 #[.string s] w fun e w' => ∃ b v c, e = .returned (.agg #[.bool b, v]) ∧ RowA w' v c ∧ canon c ∧ signZ b c = zL s.data.toList ∧ c.length ≤ 120 ∧ Below w.heap.size w w' := by
  have ham := fun w => amountOf_v s w
  have hsg := amt_sign s
  obtain ⟨F, hF⟩ : ∃ F, amtB s = F := ⟨_, rfl⟩
  have hFl : F.data.toList = amtL s.data.toList := by rw [← hF]; rfl
  obtain ⟨m, hm⟩ : ∃ m, (amtL s.data.toList).length = m := ⟨_, rfl⟩
  have hFm : F.size = m := by rw [← hF, amtB_size, hm]
  have hm0 : 0 < m := by rw [← hm]; exact List.length_pos_iff.2 hp.1
  rw [hF] at ham hsg
  obtain ⟨sg, hsge⟩ : ∃ sg, signL s.data.toList = sg := ⟨_, rfl⟩
  rw [hsge] at hsg
  have HZ : Hid (zL s.data.toList = if sg = true then -((undec F.data.toList : Nat) : Int) else (undec F.data.toList : Nat)) := Lib.hid (by unfold zL; rw [hsge, hFl])
  have HFIG : Hid (∀ i, i < m → ∃ b, F.data.toList[i]? = some b ∧ isF b = true) := Lib.hid (fun i hi => by
    have hil : i < F.data.toList.length := by rw [hFl, hm]; exact hi
    refine ⟨F.data.toList[i], List.getElem?_eq_getElem hil, ?_⟩
    have := hp.2.1
    rw [← hFl, List.all_eq_true] at this
    exact this _ (List.getElem_mem hil))
  have HLM : Hid (F.data.toList.length = m) := Lib.hid (by rw [hFl, hm])
  obtain ⟨N, hN⟩ : ∃ N, (m + 8) / 9 = N := ⟨_, rfl⟩
  have HR0 : Hid (RdS F.data.toList (List.replicate N 0) 0) := Lib.hid (by
    have := rd_start F.data.toList (by rw [hFl]; exact hp.1)
    rw [HLM.out, hN] at this
    exact this)
  have hNb : N ≤ 112 := by omega
  have hNi : ((m : Int) + 9 - 1) / 9 = (N : Int) := by omega
  have hNt : Int.tdiv ((m : Int) + 9 - 1) 9 = (N : Int) := by rw [Int.tdiv_eq_ediv_of_nonneg (by omega)]; exact hNi
  have hNt2 : Int.tdiv ((m : Int) + 8) 9 = (N : Int) := by rw [Int.tdiv_eq_ediv_of_nonneg (by omega)]; omega
  have hNi2 : ((m : Int) + 8) / 9 = (N : Int) := by omega
  have hmk := run_make_row' (P := Tryd.prog) 42 3 (.int .i64 0) 8 Tryd.underlying42 (by kernel_rfl) rfl .i64 .i64 N (by omega) (by omega)
  have hmb : m ≤ 1000 := by omega
  clear hF hFl hm hp hl hsge hN
  go_enter Tryd.func45, Tryd.ntmps45
  go_wp2_with (go_at_call 41; with_reducible refine Calls.mono (ham _) ?_; rintro e w2 ⟨rfl, hw2⟩; replace hw2 := hw2.symm; subst hw2)
  obtain ⟨wa, hwa⟩ : ∃ wa, wa = w.alloc (.cells #[.bool false, .slice none 0 0] 44) := ⟨_, rfl⟩
  obtain ⟨wb, hwb⟩ : ∃ wb, wb = wa.alloc (.cells (madeCells #[.int .i64 0] N) 3) := ⟨_, rfl⟩
  have hza : wa.heap.size = w.heap.size + 1 := by rw [hwa]; simp
  have hzb : wb.heap.size = w.heap.size + 1 + 1 := by rw [hwb]; simp [hza]
  have hnum : wa.heap[w.heap.size]? = some (.cells #[.bool false, .slice none 0 0] 44 (0, 0)) := by rw [hwa]; exact heap_alloc_new w _
  have hblk : Blk wb (w.heap.size + 1) (List.replicate N 0) := by rw [hwb, ← hza]; exact Blk.made wa N
  have hba : Below w.heap.size w wa := by rw [hwa]; exact (Below.refl _ _).alloc (Nat.le_refl _) _
  have hbb : Below wa.heap.size wa wb := by rw [hwb]; exact (Below.refl _ _).alloc (Nat.le_refl _) _
  have hbc : Below wb.heap.size wb (wb.iter F 0) := (Below.refl _ _).alloc (Nat.le_refl _) _
  have hnumc : (wb.iter F 0).heap[w.heap.size]? = some (.cells #[.bool false, .slice none 0 0] 44 (0, 0)) := (hbc.block _ (by omega)).trans ((hbb.block _ (by omega)).trans hnum)
  have hblkc : Blk (wb.iter F 0) (w.heap.size + 1) (List.replicate N 0) := hblk.below hbc
  have hitc : (wb.iter F 0).heap[w.heap.size + 1 + 1]? = some (.stringIter F 0) := iter_at hzb.symm _ _
  have hblc : Below w.heap.size w (wb.iter F 0) := (hba.trans (hbb.mono (by omega))).trans (hbc.mono (by omega))
  rw [← hwa, ← hwb]
  have HNUM := Lib.hid hnumc
  have HBLK := Lib.hid hblkc
  have HIT := Lib.hid hitc
  have HBLC := Lib.hid hblc
  clear hwa hwb hza hzb hnum hblk hba hbb hbc hnumc hblkc hitc hblc ham hmk hNi hNt hNt2 hNi2
  obtain ⟨pn, hpn⟩ : ∃ pn, w.heap.size = pn := ⟨_, rfl⟩
  rw [hpn] at HNUM HBLK HIT HBLC ⊢
  go_loopw [7] (fun _ wr => ∃ (i : Nat) (O : List Int), i ≤ m ∧ RdS F.data.toList O i ∧ Blk wr (pn + 1) O ∧ wr.heap[pn + 1 + 1]? = some (.stringIter F i) ∧ wr.heap[pn]? = some (.cells #[.bool false, .slice none 0 0] 44 (0, 0)) ∧ Below pn w wr) (fun _ wr => F.size - wr.iterPos (pn + 1 + 1))
  case atStart => exact ⟨0, _, by omega, HR0.out, HBLK.out, HIT.out, HNUM.out, HBLC.out⟩
  case round =>
    obtain ⟨i, O, hi, hS, hO, hit, hnm, hbr⟩ := hrel
    have HS := Lib.hid hS
    have HO := Lib.hid hO
    have HIT2 := Lib.hid hit
    have HNM := Lib.hid hnm
    have HBR := Lib.hid hbr
    have hlm := HLM.out
    by_cases hlt : i < m
    · obtain ⟨b, hb, hbf⟩ := HFIG.out i hlt
      obtain ⟨hdec, hiF⟩ := dec_fig F i b hb hbf
      have hn := Lib.run_next_any_at (P := Tryd.prog) wr (pn + 1 + 1) F i 0 hit hiF
      rw [hdec] at hn
      simp only at hn
      obtain ⟨at_, hat⟩ : ∃ at_, (m - 1 - i) / 9 = at_ := ⟨_, rfl⟩
      have hfb := fig_back b hbf
      have hOl : O.length = N := by
        have := hS.len
        have h0 := HR0.out.len
        rw [List.length_replicate] at h0
        omega
      obtain ⟨x, hx⟩ : ∃ x, O[at_]? = some x := ⟨O[at_]'(by have h0 := HR0.out.len; rw [List.length_replicate] at h0; omega), List.getElem?_eq_getElem _⟩
      obtain ⟨hS2, hx0, hx1, hatl⟩ := rd_step hS (by omega) hb hbf (by rw [hlm]; exact hat) hx
      obtain ⟨d, hd⟩ : ∃ d, b.toNat - 48 = d := ⟨_, rfl⟩
      rw [hd] at hS2
      have hd9 : d < 10 := by omega
      have hbd : (b.toNat : Int) - 48 = (d : Int) := by omega
      generalize hw1 : wr.iterAt (pn + 1 + 1) F (i + 1) = w1 at hn
      have hK1 : Keeps (fun k => k = pn + 1 + 1) wr w1 := by rw [← hw1]; exact (Keeps.refl (fun k => k = pn + 1 + 1) wr).iterAt (b := pn + 1 + 1) (.inl rfl) _ _
      have hit1 : w1.heap[pn + 1 + 1]? = some (.stringIter F (i + 1)) := by rw [← hw1]; exact Lib.iterAt_heap _ _ _ _ _ hit
      have hO1 : Blk w1 (pn + 1) O := hO.keep hK1 (show ¬ pn + 1 = pn + 1 + 1 by omega)
      have hnm1 : w1.heap[pn]? = some (.cells #[.bool false, .slice none 0 0] 44 (0, 0)) := (hK1.block pn (lt_of_block hnm) (show ¬ pn = pn + 1 + 1 by omega)).trans hnm
      have hb1 : Below pn w w1 := hbr.trans (hK1.below (by have := hbr.size; omega) (fun k hk => by omega))
      have hcx := hO1.cellD at_ x hx
      have hfx := hO1.free at_
      have hK2 : ∀ v, Keeps (fun k => k = pn + 1) w1 (w1.setCell ⟨pn + 1, at_, none⟩ v) := fun v => (Keeps.refl (fun k => k = pn + 1) w1).setCell (p := ⟨pn + 1, at_, none⟩) (.inl rfl) v
      have HO2 := Lib.hid (hO1.set at_ (x * 10 + (d : Int)))
      have HIT3 := Lib.hid (fun v => ((hK2 v).block (pn + 1 + 1) (lt_of_block hit1) (show ¬ pn + 1 + 1 = pn + 1 by omega)).trans hit1)
      have HNM3 := Lib.hid (fun v => ((hK2 v).block pn (lt_of_block hnm1) (show ¬ pn = pn + 1 by omega)).trans hnm1)
      have HB3 := Lib.hid (fun v => hb1.setCell (p := ⟨pn + 1, at_, none⟩) (show pn ≤ pn + 1 by omega) v)
      have HS2 := Lib.hid hS2
      have hati : ((m : Int) - 1 - (i : Int)) / 9 = (at_ : Int) := by omega
      have hatt : Int.tdiv ((m : Int) - 1 - (i : Int)) 9 = (at_ : Int) := by rw [Int.tdiv_eq_ediv_of_nonneg (by omega)]; exact hati
      have q1 : IntKind.i64.wrap (x * 10) = x * 10 := IntWalk.i64_in _ (by omega)
      have q2 : IntKind.i64.wrap (x * 10 + (d : Int)) = x * 10 + (d : Int) := IntWalk.i64_in _ (by omega)
      have q3 : IntKind.i32.wrap ((b.toNat : Int) - 48) = (d : Int) := by rw [hbd]; exact IntWalk.i32_in _ (by omega)
      have q4 : IntKind.i64.wrap (d : Int) = (d : Int) := IntWalk.i64_in _ (by omega)
      have hmes := iterPos_of hit
      have HM1 := Lib.hid hmes
      have hatN : at_ < N := by omega
      have hatNi : (at_ : Int) < (N : Int) := by omega
      obtain ⟨c, hc⟩ : ∃ c, b.toNat = c := ⟨_, rfl⟩
      rw [hc] at hn hbd q3
      clear hS hO hit hnm hbr hS2 hO1 hit1 hnm1 hb1 hb hbf hdec hx hat hw1 hfb hd hmes hc hOl hlm
      go_wp2_with fail
      refine ⟨⟨i + 1, _, by omega, HS2.out, HO2.out, HIT3.out _, HNM3.out _, HB3.out _⟩, ?_⟩
      rw [HM1.out, iterPos_of (HIT3.out _)]
      omega
    · obtain rfl : i = m := by omega
      have hn := Lib.run_next_end_at (P := Tryd.prog) wr (pn + 1 + 1) F i 0 hit (by omega)
      obtain ⟨hok, hval⟩ := hS.fin hlm.symm
      have hOl : O.length = N := by
        have := hS.len
        have h0 := HR0.out.len
        rw [List.length_replicate] at h0
        omega
      have htr := trimmed_v (pn + 1) 0 N O O wr hO (win_full O) (by omega) (by omega)
      rw [hOl] at htr
      have HRW := Lib.hid (row_of hO (trim_take O).symm rfl (trim_le O))
      have HCN := Lib.hid (trim_ok O hok)
      have HZZ : Hid (signZ sg (trimL O) = zL s.data.toList) := Lib.hid (by unfold signZ; rw [trim_val, hval, HZ.out])
      have HLE : Hid ((trimL O).length ≤ 120) := Lib.hid (by have := trim_le O; omega)
      obtain ⟨f0, f1, f2, f3, f4, f5, _, f7, f8⟩ := NumC.facts hnm
      have hpl := lt_of_block hnm
      have HNC : Hid (NumC wr pn (.bool false) (.slice none 0 0)) := Lib.hid hnm
      have HRS := Lib.hid (fun a b => row_set HRW.out HNC.out a b)
      have HBS := Lib.hid (fun a b => num_below HBR.out (Nat.le_refl pn) a b)
      clear hS hO hit hbr hok hval hOl hlm hnm
      cases sg
      · have s1 : (F.toList == s.toList) = true := by simpa using hsg
        clear hsg
        go_wp2_with (go_at_call 66; with_reducible refine Calls.mono htr ?_; rintro e w7 ⟨rfl, hw7⟩; replace hw7 := hw7.symm; subst hw7)
        refine bodyPost_ret (v := .agg #[.bool false, .slice (some ⟨pn + 1, 0, none⟩) (trimL O).length (trimL O).length]) ?_ rfl ⟨_, _, _, rfl, HRS.out _ _, HCN.out, HZZ.out, HLE.out, by rw [hpn]; exact HBS.out _ _⟩
        simp [results, Tryd.results45, go_sem, f7, f8]
      · have s1 : (F.toList == s.toList) = false := by simpa using hsg
        clear hsg
        go_wp2_with (go_at_call 66; with_reducible refine Calls.mono htr ?_; rintro e w7 ⟨rfl, hw7⟩; replace hw7 := hw7.symm; subst hw7)
        refine bodyPost_ret (v := .agg #[.bool true, .slice (some ⟨pn + 1, 0, none⟩) (trimL O).length (trimL O).length]) ?_ rfl ⟨_, _, _, rfl, HRS.out _ _, HCN.out, HZZ.out, HLE.out, by rw [hpn]; exact HBS.out _ _⟩
        simp [results, Tryd.results45, go_sem, f7, f8]
end Go.Proofs.YtgoaakdopbielaaDoor
