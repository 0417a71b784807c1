import Derived.Test.YtjgpopjnmonlkaaGreatDoorTgBh
namespace Go.Proofs.YtjgpopjnmonlkaaGreatDoor
open Go.RowKit Go.Shelf
set_option linter.unusedSimpArgs false
set_option linter.unusedVariables false
set_option linter.unusedSectionVars false

/-! Layer 5: TagBack. -/
theorem Read_back (x : Ex) (hr : rightF 100 x = true) (hs : (textX x).size ≤ 500) (w : World) :
    Calls Tryz.prog 19 #[.string (textX x)] w fun e w' => (∃ vs, e = .returned (.tuple #[.agg vs.toArray, .int .i64 0]) ∧ ExAt w' (fun b => w.heap.size ≤ b) x vs) ∧ Below w.heap.size w w' := by
  have hl : (textX x).data.toList.length = (textX x).size := by simp
  have h := Read_v (textX x).data.toList w (by omega)
  rw [← bs_of] at h
  refine h.mono ?_
  rintro e w' ⟨hb, hv⟩
  have hrv : readV (textX x).data.toList = some x := by
    unfold readV
    rw [if_neg (by omega)]
    exact read_back x hr
  rw [hrv] at hv
  exact ⟨hv, hb⟩
theorem emp_list (s : ByteArray) : (s.toList == []) = decide (s = ⟨#[]⟩) := by
  have := eq_list s ⟨#[]⟩
  rwa [show (⟨#[]⟩ : ByteArray).toList = [] by rw [Lib.toList_data]] at this
theorem emp_list2 (s : ByteArray) : s.toList.isEmpty = decide (s = ⟨#[]⟩) := by
  rw [← emp_list]
  cases s.toList <;> rfl
set_option maxRecDepth 100000 in
set_option maxHeartbeats 3200000 in
theorem back_v (x : Ex) (vs : List Value) (W : World) (hx : ExAt W (fun _ => True) x vs) (hs : x.size ≤ 1048576) (hf : x.fits) (hE : EnvV W) :
    Calls Tryz.prog 4 #[.agg vs.toArray] W fun e w' => e = .returned (.bool true) ∧ Below W.heap.size W w' := by
  obtain ⟨op, tag, ka, kn, kc, rfl⟩ := hx.shape
  have h8 := hE.2.2.2
  have hb1 : Below W.heap.size W (W.alloc (.cells #[.string op, .string tag, .slice ka kn kc] 24)) := (Below.refl _ _).alloc (Nat.le_refl _) _
  have hbk := heap_alloc_new W (.cells #[.string op, .string tag, .slice ka kn kc] 24)
  have HC := Lib.hid (size_v x _ _ _ (by omega) (hx.below hb1))
  have HB := Lib.hid hb1
  by_cases hz : 200 < x.size
  · have hzi : (200 : Int) < (x.size : Int) := by omega
    clear hx hb1 hbk hE hs
    generalize x.size = z at *
    go_enter Tryz.func4, Tryz.ntmps4
    go_wp2_with (go_at_call 8; (with_reducible refine Calls.mono HC.out ?_); rintro e w2 ⟨rfl, hb2⟩; have HB2 := Lib.hid (HB.out.trans (hb2.mono HB.out.size)); clear hb2)
    go_ret
    exact ⟨by first | rfl | simp, HB2.out⟩
  · have hzi : ¬ (200 : Int) < (x.size : Int) := by omega
    have hok : x.ok := ⟨by omega, hf⟩
    obtain ⟨w1, hw1⟩ : ∃ w1, W.alloc (.cells #[.string op, .string tag, .slice ka kn kc] 24) = w1 := ⟨_, rfl⟩
    rw [hw1] at hb1 hbk HC HB
    have hlt1 := lt_of_block hbk
    have HBX : Hid (∀ w', Below w1.heap.size w1 w' → ∀ i, w'.cell? ⟨W.heap.size, i, none⟩ = #[Value.string op, .string tag, .slice ka kn kc][i]?) := Lib.hid (fun w' hb i => by
      rw [hb.cell (p := ⟨W.heap.size, i, none⟩) hlt1]
      exact cell_of hbk i)
    have hx1 := hx.below hb1
    have hE1 : EnvV w1 := hE.below hb1 h8
    have h81 : 8 ≤ w1.heap.size := hE1.2.2.2
    have HOF := Lib.hid (fun (w' : World) (hb : Below w1.heap.size w1 w') => of_v x _ _ w' (by omega) (hx1.below hb))
    have HWR := Lib.hid (fun (w' : World) (S : Nat → Prop) (us : List Value) (hu : ExAt w' S x us) => Write_v x us S w' hu hok)
    have HAW := Lib.hid (fun (w' : World) (hb : Below w1.heap.size w1 w') => awake_v w' (hE1.below hb h81))
    have HRD := Lib.hid (fun (hr : rightF 100 x = true) (hs : (textX x).size ≤ 500) (w : World) => Read_back x hr hs w)
    have HSM := Lib.hid (fun (w' : World) (S : Nat → Prop) (us : List Value) (hb : Below w1.heap.size w1 w') (hu : ExAt w' S x us) => same_v x us _ S _ w' (by omega) hu (hx1.below hb))
    have HW1 := Lib.hid hw1
    have he1 := emp_list (WriteF x)
    have he2 := emp_list2 (WriteF x)
    have HWF : Hid (rightF 100 x = false → WriteF x = ⟨#[]⟩) := Lib.hid (fun h => by unfold WriteF; rw [h, if_neg (by decide)])
    have HWT : Hid (rightF 100 x = true → WriteF x = textX x) := Lib.hid (fun h => by unfold WriteF; rw [if_pos h])
    have HBE : Hid (∀ w', Below w1.heap.size w1 w' → Below W.heap.size W w') := Lib.hid (fun w' hb => HB.out.trans (hb.mono HB.out.size))
    clear hx hb1 hbk hE hs hok hx1 hE1 hw1 hz hf
    generalize hzz : x.size = z at *
    clear hzz
    generalize hss : WriteF x = s at *
    have HSS := Lib.hid hss
    clear hss
    by_cases h0 : s = ⟨#[]⟩
    · rw [decide_eq_true h0] at he1 he2
      subst h0
      go_enter Tryz.func4, Tryz.ntmps4
      go_wp2_with (first
        | (go_at_call 8; rw [HW1.out]; (with_reducible refine Calls.mono HC.out ?_); rintro e w2 ⟨rfl, hb2⟩; have HBc := Lib.hid hb2; have c0 := HBX.out _ hb2 0; have c1 := HBX.out _ hb2 1; have c2 := HBX.out _ hb2 2; clear hb2)
        | (go_at_call 9; (with_reducible refine Calls.mono (HOF.out _ HBc.out) ?_); rintro e w3 ⟨us, rfl, hex, hb3⟩; obtain ⟨o3, t3, a3, n3, c3, rfl⟩ := hex.shape; replace HBc := Lib.hid (HBc.out.trans (hb3.mono HBc.out.size)); have HEX := Lib.hid hex; clear hb3 hex)
        | (go_at_call 14; (with_reducible refine Calls.mono (HWR.out _ _ _ HEX.out) ?_); rintro e w4 ⟨rfl, hb4⟩; replace HBc := Lib.hid (HBc.out.trans (hb4.mono HBc.out.size)); clear hb4)
        | (go_at_call 15; (with_reducible refine Calls.mono (HAW.out _ HBc.out) ?_); rintro e w6 ⟨rfl, hb6⟩; replace HBc := Lib.hid (HBc.out.trans (hb6.mono HBc.out.size)); clear hb6))
      go_ret
      exact ⟨by first | rfl | simp, HBE.out _ HBc.out⟩
    · rw [decide_eq_false h0] at he1 he2
      have HN0 := Lib.hid h0
      clear h0
      by_cases h5 : 500 < s.size
      · have h5i : (500 : Int) < (s.size : Int) := by omega
        go_enter Tryz.func4, Tryz.ntmps4
        go_wp2_with (first
          | (go_at_call 8; rw [HW1.out]; (with_reducible refine Calls.mono HC.out ?_); rintro e w2 ⟨rfl, hb2⟩; have HBc := Lib.hid hb2; have c0 := HBX.out _ hb2 0; have c1 := HBX.out _ hb2 1; have c2 := HBX.out _ hb2 2; clear hb2)
          | (go_at_call 9; (with_reducible refine Calls.mono (HOF.out _ HBc.out) ?_); rintro e w3 ⟨us, rfl, hex, hb3⟩; obtain ⟨o3, t3, a3, n3, c3, rfl⟩ := hex.shape; replace HBc := Lib.hid (HBc.out.trans (hb3.mono HBc.out.size)); have HEX := Lib.hid hex; clear hb3 hex)
          | (go_at_call 14; (with_reducible refine Calls.mono (HWR.out _ _ _ HEX.out) ?_); rintro e w4 ⟨rfl, hb4⟩; replace HBc := Lib.hid (HBc.out.trans (hb4.mono HBc.out.size)); clear hb4)
          | (go_at_call 15; (with_reducible refine Calls.mono (HAW.out _ HBc.out) ?_); rintro e w6 ⟨rfl, hb6⟩; replace HBc := Lib.hid (HBc.out.trans (hb6.mono HBc.out.size)); clear hb6))
        go_ret
        exact ⟨by first | rfl | simp, HBE.out _ HBc.out⟩
      · have h5i : ¬ (500 : Int) < (s.size : Int) := by omega
        have hr : rightF 100 x = true := by
          cases h : rightF 100 x with
          | true => rfl
          | false => exact absurd (HWF.out h) HN0.out
        have hst : s = textX x := HWT.out hr
        have hrd := HRD.out hr (by rw [← hst]; omega)
        rw [← hst] at hrd
        have HR2 := Lib.hid hrd
        clear hrd hst hr h5
        go_enter Tryz.func4, Tryz.ntmps4
        go_wp2_with (first
          | (go_at_call 8; rw [HW1.out]; (with_reducible refine Calls.mono HC.out ?_); rintro e w2 ⟨rfl, hb2⟩; have HBc := Lib.hid hb2; have c0 := HBX.out _ hb2 0; have c1 := HBX.out _ hb2 1; have c2 := HBX.out _ hb2 2; clear hb2)
          | (go_at_call 9; (with_reducible refine Calls.mono (HOF.out _ HBc.out) ?_); rintro e w3 ⟨us, rfl, hex, hb3⟩; obtain ⟨o3, t3, a3, n3, c3, rfl⟩ := hex.shape; replace HBc := Lib.hid (HBc.out.trans (hb3.mono HBc.out.size)); have HEX := Lib.hid hex; clear hb3 hex)
          | (go_at_call 14; (with_reducible refine Calls.mono (HWR.out _ _ _ HEX.out) ?_); rintro e w4 ⟨rfl, hb4⟩; replace HBc := Lib.hid (HBc.out.trans (hb4.mono HBc.out.size)); clear hb4 HEX)
          | (go_at_call 19; (with_reducible refine Calls.mono (HR2.out _) ?_); rintro e w5 ⟨⟨us, rfl, hex⟩, hb5⟩; obtain ⟨o6, t6, a6, n6, c6, rfl⟩ := hex.shape; replace HBc := Lib.hid (HBc.out.trans (hb5.mono HBc.out.size)); have hb7 : Below w5.heap.size w5 (w5.alloc (.cells #[.string o6, .string t6, .slice a6 n6 c6] 29)) := (Below.refl _ _).alloc (Nat.le_refl _) _; have HBd := Lib.hid (HBc.out.trans (hb7.mono HBc.out.size)); have HEX := Lib.hid (hex.below hb7); have d0 := HBX.out _ HBd.out 0; have d1 := HBX.out _ HBd.out 1; have d2 := HBX.out _ HBd.out 2; clear hb5 hex hb7)
          | (go_at_call 20; (with_reducible refine Calls.mono (HSM.out _ _ _ HBd.out HEX.out) ?_); rintro e w8 ⟨rfl, hb8⟩; replace HBc := Lib.hid (HBd.out.trans (hb8.mono HBd.out.size)); clear hb8)
          | (go_at_call 15; (with_reducible refine Calls.mono (HAW.out _ HBc.out) ?_); rintro e w6 ⟨rfl, hb6⟩; replace HBc := Lib.hid (HBc.out.trans (hb6.mono HBc.out.size)); clear hb6))
        go_ret
        exact ⟨by first | rfl | simp, HBE.out _ HBc.out⟩
end Go.Proofs.YtjgpopjnmonlkaaGreatDoor
