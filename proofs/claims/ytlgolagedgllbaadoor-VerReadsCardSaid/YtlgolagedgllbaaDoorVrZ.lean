import Derived.Test.YtlgolagedgllbaaDoorVrY
namespace Go.Proofs.YtlgolagedgllbaaDoor
open Go.RowKit Go.Shelf
set_option linter.unusedSimpArgs false
set_option linter.unusedVariables false
set_option linter.unusedSectionVars false

/-! The document's Minor. -/
def valN (s : ByteArray) : Nat → Nat
  | 0 => 0
  | j + 1 => 10 * valN s j + (byteN s (2 + j) - 48)
theorem extract_byte (s : ByteArray) (k i : Nat) (h : i < s.size - k) : byteN (s.extract k s.size) i = byteN s (k + i) := by
  unfold byteN
  rw [extract_list, List.take_of_length_le (by rw [List.length_drop, Array.length_toList]; exact Nat.le_refl _)]
  simp only [List.getD_eq_getElem?_getD, List.getElem?_drop]
theorem list_ne {a b : ByteArray} (h : a ≠ b) : (a.toList == b.toList) = false := by
  rw [beq_eq_false_iff_ne, Lib.toList_data, Lib.toList_data]
  intro e
  exact h (ByteArray.ext (Array.toList_inj.1 e))
theorem list_ne2 {a : ByteArray} {l : List UInt8} (h : a ≠ ⟨l.toArray⟩) : (a.toList == l) = false := by
  rw [beq_eq_false_iff_ne, Lib.toList_data]
  intro e
  exact h (mk_eq e)
/-- What comes of the part behind. -/
def goodP (s : ByteArray) (w : World) (n : Nat) (b : Bool) (e : Ending) (w' : World) : Prop :=
  e = .returned (.tuple #[.int .i64 (if b = true then (n : Int) else 0), .int .i64 (if b = true then 0 else 6)]) ∧ Below w.heap.size w w'
theorem no_ret (s : ByteArray) (h : minorW s = none) : minorI s = 0 ∧ minorE s = 6 := ⟨minorI_no h, minorE_no h⟩
theorem yes_ret (s : ByteArray) (n : Nat) (q : ByteArray) (h : minorW s = if endV q = true then some n else none) : (endV q = true → minorI s = n ∧ minorE s = 0) ∧ (endV q = false → minorI s = 0 ∧ minorE s = 6) := by
  constructor
  · intro he
    rw [if_pos he] at h
    exact ⟨minorI_of h, minorE_of h⟩
  · intro he
    rw [he, if_neg (by decide)] at h
    exact no_ret s h
theorem retnum {a b c d : Int} (h1 : a = c) (h2 : b = d) : Ending.returned (.tuple #[.int .i64 a, .int .i64 b]) = Ending.returned (.tuple #[.int .i64 c, .int .i64 d]) := by rw [h1, h2]
theorem digV_2 (q : ByteArray) (h : q.size ≤ 2) : digV (q.extract 2 q.size) = false := dig_none _ (by rw [ByteArray.size_extract]; omega)
theorem byte_take (q : ByteArray) (n : Nat) (h : 0 < n) : byteN (q.extract 0 n) 0 = byteN q 0 := by
  unfold byteN
  rw [extract_list, List.drop_zero]
  simp only [List.getD_eq_getElem?_getD]
  rw [List.getElem?_take_of_lt (by omega)]
set_option maxRecDepth 100000 in
set_option maxHeartbeats 12800000 in
theorem refminor_v (s : ByteArray) (w : World) (hs : s.size ≤ 1000000) :
    Calls Tryd.prog 6 #[.string s] w fun e w' => e = .returned (.tuple #[.int .i64 (minorI s), .int .i64 (minorE s)]) ∧ w' = w := by
  by_cases h3 : s.size < 3
  · have hX : minorW s = none := by
      cases hp : hasV s p1V with
      | false => exact minor_no1 s hp
      | true => have := fig_room s hp; exact minor_none0 s hp (by omega)
    obtain ⟨hi, he⟩ := no_ret s hX
    have d0 : decide ((s.size : Int) < 3) = true := decide_eq_true (by omega)
    have d1 : decide (s.size < 3) = true := decide_eq_true h3
    have d2 : (s.size : Int) < 3 := by omega
    rw [hi, he]; clear hX hi he
    go_enter Tryd.func6, Tryd.ntmps6
    go_wp2_with fail
    go_ret2
    exact ⟨rfl, rfl⟩
  have d0 : decide ((s.size : Int) < 3) = false := decide_eq_false (by omega)
  have d1 : decide (s.size < 3) = false := decide_eq_false h3
  have d2 : ¬ (s.size : Int) < 3 := by omega
  have g2 : 2 ≤ s.size := by omega
  have g2i : (2 : Int) ≤ (s.size : Int) := by omega
  have hpre : hasV s p1V = decide (s.extract 0 2 = p1V) := pre_ext s [49, 46]
  obtain ⟨x, hx⟩ : ∃ x, s.extract 0 2 = x := ⟨_, rfl⟩
  rw [hx] at hpre
  by_cases hp1 : x = p1V
  case neg =>
    have hX : minorW s = none := minor_no1 s (by rw [hpre]; exact decide_eq_false hp1)
    obtain ⟨hi, he⟩ := no_ret s hX
    have e1 : (x.toList == (⟨#[49, 46]⟩ : ByteArray).toList) = false := list_ne hp1
    have e2 : (x.toList != (⟨#[49, 46]⟩ : ByteArray).toList) = true := by rw [bne, e1]; rfl
    have e3 : (x.toList == [49, 46]) = false := list_ne2 hp1
    have e4 : (x.toList != [49, 46]) = true := by rw [bne, e3]; rfl
    rw [hi, he]; clear hX hi he hpre hp1
    go_enter Tryd.func6, Tryd.ntmps6
    go_wp2_with fail
    go_ret2
    exact ⟨rfl, rfl⟩
  subst hp1
  have hp : hasV s p1V = true := by rw [hpre]; exact decide_eq_true rfl
  have hx2 : s.extract 0 2 = ⟨#[49, 46]⟩ := hx
  have HP := Lib.hid hp
  have HA := Lib.hid (fun j hj => fig_at s hp j hj)
  have HZ := Lib.hid (fig_stop s hp)
  have HR := Lib.hid (fig_room s hp)
  have HB := Lib.hid (fun i h => str_byte s i h)
  have HI : Hid (∃ mi me, minorI s = mi ∧ minorE s = me) := Lib.hid ⟨_, _, rfl, rfl⟩
  obtain ⟨mi, me, hmi, hme⟩ := HI.out
  have HMI := Lib.hid hmi
  have HME := Lib.hid hme
  rw [hmi, hme]
  obtain ⟨K, hK⟩ : ∃ K, figN s = K := ⟨_, rfl⟩
  rw [hK] at HA HZ HR
  have HK := Lib.hid hK
  clear hpre hx hp HI hmi hme hK
  go_enter Tryd.func6, Tryd.ntmps6
  go_wp2_with fail
  clear hx2
  go_loopw [4, 5] (fun nv kv wr => ∃ j : Nat, nv = .int .i64 (valN s j : Nat) ∧ kv = .int .i64 (2 + j : Nat) ∧ j ≤ 3 ∧ j ≤ K ∧ wr = w) (fun _ kv _ => 5 - (intOf kv).toNat)
  case atStart => exact ⟨0, rfl, rfl, by omega, by omega, rfl⟩
  case round =>
    obtain ⟨j, rfl, rfl, hj, hjK, rfl⟩ := hrel
    have hroom := HR.out
    have hbyte := fun h => HB.out (2 + j) h
    have hjc : j = 0 ∨ j = 1 ∨ j = 2 ∨ j = 3 := by omega
    rcases hjc with rfl | rfl | rfl | rfl
    · by_cases hend : 2 < s.size
      · have hb := HB.out 2 hend
        obtain ⟨c, hcc⟩ : ∃ c, byteN s 2 = c := ⟨_, rfl⟩
        rw [hcc] at hb
        clear hbyte
        by_cases c1 : 48 ≤ c
        · by_cases c2 : c ≤ 57
          · skip
            have hK1 : 1 ≤ K := by
              by_cases h : K = 0
              · exact absurd (show 48 ≤ c ∧ c ≤ 57 from ⟨c1, c2⟩) (by have := HZ.out (by rw [h]; exact hend); rw [h, show byteN s (2 + 0) = c from hcc] at this; exact this)
              · omega
            have hvs : valN s 1 = 10 * valN s 0 + (c - 48) := by show 10 * valN s 0 + (byteN s (2 + 0) - 48) = _; rw [show byteN s (2 + 0) = c from hcc]
            have HVS := Lib.hid hvs
            clear hvs
            have hvb : valN s 0 ≤ 99 := by
              show 0 ≤ 99
              omega
            obtain ⟨v, hvv⟩ : ∃ v, valN s 0 = v := ⟨_, rfl⟩
            rw [hvv] at hvb HVS ⊢
            clear hvv
            have x0 : 2 < s.size := hend
            have x0i : (2 : Int) < (s.size : Int) := by omega
            have x1 : decide ((2 : Int) < (s.size : Int)) = true := decide_eq_true (by omega)
            have x1n : decide (2 < s.size) = true := decide_eq_true (by omega)
            have x2 : decide ((48 : Int) ≤ (c : Int)) = true := decide_eq_true (by omega)
            have x2n : decide (48 ≤ c) = true := decide_eq_true (by omega)
            have x3 : decide ((c : Int) ≤ 57) = true := decide_eq_true (by omega)
            have x3n : decide (c ≤ 57) = true := decide_eq_true (by omega)
            have y1 : IntKind.u8.wrap ((c : Int) - 48) = (c : Int) - 48 := IntWalk.u8_in _ (by omega)
            have y2 : IntKind.i64.wrap ((c : Int) - 48) = (c : Int) - 48 := IntWalk.i64_in _ (by omega)
            have y3 : IntKind.i64.wrap (10 * (v : Int)) = 10 * (v : Int) := IntWalk.i64_in _ (by omega)
            have y4 : IntKind.i64.wrap (10 * (v : Int) + ((c : Int) - 48)) = 10 * (v : Int) + ((c : Int) - 48) := IntWalk.i64_in _ (by omega)
            clear HA HZ HR HB HMI HME
            go_wp2_with fail
            go_roundw
            case rel => exact ⟨1, by rw [HVS.out]; go_num, by go_num, by omega, hK1, by first | rfl | trivial⟩
            case measure => simp [intOf]
          · have hKJ : K = 0 := by
              by_cases h : K = 0
              · exact h
              · have := HA.out 0 (by omega)
                rw [show byteN s (2 + 0) = c from hcc] at this
                exact absurd this.2 c2
            have x1 : decide ((2 : Int) < (s.size : Int)) = true := decide_eq_true (by omega)
            have x1n : decide (2 < s.size) = true := decide_eq_true (by omega)
            have x2 : decide ((48 : Int) ≤ (c : Int)) = true := decide_eq_true (by omega)
            have x2n : decide (48 ≤ c) = true := decide_eq_true (by omega)
            have x3 : decide ((c : Int) ≤ 57) = false := decide_eq_false (by omega)
            have x3n : decide (c ≤ 57) = false := decide_eq_false (by omega)
            have x4 : 2 < s.size := by omega
            have x4i : (2 : Int) < (s.size : Int) := by omega
            have HRI : Hid (mi = 0) := Lib.hid (by rw [← HMI.out]; exact (no_ret s (minor_none0 s HP.out (by rw [HK.out]; omega))).1)
            have HRE : Hid (me = 6) := Lib.hid (by rw [← HME.out]; exact (no_ret s (minor_none0 s HP.out (by rw [HK.out]; omega))).2)
            clear HA HZ HR HB HMI HME
            go_wp2_with fail
            go_ret2
            exact ⟨(retnum HRI.out HRE.out).symm, rfl⟩
        · have hKJ : K = 0 := by
            by_cases h : K = 0
            · exact h
            · have := HA.out 0 (by omega)
              rw [show byteN s (2 + 0) = c from hcc] at this
              exact absurd this.1 c1
          have x1 : decide ((2 : Int) < (s.size : Int)) = true := decide_eq_true (by omega)
          have x1n : decide (2 < s.size) = true := decide_eq_true (by omega)
          have x2 : decide ((48 : Int) ≤ (c : Int)) = false := decide_eq_false (by omega)
          have x2n : decide (48 ≤ c) = false := decide_eq_false (by omega)
          have x4 : 2 < s.size := by omega
          have x4i : (2 : Int) < (s.size : Int) := by omega
          have HRI : Hid (mi = 0) := Lib.hid (by rw [← HMI.out]; exact (no_ret s (minor_none0 s HP.out (by rw [HK.out]; omega))).1)
          have HRE : Hid (me = 6) := Lib.hid (by rw [← HME.out]; exact (no_ret s (minor_none0 s HP.out (by rw [HK.out]; omega))).2)
          clear HA HZ HR HB HMI HME
          go_wp2_with fail
          go_ret2
          exact ⟨(retnum HRI.out HRE.out).symm, rfl⟩
      · have hKJ : K = 0 := by omega
        have x1 : decide ((2 : Int) < (s.size : Int)) = false := decide_eq_false (by omega)
        have x1n : decide (2 < s.size) = false := decide_eq_false (by omega)
        have HRI : Hid (mi = 0) := Lib.hid (by rw [← HMI.out]; exact (no_ret s (minor_none0 s HP.out (by rw [HK.out]; omega))).1)
        have HRE : Hid (me = 6) := Lib.hid (by rw [← HME.out]; exact (no_ret s (minor_none0 s HP.out (by rw [HK.out]; omega))).2)
        clear HA HZ HR HB HMI HME
        go_wp2_with fail
        go_ret2
        exact ⟨(retnum HRI.out HRE.out).symm, rfl⟩
    · by_cases hend : 3 < s.size
      · have hb := HB.out 3 hend
        obtain ⟨c, hcc⟩ : ∃ c, byteN s 3 = c := ⟨_, rfl⟩
        rw [hcc] at hb
        clear hbyte
        by_cases c1 : 48 ≤ c
        · by_cases c2 : c ≤ 57
          · skip
            have hK1 : 2 ≤ K := by
              by_cases h : K = 1
              · exact absurd (show 48 ≤ c ∧ c ≤ 57 from ⟨c1, c2⟩) (by have := HZ.out (by rw [h]; exact hend); rw [h, show byteN s (2 + 1) = c from hcc] at this; exact this)
              · omega
            have hvs : valN s 2 = 10 * valN s 1 + (c - 48) := by show 10 * valN s 1 + (byteN s (2 + 1) - 48) = _; rw [show byteN s (2 + 1) = c from hcc]
            have HVS := Lib.hid hvs
            clear hvs
            have hvb : valN s 1 ≤ 99 := by
              have ha0 : 48 ≤ byteN s 2 ∧ byteN s 2 ≤ 57 := HA.out 0 (by omega)
              have hv : valN s 1 = byteN s 2 - 48 := by show 10 * 0 + (byteN s (2 + 0) - 48) = _; simp
              omega
            obtain ⟨v, hvv⟩ : ∃ v, valN s 1 = v := ⟨_, rfl⟩
            rw [hvv] at hvb HVS ⊢
            clear hvv
            have x0 : 3 < s.size := hend
            have x0i : (3 : Int) < (s.size : Int) := by omega
            have x1 : decide ((3 : Int) < (s.size : Int)) = true := decide_eq_true (by omega)
            have x1n : decide (3 < s.size) = true := decide_eq_true (by omega)
            have x2 : decide ((48 : Int) ≤ (c : Int)) = true := decide_eq_true (by omega)
            have x2n : decide (48 ≤ c) = true := decide_eq_true (by omega)
            have x3 : decide ((c : Int) ≤ 57) = true := decide_eq_true (by omega)
            have x3n : decide (c ≤ 57) = true := decide_eq_true (by omega)
            have y1 : IntKind.u8.wrap ((c : Int) - 48) = (c : Int) - 48 := IntWalk.u8_in _ (by omega)
            have y2 : IntKind.i64.wrap ((c : Int) - 48) = (c : Int) - 48 := IntWalk.i64_in _ (by omega)
            have y3 : IntKind.i64.wrap (10 * (v : Int)) = 10 * (v : Int) := IntWalk.i64_in _ (by omega)
            have y4 : IntKind.i64.wrap (10 * (v : Int) + ((c : Int) - 48)) = 10 * (v : Int) + ((c : Int) - 48) := IntWalk.i64_in _ (by omega)
            clear HA HZ HR HB HMI HME
            go_wp2_with fail
            go_roundw
            case rel => exact ⟨2, by rw [HVS.out]; go_num, by go_num, by omega, hK1, by first | rfl | trivial⟩
            case measure => simp [intOf]
          · have hKJ : K = 1 := by
              by_cases h : K = 1
              · exact h
              · have := HA.out 1 (by omega)
                rw [show byteN s (2 + 1) = c from hcc] at this
                exact absurd this.2 c2
            have x1 : decide ((3 : Int) < (s.size : Int)) = true := decide_eq_true (by omega)
            have x1n : decide (3 < s.size) = true := decide_eq_true (by omega)
            have x2 : decide ((48 : Int) ≤ (c : Int)) = true := decide_eq_true (by omega)
            have x2n : decide (48 ≤ c) = true := decide_eq_true (by omega)
            have x3 : decide ((c : Int) ≤ 57) = false := decide_eq_false (by omega)
            have x3n : decide (c ≤ 57) = false := decide_eq_false (by omega)
            have x4 : 3 < s.size := by omega
            have x4i : (3 : Int) < (s.size : Int) := by omega
            have ha0 : 48 ≤ byteN s 2 ∧ byteN s 2 ≤ 57 := HA.out 0 (by omega)
            have hv : valN s 1 = byteN s 2 - 48 := by show 10 * 0 + (byteN s (2 + 0) - 48) = _; simp
            obtain ⟨v, hvv⟩ : ∃ v, valN s 1 = v := ⟨_, rfl⟩
            rw [hvv] at hv ⊢
            clear hvv
            have hb2 := HB.out 2 (by omega)
            have h2s : 2 < s.size := by omega
            have h2si : (2 : Int) < (s.size : Int) := by omega
            have HW : Hid (minorW s = if endV (s.extract 3 s.size) = true then some v else none) := Lib.hid (by rw [minor_one s HP.out (by rw [HK.out]; omega), hv])
            obtain ⟨a, ha⟩ : ∃ a, byteN s 2 = a := ⟨_, rfl⟩
            rw [ha] at hb2 hv ha0
            clear ha
            have v1 : decide ((99 : Int) < (v : Int)) = false := decide_eq_false (by omega)
            have v1n : decide (99 < v) = false := decide_eq_false (by omega)
            obtain ⟨q, hq⟩ : ∃ q, s.extract 3 s.size = q := ⟨_, rfl⟩
            have hqz1 : q.size + 3 ≤ s.size := by rw [← hq, ByteArray.size_extract]; omega
            have hqz2 : s.size ≤ q.size + 3 := by rw [← hq, ByteArray.size_extract]; omega
            have hsl1 : 3 ≤ s.size := by omega
            have hsl2 : (3 : Int) ≤ (s.size : Int) := by omega
            rw [hq] at HW
            clear hv
            by_cases a48 : a = 48
            · subst a48
              have hq0 : q.size ≠ 0 := by omega
              have hqp : 0 < q.size := by omega
              have hqpi : (0 : Int) < (q.size : Int) := by omega
              have hql := full_list q hq0
              have hb0 := str_byte q 0 hqp
              have hc0 : byteN q 0 = c := by rw [← hq, extract_byte s 3 0 (by omega)]; exact hcc
              rw [hc0] at hb0
              have HC0 := Lib.hid hc0
              clear hc0
              have hqs : q.size ≤ 1000000 := by omega
              have c46 : ¬ c = 46 := by omega
              have e46 : decide ((c : Int) = 46) = false := decide_eq_false (by omega)
              have e46n : decide (c = 46) = false := decide_eq_false (by omega)
              have e46b : ((c : Int) == 46) = false := by rw [beq_eq_false_iff_ne]; omega
              have e46c : ¬ (c : Int) = 46 := by omega
              have HV := Lib.hid (end_2 q hqp (by rw [HC0.out]; exact c46))
              by_cases s2 : q.size ≤ 2
              · have HF : Hid (endV q = false) := Lib.hid (by
                  rw [HV.out]
                  split
                  · exact digV_2 q s2
                  · rw [if_neg]
                    intro h
                    have h5 := congrArg ByteArray.size h
                    rw [ByteArray.size_extract] at h5
                    have h6 : (⟨#[98, 101, 116, 97]⟩ : ByteArray).size = 4 := rfl
                    omega)
                have hfig := fun w => reffig_v q w (by omega)
                have z2 : decide ((2 : Int) < (q.size : Int)) = false := decide_eq_false (by omega)
                have z2n : decide (2 < q.size) = false := decide_eq_false (by omega)
                have z4 : decide ((4 : Int) < (q.size : Int)) = false := decide_eq_false (by omega)
                have z4n : decide (4 < q.size) = false := decide_eq_false (by omega)
                have HRI : Hid (mi = 0) := Lib.hid (by rw [← HMI.out]; exact ((yes_ret s v q (HW.out)).2 (HF.out)).1)
                have HRE : Hid (me = 6) := Lib.hid (by rw [← HME.out]; exact ((yes_ret s v q (HW.out)).2 (HF.out)).2)
                clear HA HZ HR HB HMI HME
                go_wp2_with (go_at_call 21; with_reducible refine Calls.mono (hfig _) ?_; rintro e w2 ⟨rfl, hw2⟩; replace hw2 := hw2.symm; subst hw2)
                go_ret2
                exact ⟨(retnum HRI.out HRE.out).symm, rfl⟩
              have z2 : decide ((2 : Int) < (q.size : Int)) = true := decide_eq_true (by omega)
              have z2n : decide (2 < q.size) = true := decide_eq_true (by omega)
              have zz2 : 2 ≤ q.size := by omega
              have zz2i : (2 : Int) ≤ (q.size : Int) := by omega
              by_cases hp2 : q.extract 0 2 = ⟨#[114, 99]⟩
              · have HV2 : Hid (endV q = digV (q.extract 2 q.size)) := Lib.hid (by rw [HV.out, if_pos hp2])
                have hp4 : ¬ q.extract 0 4 = ⟨#[98, 101, 116, 97]⟩ := fun h => by
                  have h5 : byteN (q.extract 0 4) 0 = byteN ⟨#[98, 101, 116, 97]⟩ 0 := congrArg (fun x => byteN x 0) h
                  have h7 : byteN (q.extract 0 2) 0 = byteN ⟨#[114, 99]⟩ 0 := congrArg (fun x => byteN x 0) hp2
                  rw [byte_take q 4 (by decide)] at h5
                  rw [byte_take q 2 (by decide)] at h7
                  have h6 : byteN q 0 = 98 := h5
                  have h8 : byteN q 0 = 114 := h7
                  omega
                have hfig := fun w => reffig_v (q.extract 2 q.size) w (by rw [ByteArray.size_extract]; omega)
                obtain ⟨u, hu⟩ : ∃ u, q.extract 2 q.size = u := ⟨_, rfl⟩
                rw [hu] at hfig HV2
                cases hd : digV u with
                | true =>
                  rw [hd] at hfig
                  have HRI : Hid (mi = (v : Int)) := Lib.hid (by rw [← HMI.out]; exact ((yes_ret s v q (HW.out)).1 (by rw [HV2.out, hd])).1)
                  have HRE : Hid (me = 0) := Lib.hid (by rw [← HME.out]; exact ((yes_ret s v q (HW.out)).1 (by rw [HV2.out, hd])).2)
                  clear HA HZ HR HB HMI HME
                  clear hd hp4
                  go_wp2_with (go_at_call 21; with_reducible refine Calls.mono (hfig _) ?_; rintro e w2 ⟨rfl, hw2⟩; replace hw2 := hw2.symm; subst hw2)
                  go_ret2
                  exact ⟨(retnum HRI.out HRE.out).symm, rfl⟩
                | false =>
                  rw [hd] at hfig
                  have HF : Hid (endV q = false) := Lib.hid (by rw [HV2.out, hd])
                  clear hd
                  by_cases s4 : q.size ≤ 4
                  · skip
                    have z4 : decide ((4 : Int) < (q.size : Int)) = false := decide_eq_false (by omega)
                    have z4n : decide (4 < q.size) = false := decide_eq_false (by omega)
                    have HRI : Hid (mi = 0) := Lib.hid (by rw [← HMI.out]; exact ((yes_ret s v q (HW.out)).2 (HF.out)).1)
                    have HRE : Hid (me = 6) := Lib.hid (by rw [← HME.out]; exact ((yes_ret s v q (HW.out)).2 (HF.out)).2)
                    clear HA HZ HR HB HMI HME
                    clear hp4
                    go_wp2_with (go_at_call 21; with_reducible refine Calls.mono (hfig _) ?_; rintro e w2 ⟨rfl, hw2⟩; replace hw2 := hw2.symm; subst hw2)
                    go_ret2
                    exact ⟨(retnum HRI.out HRE.out).symm, rfl⟩
                  · skip
                    have z4 : decide ((4 : Int) < (q.size : Int)) = true := decide_eq_true (by omega)
                    have z4n : decide (4 < q.size) = true := decide_eq_true (by omega)
                    have zz4 : 4 ≤ q.size := by omega
                    have zz4i : (4 : Int) ≤ (q.size : Int) := by omega
                    obtain ⟨y4, hy4⟩ : ∃ y, q.extract 0 4 = y := ⟨_, rfl⟩
                    have hp42 : y4 ≠ ⟨#[98, 101, 116, 97]⟩ := by rw [← hy4]; exact hp4
                    have p4 : (y4.toList == (⟨#[98, 101, 116, 97]⟩ : ByteArray).toList) = false := list_ne hp42
                    have p4a : (y4.toList == [98, 101, 116, 97]) = false := list_ne2 hp42
                    have HRI : Hid (mi = 0) := Lib.hid (by rw [← HMI.out]; exact ((yes_ret s v q (HW.out)).2 (HF.out)).1)
                    have HRE : Hid (me = 6) := Lib.hid (by rw [← HME.out]; exact ((yes_ret s v q (HW.out)).2 (HF.out)).2)
                    clear HA HZ HR HB HMI HME
                    clear hp4 hp42
                    go_wp2_with (go_at_call 21; with_reducible refine Calls.mono (hfig _) ?_; rintro e w2 ⟨rfl, hw2⟩; replace hw2 := hw2.symm; subst hw2)
                    go_ret2
                    exact ⟨(retnum HRI.out HRE.out).symm, rfl⟩
              obtain ⟨y2, hy2⟩ : ∃ y, q.extract 0 2 = y := ⟨_, rfl⟩
              have hp22 : y2 ≠ ⟨#[114, 99]⟩ := by rw [← hy2]; exact hp2
              have p2 : (y2.toList == (⟨#[114, 99]⟩ : ByteArray).toList) = false := list_ne hp22
              have p2a : (y2.toList == [114, 99]) = false := list_ne2 hp22
              by_cases s4 : q.size ≤ 4
              · have HF : Hid (endV q = false) := Lib.hid (by
                  rw [HV.out, if_neg hp2]
                  split
                  · exact dig_none _ (by rw [ByteArray.size_extract]; omega)
                  · rfl)
                have hfig := fun w => reffig_v q w (by omega)
                have z4 : decide ((4 : Int) < (q.size : Int)) = false := decide_eq_false (by omega)
                have z4n : decide (4 < q.size) = false := decide_eq_false (by omega)
                have HRI : Hid (mi = 0) := Lib.hid (by rw [← HMI.out]; exact ((yes_ret s v q (HW.out)).2 (HF.out)).1)
                have HRE : Hid (me = 6) := Lib.hid (by rw [← HME.out]; exact ((yes_ret s v q (HW.out)).2 (HF.out)).2)
                clear HA HZ HR HB HMI HME
                clear hp2 hp22
                go_wp2_with (go_at_call 21; with_reducible refine Calls.mono (hfig _) ?_; rintro e w2 ⟨rfl, hw2⟩; replace hw2 := hw2.symm; subst hw2)
                go_ret2
                exact ⟨(retnum HRI.out HRE.out).symm, rfl⟩
              have z4 : decide ((4 : Int) < (q.size : Int)) = true := decide_eq_true (by omega)
              have z4n : decide (4 < q.size) = true := decide_eq_true (by omega)
              have zz4 : 4 ≤ q.size := by omega
              have zz4i : (4 : Int) ≤ (q.size : Int) := by omega
              by_cases hp4 : q.extract 0 4 = ⟨#[98, 101, 116, 97]⟩
              · have HV2 : Hid (endV q = digV (q.extract 4 q.size)) := Lib.hid (by rw [HV.out, if_neg hp2, if_pos hp4])
                have hfig := fun w => reffig_v (q.extract 4 q.size) w (by rw [ByteArray.size_extract]; omega)
                obtain ⟨u, hu⟩ : ∃ u, q.extract 4 q.size = u := ⟨_, rfl⟩
                rw [hu] at hfig HV2
                cases hd : digV u with
                | true =>
                  rw [hd] at hfig
                  have HRI : Hid (mi = (v : Int)) := Lib.hid (by rw [← HMI.out]; exact ((yes_ret s v q (HW.out)).1 (by rw [HV2.out, hd])).1)
                  have HRE : Hid (me = 0) := Lib.hid (by rw [← HME.out]; exact ((yes_ret s v q (HW.out)).1 (by rw [HV2.out, hd])).2)
                  clear HA HZ HR HB HMI HME
                  clear hd hp2 hp22
                  go_wp2_with (go_at_call 21; with_reducible refine Calls.mono (hfig _) ?_; rintro e w2 ⟨rfl, hw2⟩; replace hw2 := hw2.symm; subst hw2)
                  go_ret2
                  exact ⟨(retnum HRI.out HRE.out).symm, rfl⟩
                | false =>
                  rw [hd] at hfig
                  have HF : Hid (endV q = false) := Lib.hid (by rw [HV2.out, hd])
                  have HRI : Hid (mi = 0) := Lib.hid (by rw [← HMI.out]; exact ((yes_ret s v q (HW.out)).2 (HF.out)).1)
                  have HRE : Hid (me = 6) := Lib.hid (by rw [← HME.out]; exact ((yes_ret s v q (HW.out)).2 (HF.out)).2)
                  clear HA HZ HR HB HMI HME
                  clear hd hp2 hp22
                  go_wp2_with (go_at_call 21; with_reducible refine Calls.mono (hfig _) ?_; rintro e w2 ⟨rfl, hw2⟩; replace hw2 := hw2.symm; subst hw2)
                  go_ret2
                  exact ⟨(retnum HRI.out HRE.out).symm, rfl⟩
              have HF : Hid (endV q = false) := Lib.hid (by rw [HV.out, if_neg hp2, if_neg hp4])
              have hfig := fun w => reffig_v q w (by omega)
              obtain ⟨y4, hy4⟩ : ∃ y, q.extract 0 4 = y := ⟨_, rfl⟩
              have hp42 : y4 ≠ ⟨#[98, 101, 116, 97]⟩ := by rw [← hy4]; exact hp4
              have p4 : (y4.toList == (⟨#[98, 101, 116, 97]⟩ : ByteArray).toList) = false := list_ne hp42
              have p4a : (y4.toList == [98, 101, 116, 97]) = false := list_ne2 hp42
              have HRI : Hid (mi = 0) := Lib.hid (by rw [← HMI.out]; exact ((yes_ret s v q (HW.out)).2 (HF.out)).1)
              have HRE : Hid (me = 6) := Lib.hid (by rw [← HME.out]; exact ((yes_ret s v q (HW.out)).2 (HF.out)).2)
              clear HA HZ HR HB HMI HME
              clear hp2 hp22 hp4 hp42
              go_wp2_with (go_at_call 21; with_reducible refine Calls.mono (hfig _) ?_; rintro e w2 ⟨rfl, hw2⟩; replace hw2 := hw2.symm; subst hw2)
              go_ret2
              exact ⟨(retnum HRI.out HRE.out).symm, rfl⟩
            have a48 : decide ((a : Int) = 48) = false := decide_eq_false (by omega)
            have a48n : decide (a = 48) = false := decide_eq_false (by omega)
            have a48b : ((a : Int) == 48) = false := by rw [beq_eq_false_iff_ne]; omega
            have a48c : ¬ (a : Int) = 48 := by omega
            have hq0 : q.size ≠ 0 := by omega
            have hqp : 0 < q.size := by omega
            have hqpi : (0 : Int) < (q.size : Int) := by omega
            have hql := full_list q hq0
            have hb0 := str_byte q 0 hqp
            have hc0 : byteN q 0 = c := by rw [← hq, extract_byte s 3 0 (by omega)]; exact hcc
            rw [hc0] at hb0
            have HC0 := Lib.hid hc0
            clear hc0
            have hqs : q.size ≤ 1000000 := by omega
            have c46 : ¬ c = 46 := by omega
            have e46 : decide ((c : Int) = 46) = false := decide_eq_false (by omega)
            have e46n : decide (c = 46) = false := decide_eq_false (by omega)
            have e46b : ((c : Int) == 46) = false := by rw [beq_eq_false_iff_ne]; omega
            have e46c : ¬ (c : Int) = 46 := by omega
            have HV := Lib.hid (end_2 q hqp (by rw [HC0.out]; exact c46))
            by_cases s2 : q.size ≤ 2
            · have HF : Hid (endV q = false) := Lib.hid (by
                rw [HV.out]
                split
                · exact digV_2 q s2
                · rw [if_neg]
                  intro h
                  have h5 := congrArg ByteArray.size h
                  rw [ByteArray.size_extract] at h5
                  have h6 : (⟨#[98, 101, 116, 97]⟩ : ByteArray).size = 4 := rfl
                  omega)
              have hfig := fun w => reffig_v q w (by omega)
              have z2 : decide ((2 : Int) < (q.size : Int)) = false := decide_eq_false (by omega)
              have z2n : decide (2 < q.size) = false := decide_eq_false (by omega)
              have z4 : decide ((4 : Int) < (q.size : Int)) = false := decide_eq_false (by omega)
              have z4n : decide (4 < q.size) = false := decide_eq_false (by omega)
              have HRI : Hid (mi = 0) := Lib.hid (by rw [← HMI.out]; exact ((yes_ret s v q (HW.out)).2 (HF.out)).1)
              have HRE : Hid (me = 6) := Lib.hid (by rw [← HME.out]; exact ((yes_ret s v q (HW.out)).2 (HF.out)).2)
              clear HA HZ HR HB HMI HME
              go_wp2_with (go_at_call 21; with_reducible refine Calls.mono (hfig _) ?_; rintro e w2 ⟨rfl, hw2⟩; replace hw2 := hw2.symm; subst hw2)
              go_ret2
              exact ⟨(retnum HRI.out HRE.out).symm, rfl⟩
            have z2 : decide ((2 : Int) < (q.size : Int)) = true := decide_eq_true (by omega)
            have z2n : decide (2 < q.size) = true := decide_eq_true (by omega)
            have zz2 : 2 ≤ q.size := by omega
            have zz2i : (2 : Int) ≤ (q.size : Int) := by omega
            by_cases hp2 : q.extract 0 2 = ⟨#[114, 99]⟩
            · have HV2 : Hid (endV q = digV (q.extract 2 q.size)) := Lib.hid (by rw [HV.out, if_pos hp2])
              have hp4 : ¬ q.extract 0 4 = ⟨#[98, 101, 116, 97]⟩ := fun h => by
                have h5 : byteN (q.extract 0 4) 0 = byteN ⟨#[98, 101, 116, 97]⟩ 0 := congrArg (fun x => byteN x 0) h
                have h7 : byteN (q.extract 0 2) 0 = byteN ⟨#[114, 99]⟩ 0 := congrArg (fun x => byteN x 0) hp2
                rw [byte_take q 4 (by decide)] at h5
                rw [byte_take q 2 (by decide)] at h7
                have h6 : byteN q 0 = 98 := h5
                have h8 : byteN q 0 = 114 := h7
                omega
              have hfig := fun w => reffig_v (q.extract 2 q.size) w (by rw [ByteArray.size_extract]; omega)
              obtain ⟨u, hu⟩ : ∃ u, q.extract 2 q.size = u := ⟨_, rfl⟩
              rw [hu] at hfig HV2
              cases hd : digV u with
              | true =>
                rw [hd] at hfig
                have HRI : Hid (mi = (v : Int)) := Lib.hid (by rw [← HMI.out]; exact ((yes_ret s v q (HW.out)).1 (by rw [HV2.out, hd])).1)
                have HRE : Hid (me = 0) := Lib.hid (by rw [← HME.out]; exact ((yes_ret s v q (HW.out)).1 (by rw [HV2.out, hd])).2)
                clear HA HZ HR HB HMI HME
                clear hd hp4
                go_wp2_with (go_at_call 21; with_reducible refine Calls.mono (hfig _) ?_; rintro e w2 ⟨rfl, hw2⟩; replace hw2 := hw2.symm; subst hw2)
                go_ret2
                exact ⟨(retnum HRI.out HRE.out).symm, rfl⟩
              | false =>
                rw [hd] at hfig
                have HF : Hid (endV q = false) := Lib.hid (by rw [HV2.out, hd])
                clear hd
                by_cases s4 : q.size ≤ 4
                · skip
                  have z4 : decide ((4 : Int) < (q.size : Int)) = false := decide_eq_false (by omega)
                  have z4n : decide (4 < q.size) = false := decide_eq_false (by omega)
                  have HRI : Hid (mi = 0) := Lib.hid (by rw [← HMI.out]; exact ((yes_ret s v q (HW.out)).2 (HF.out)).1)
                  have HRE : Hid (me = 6) := Lib.hid (by rw [← HME.out]; exact ((yes_ret s v q (HW.out)).2 (HF.out)).2)
                  clear HA HZ HR HB HMI HME
                  clear hp4
                  go_wp2_with (go_at_call 21; with_reducible refine Calls.mono (hfig _) ?_; rintro e w2 ⟨rfl, hw2⟩; replace hw2 := hw2.symm; subst hw2)
                  go_ret2
                  exact ⟨(retnum HRI.out HRE.out).symm, rfl⟩
                · skip
                  have z4 : decide ((4 : Int) < (q.size : Int)) = true := decide_eq_true (by omega)
                  have z4n : decide (4 < q.size) = true := decide_eq_true (by omega)
                  have zz4 : 4 ≤ q.size := by omega
                  have zz4i : (4 : Int) ≤ (q.size : Int) := by omega
                  obtain ⟨y4, hy4⟩ : ∃ y, q.extract 0 4 = y := ⟨_, rfl⟩
                  have hp42 : y4 ≠ ⟨#[98, 101, 116, 97]⟩ := by rw [← hy4]; exact hp4
                  have p4 : (y4.toList == (⟨#[98, 101, 116, 97]⟩ : ByteArray).toList) = false := list_ne hp42
                  have p4a : (y4.toList == [98, 101, 116, 97]) = false := list_ne2 hp42
                  have HRI : Hid (mi = 0) := Lib.hid (by rw [← HMI.out]; exact ((yes_ret s v q (HW.out)).2 (HF.out)).1)
                  have HRE : Hid (me = 6) := Lib.hid (by rw [← HME.out]; exact ((yes_ret s v q (HW.out)).2 (HF.out)).2)
                  clear HA HZ HR HB HMI HME
                  clear hp4 hp42
                  go_wp2_with (go_at_call 21; with_reducible refine Calls.mono (hfig _) ?_; rintro e w2 ⟨rfl, hw2⟩; replace hw2 := hw2.symm; subst hw2)
                  go_ret2
                  exact ⟨(retnum HRI.out HRE.out).symm, rfl⟩
            obtain ⟨y2, hy2⟩ : ∃ y, q.extract 0 2 = y := ⟨_, rfl⟩
            have hp22 : y2 ≠ ⟨#[114, 99]⟩ := by rw [← hy2]; exact hp2
            have p2 : (y2.toList == (⟨#[114, 99]⟩ : ByteArray).toList) = false := list_ne hp22
            have p2a : (y2.toList == [114, 99]) = false := list_ne2 hp22
            by_cases s4 : q.size ≤ 4
            · have HF : Hid (endV q = false) := Lib.hid (by
                rw [HV.out, if_neg hp2]
                split
                · exact dig_none _ (by rw [ByteArray.size_extract]; omega)
                · rfl)
              have hfig := fun w => reffig_v q w (by omega)
              have z4 : decide ((4 : Int) < (q.size : Int)) = false := decide_eq_false (by omega)
              have z4n : decide (4 < q.size) = false := decide_eq_false (by omega)
              have HRI : Hid (mi = 0) := Lib.hid (by rw [← HMI.out]; exact ((yes_ret s v q (HW.out)).2 (HF.out)).1)
              have HRE : Hid (me = 6) := Lib.hid (by rw [← HME.out]; exact ((yes_ret s v q (HW.out)).2 (HF.out)).2)
              clear HA HZ HR HB HMI HME
              clear hp2 hp22
              go_wp2_with (go_at_call 21; with_reducible refine Calls.mono (hfig _) ?_; rintro e w2 ⟨rfl, hw2⟩; replace hw2 := hw2.symm; subst hw2)
              go_ret2
              exact ⟨(retnum HRI.out HRE.out).symm, rfl⟩
            have z4 : decide ((4 : Int) < (q.size : Int)) = true := decide_eq_true (by omega)
            have z4n : decide (4 < q.size) = true := decide_eq_true (by omega)
            have zz4 : 4 ≤ q.size := by omega
            have zz4i : (4 : Int) ≤ (q.size : Int) := by omega
            by_cases hp4 : q.extract 0 4 = ⟨#[98, 101, 116, 97]⟩
            · have HV2 : Hid (endV q = digV (q.extract 4 q.size)) := Lib.hid (by rw [HV.out, if_neg hp2, if_pos hp4])
              have hfig := fun w => reffig_v (q.extract 4 q.size) w (by rw [ByteArray.size_extract]; omega)
              obtain ⟨u, hu⟩ : ∃ u, q.extract 4 q.size = u := ⟨_, rfl⟩
              rw [hu] at hfig HV2
              cases hd : digV u with
              | true =>
                rw [hd] at hfig
                have HRI : Hid (mi = (v : Int)) := Lib.hid (by rw [← HMI.out]; exact ((yes_ret s v q (HW.out)).1 (by rw [HV2.out, hd])).1)
                have HRE : Hid (me = 0) := Lib.hid (by rw [← HME.out]; exact ((yes_ret s v q (HW.out)).1 (by rw [HV2.out, hd])).2)
                clear HA HZ HR HB HMI HME
                clear hd hp2 hp22
                go_wp2_with (go_at_call 21; with_reducible refine Calls.mono (hfig _) ?_; rintro e w2 ⟨rfl, hw2⟩; replace hw2 := hw2.symm; subst hw2)
                go_ret2
                exact ⟨(retnum HRI.out HRE.out).symm, rfl⟩
              | false =>
                rw [hd] at hfig
                have HF : Hid (endV q = false) := Lib.hid (by rw [HV2.out, hd])
                have HRI : Hid (mi = 0) := Lib.hid (by rw [← HMI.out]; exact ((yes_ret s v q (HW.out)).2 (HF.out)).1)
                have HRE : Hid (me = 6) := Lib.hid (by rw [← HME.out]; exact ((yes_ret s v q (HW.out)).2 (HF.out)).2)
                clear HA HZ HR HB HMI HME
                clear hd hp2 hp22
                go_wp2_with (go_at_call 21; with_reducible refine Calls.mono (hfig _) ?_; rintro e w2 ⟨rfl, hw2⟩; replace hw2 := hw2.symm; subst hw2)
                go_ret2
                exact ⟨(retnum HRI.out HRE.out).symm, rfl⟩
            have HF : Hid (endV q = false) := Lib.hid (by rw [HV.out, if_neg hp2, if_neg hp4])
            have hfig := fun w => reffig_v q w (by omega)
            obtain ⟨y4, hy4⟩ : ∃ y, q.extract 0 4 = y := ⟨_, rfl⟩
            have hp42 : y4 ≠ ⟨#[98, 101, 116, 97]⟩ := by rw [← hy4]; exact hp4
            have p4 : (y4.toList == (⟨#[98, 101, 116, 97]⟩ : ByteArray).toList) = false := list_ne hp42
            have p4a : (y4.toList == [98, 101, 116, 97]) = false := list_ne2 hp42
            have HRI : Hid (mi = 0) := Lib.hid (by rw [← HMI.out]; exact ((yes_ret s v q (HW.out)).2 (HF.out)).1)
            have HRE : Hid (me = 6) := Lib.hid (by rw [← HME.out]; exact ((yes_ret s v q (HW.out)).2 (HF.out)).2)
            clear HA HZ HR HB HMI HME
            clear hp2 hp22 hp4 hp42
            go_wp2_with (go_at_call 21; with_reducible refine Calls.mono (hfig _) ?_; rintro e w2 ⟨rfl, hw2⟩; replace hw2 := hw2.symm; subst hw2)
            go_ret2
            exact ⟨(retnum HRI.out HRE.out).symm, rfl⟩
        · have hKJ : K = 1 := by
            by_cases h : K = 1
            · exact h
            · have := HA.out 1 (by omega)
              rw [show byteN s (2 + 1) = c from hcc] at this
              exact absurd this.1 c1
          have x1 : decide ((3 : Int) < (s.size : Int)) = true := decide_eq_true (by omega)
          have x1n : decide (3 < s.size) = true := decide_eq_true (by omega)
          have x2 : decide ((48 : Int) ≤ (c : Int)) = false := decide_eq_false (by omega)
          have x2n : decide (48 ≤ c) = false := decide_eq_false (by omega)
          have x4 : 3 < s.size := by omega
          have x4i : (3 : Int) < (s.size : Int) := by omega
          have ha0 : 48 ≤ byteN s 2 ∧ byteN s 2 ≤ 57 := HA.out 0 (by omega)
          have hv : valN s 1 = byteN s 2 - 48 := by show 10 * 0 + (byteN s (2 + 0) - 48) = _; simp
          obtain ⟨v, hvv⟩ : ∃ v, valN s 1 = v := ⟨_, rfl⟩
          rw [hvv] at hv ⊢
          clear hvv
          have hb2 := HB.out 2 (by omega)
          have h2s : 2 < s.size := by omega
          have h2si : (2 : Int) < (s.size : Int) := by omega
          have HW : Hid (minorW s = if endV (s.extract 3 s.size) = true then some v else none) := Lib.hid (by rw [minor_one s HP.out (by rw [HK.out]; omega), hv])
          obtain ⟨a, ha⟩ : ∃ a, byteN s 2 = a := ⟨_, rfl⟩
          rw [ha] at hb2 hv ha0
          clear ha
          have v1 : decide ((99 : Int) < (v : Int)) = false := decide_eq_false (by omega)
          have v1n : decide (99 < v) = false := decide_eq_false (by omega)
          obtain ⟨q, hq⟩ : ∃ q, s.extract 3 s.size = q := ⟨_, rfl⟩
          have hqz1 : q.size + 3 ≤ s.size := by rw [← hq, ByteArray.size_extract]; omega
          have hqz2 : s.size ≤ q.size + 3 := by rw [← hq, ByteArray.size_extract]; omega
          have hsl1 : 3 ≤ s.size := by omega
          have hsl2 : (3 : Int) ≤ (s.size : Int) := by omega
          rw [hq] at HW
          clear hv
          by_cases a48 : a = 48
          · subst a48
            have hq0 : q.size ≠ 0 := by omega
            have hqp : 0 < q.size := by omega
            have hqpi : (0 : Int) < (q.size : Int) := by omega
            have hql := full_list q hq0
            have hb0 := str_byte q 0 hqp
            have hc0 : byteN q 0 = c := by rw [← hq, extract_byte s 3 0 (by omega)]; exact hcc
            rw [hc0] at hb0
            have HC0 := Lib.hid hc0
            clear hc0
            have hqs : q.size ≤ 1000000 := by omega
            by_cases c46 : c = 46
            · have hfig := fun w => reffig_v (q.extract 1 q.size) w (by rw [ByteArray.size_extract]; omega)
              have hp2 : ¬ q.extract 0 2 = ⟨#[114, 99]⟩ := fun h => by
                have h5 : byteN (q.extract 0 2) 0 = byteN ⟨#[114, 99]⟩ 0 := congrArg (fun x => byteN x 0) h
                rw [byte_take q 2 (by decide), HC0.out] at h5
                have h6 : c = 114 := h5
                omega
              have hp4 : ¬ q.extract 0 4 = ⟨#[98, 101, 116, 97]⟩ := fun h => by
                have h5 : byteN (q.extract 0 4) 0 = byteN ⟨#[98, 101, 116, 97]⟩ 0 := congrArg (fun x => byteN x 0) h
                rw [byte_take q 4 (by decide), HC0.out] at h5
                have h6 : c = 98 := h5
                omega
              have HV := Lib.hid (end_1 q hqp (by rw [HC0.out, c46]))
              subst c46
              have w1 : 1 ≤ q.size := by omega
              have w1i : (1 : Int) ≤ (q.size : Int) := by omega
              obtain ⟨u, hu⟩ : ∃ u, q.extract 1 q.size = u := ⟨_, rfl⟩
              rw [hu] at hfig HV
              cases hd : digV u with
              | true =>
                rw [hd] at hfig
                have HRI : Hid (mi = (v : Int)) := Lib.hid (by rw [← HMI.out]; exact ((yes_ret s v q (HW.out)).1 (by rw [HV.out, hd])).1)
                have HRE : Hid (me = 0) := Lib.hid (by rw [← HME.out]; exact ((yes_ret s v q (HW.out)).1 (by rw [HV.out, hd])).2)
                clear HA HZ HR HB HMI HME
                clear hp2 hp4 hd
                go_wp2_with (go_at_call 21; with_reducible refine Calls.mono (hfig _) ?_; rintro e w2 ⟨rfl, hw2⟩; replace hw2 := hw2.symm; subst hw2)
                go_ret2
                exact ⟨(retnum HRI.out HRE.out).symm, rfl⟩
              | false =>
                rw [hd] at hfig
                have HF : Hid (endV q = false) := Lib.hid (by rw [HV.out, hd])
                clear hd
                by_cases s2 : q.size ≤ 2
                · skip
                  have z2 : decide ((2 : Int) < (q.size : Int)) = false := decide_eq_false (by omega)
                  have z2n : decide (2 < q.size) = false := decide_eq_false (by omega)
                  have z4 : decide ((4 : Int) < (q.size : Int)) = false := decide_eq_false (by omega)
                  have z4n : decide (4 < q.size) = false := decide_eq_false (by omega)
                  have HRI : Hid (mi = 0) := Lib.hid (by rw [← HMI.out]; exact ((yes_ret s v q (HW.out)).2 (HF.out)).1)
                  have HRE : Hid (me = 6) := Lib.hid (by rw [← HME.out]; exact ((yes_ret s v q (HW.out)).2 (HF.out)).2)
                  clear HA HZ HR HB HMI HME
                  go_wp2_with (go_at_call 21; with_reducible refine Calls.mono (hfig _) ?_; rintro e w2 ⟨rfl, hw2⟩; replace hw2 := hw2.symm; subst hw2)
                  go_ret2
                  exact ⟨(retnum HRI.out HRE.out).symm, rfl⟩
                by_cases s4 : q.size ≤ 4
                · skip
                  have z2 : decide ((2 : Int) < (q.size : Int)) = true := decide_eq_true (by omega)
                  have z2n : decide (2 < q.size) = true := decide_eq_true (by omega)
                  have zz2 : 2 ≤ q.size := by omega
                  have zz2i : (2 : Int) ≤ (q.size : Int) := by omega
                  have z4 : decide ((4 : Int) < (q.size : Int)) = false := decide_eq_false (by omega)
                  have z4n : decide (4 < q.size) = false := decide_eq_false (by omega)
                  obtain ⟨y2, hy2⟩ : ∃ y, q.extract 0 2 = y := ⟨_, rfl⟩
                  have hp22 : y2 ≠ ⟨#[114, 99]⟩ := by rw [← hy2]; exact hp2
                  have p2 : (y2.toList == (⟨#[114, 99]⟩ : ByteArray).toList) = false := list_ne hp22
                  have p2a : (y2.toList == [114, 99]) = false := list_ne2 hp22
                  have HRI : Hid (mi = 0) := Lib.hid (by rw [← HMI.out]; exact ((yes_ret s v q (HW.out)).2 (HF.out)).1)
                  have HRE : Hid (me = 6) := Lib.hid (by rw [← HME.out]; exact ((yes_ret s v q (HW.out)).2 (HF.out)).2)
                  clear HA HZ HR HB HMI HME
                  clear hp2 hp22
                  go_wp2_with (go_at_call 21; with_reducible refine Calls.mono (hfig _) ?_; rintro e w2 ⟨rfl, hw2⟩; replace hw2 := hw2.symm; subst hw2)
                  go_ret2
                  exact ⟨(retnum HRI.out HRE.out).symm, rfl⟩
                · skip
                  have z2 : decide ((2 : Int) < (q.size : Int)) = true := decide_eq_true (by omega)
                  have z2n : decide (2 < q.size) = true := decide_eq_true (by omega)
                  have zz2 : 2 ≤ q.size := by omega
                  have zz2i : (2 : Int) ≤ (q.size : Int) := by omega
                  have z4 : decide ((4 : Int) < (q.size : Int)) = true := decide_eq_true (by omega)
                  have z4n : decide (4 < q.size) = true := decide_eq_true (by omega)
                  have zz4 : 4 ≤ q.size := by omega
                  have zz4i : (4 : Int) ≤ (q.size : Int) := by omega
                  obtain ⟨y2, hy2⟩ : ∃ y, q.extract 0 2 = y := ⟨_, rfl⟩
                  have hp22 : y2 ≠ ⟨#[114, 99]⟩ := by rw [← hy2]; exact hp2
                  have p2 : (y2.toList == (⟨#[114, 99]⟩ : ByteArray).toList) = false := list_ne hp22
                  have p2a : (y2.toList == [114, 99]) = false := list_ne2 hp22
                  obtain ⟨y4, hy4⟩ : ∃ y, q.extract 0 4 = y := ⟨_, rfl⟩
                  have hp42 : y4 ≠ ⟨#[98, 101, 116, 97]⟩ := by rw [← hy4]; exact hp4
                  have p4 : (y4.toList == (⟨#[98, 101, 116, 97]⟩ : ByteArray).toList) = false := list_ne hp42
                  have p4a : (y4.toList == [98, 101, 116, 97]) = false := list_ne2 hp42
                  have HRI : Hid (mi = 0) := Lib.hid (by rw [← HMI.out]; exact ((yes_ret s v q (HW.out)).2 (HF.out)).1)
                  have HRE : Hid (me = 6) := Lib.hid (by rw [← HME.out]; exact ((yes_ret s v q (HW.out)).2 (HF.out)).2)
                  clear HA HZ HR HB HMI HME
                  clear hp2 hp22 hp4 hp42
                  go_wp2_with (go_at_call 21; with_reducible refine Calls.mono (hfig _) ?_; rintro e w2 ⟨rfl, hw2⟩; replace hw2 := hw2.symm; subst hw2)
                  go_ret2
                  exact ⟨(retnum HRI.out HRE.out).symm, rfl⟩
            have hc46 : ¬ c = 46 := c46
            have e46 : decide ((c : Int) = 46) = false := decide_eq_false (by omega)
            have e46n : decide (c = 46) = false := decide_eq_false (by omega)
            have e46b : ((c : Int) == 46) = false := by rw [beq_eq_false_iff_ne]; omega
            have e46c : ¬ (c : Int) = 46 := by omega
            have hp2 : ¬ q.extract 0 2 = ⟨#[114, 99]⟩ := fun h => by
              have h5 : byteN (q.extract 0 2) 0 = byteN ⟨#[114, 99]⟩ 0 := congrArg (fun x => byteN x 0) h
              rw [byte_take q 2 (by decide), HC0.out] at h5
              have h6 : c = 114 := h5
              omega
            have hp4 : ¬ q.extract 0 4 = ⟨#[98, 101, 116, 97]⟩ := fun h => by
              have h5 : byteN (q.extract 0 4) 0 = byteN ⟨#[98, 101, 116, 97]⟩ 0 := congrArg (fun x => byteN x 0) h
              rw [byte_take q 4 (by decide), HC0.out] at h5
              have h6 : c = 98 := h5
              omega
            have HF : Hid (endV q = false) := Lib.hid (by rw [end_2 q hqp (by rw [HC0.out]; exact c46), if_neg hp2, if_neg hp4])
            have hfig := fun w => reffig_v q w (by omega)
            by_cases s2 : q.size ≤ 2
            · skip
              have z2 : decide ((2 : Int) < (q.size : Int)) = false := decide_eq_false (by omega)
              have z2n : decide (2 < q.size) = false := decide_eq_false (by omega)
              have z4 : decide ((4 : Int) < (q.size : Int)) = false := decide_eq_false (by omega)
              have z4n : decide (4 < q.size) = false := decide_eq_false (by omega)
              have HRI : Hid (mi = 0) := Lib.hid (by rw [← HMI.out]; exact ((yes_ret s v q (HW.out)).2 (HF.out)).1)
              have HRE : Hid (me = 6) := Lib.hid (by rw [← HME.out]; exact ((yes_ret s v q (HW.out)).2 (HF.out)).2)
              clear HA HZ HR HB HMI HME
              go_wp2_with (go_at_call 21; with_reducible refine Calls.mono (hfig _) ?_; rintro e w2 ⟨rfl, hw2⟩; replace hw2 := hw2.symm; subst hw2)
              go_ret2
              exact ⟨(retnum HRI.out HRE.out).symm, rfl⟩
            by_cases s4 : q.size ≤ 4
            · skip
              have z2 : decide ((2 : Int) < (q.size : Int)) = true := decide_eq_true (by omega)
              have z2n : decide (2 < q.size) = true := decide_eq_true (by omega)
              have zz2 : 2 ≤ q.size := by omega
              have zz2i : (2 : Int) ≤ (q.size : Int) := by omega
              have z4 : decide ((4 : Int) < (q.size : Int)) = false := decide_eq_false (by omega)
              have z4n : decide (4 < q.size) = false := decide_eq_false (by omega)
              obtain ⟨y2, hy2⟩ : ∃ y, q.extract 0 2 = y := ⟨_, rfl⟩
              have hp22 : y2 ≠ ⟨#[114, 99]⟩ := by rw [← hy2]; exact hp2
              have p2 : (y2.toList == (⟨#[114, 99]⟩ : ByteArray).toList) = false := list_ne hp22
              have p2a : (y2.toList == [114, 99]) = false := list_ne2 hp22
              have HRI : Hid (mi = 0) := Lib.hid (by rw [← HMI.out]; exact ((yes_ret s v q (HW.out)).2 (HF.out)).1)
              have HRE : Hid (me = 6) := Lib.hid (by rw [← HME.out]; exact ((yes_ret s v q (HW.out)).2 (HF.out)).2)
              clear HA HZ HR HB HMI HME
              clear hp2 hp22
              go_wp2_with (go_at_call 21; with_reducible refine Calls.mono (hfig _) ?_; rintro e w2 ⟨rfl, hw2⟩; replace hw2 := hw2.symm; subst hw2)
              go_ret2
              exact ⟨(retnum HRI.out HRE.out).symm, rfl⟩
            · skip
              have z2 : decide ((2 : Int) < (q.size : Int)) = true := decide_eq_true (by omega)
              have z2n : decide (2 < q.size) = true := decide_eq_true (by omega)
              have zz2 : 2 ≤ q.size := by omega
              have zz2i : (2 : Int) ≤ (q.size : Int) := by omega
              have z4 : decide ((4 : Int) < (q.size : Int)) = true := decide_eq_true (by omega)
              have z4n : decide (4 < q.size) = true := decide_eq_true (by omega)
              have zz4 : 4 ≤ q.size := by omega
              have zz4i : (4 : Int) ≤ (q.size : Int) := by omega
              obtain ⟨y2, hy2⟩ : ∃ y, q.extract 0 2 = y := ⟨_, rfl⟩
              have hp22 : y2 ≠ ⟨#[114, 99]⟩ := by rw [← hy2]; exact hp2
              have p2 : (y2.toList == (⟨#[114, 99]⟩ : ByteArray).toList) = false := list_ne hp22
              have p2a : (y2.toList == [114, 99]) = false := list_ne2 hp22
              obtain ⟨y4, hy4⟩ : ∃ y, q.extract 0 4 = y := ⟨_, rfl⟩
              have hp42 : y4 ≠ ⟨#[98, 101, 116, 97]⟩ := by rw [← hy4]; exact hp4
              have p4 : (y4.toList == (⟨#[98, 101, 116, 97]⟩ : ByteArray).toList) = false := list_ne hp42
              have p4a : (y4.toList == [98, 101, 116, 97]) = false := list_ne2 hp42
              have HRI : Hid (mi = 0) := Lib.hid (by rw [← HMI.out]; exact ((yes_ret s v q (HW.out)).2 (HF.out)).1)
              have HRE : Hid (me = 6) := Lib.hid (by rw [← HME.out]; exact ((yes_ret s v q (HW.out)).2 (HF.out)).2)
              clear HA HZ HR HB HMI HME
              clear hp2 hp22 hp4 hp42
              go_wp2_with (go_at_call 21; with_reducible refine Calls.mono (hfig _) ?_; rintro e w2 ⟨rfl, hw2⟩; replace hw2 := hw2.symm; subst hw2)
              go_ret2
              exact ⟨(retnum HRI.out HRE.out).symm, rfl⟩
          have a48 : decide ((a : Int) = 48) = false := decide_eq_false (by omega)
          have a48n : decide (a = 48) = false := decide_eq_false (by omega)
          have a48b : ((a : Int) == 48) = false := by rw [beq_eq_false_iff_ne]; omega
          have a48c : ¬ (a : Int) = 48 := by omega
          have hq0 : q.size ≠ 0 := by omega
          have hqp : 0 < q.size := by omega
          have hqpi : (0 : Int) < (q.size : Int) := by omega
          have hql := full_list q hq0
          have hb0 := str_byte q 0 hqp
          have hc0 : byteN q 0 = c := by rw [← hq, extract_byte s 3 0 (by omega)]; exact hcc
          rw [hc0] at hb0
          have HC0 := Lib.hid hc0
          clear hc0
          have hqs : q.size ≤ 1000000 := by omega
          by_cases c46 : c = 46
          · have hfig := fun w => reffig_v (q.extract 1 q.size) w (by rw [ByteArray.size_extract]; omega)
            have hp2 : ¬ q.extract 0 2 = ⟨#[114, 99]⟩ := fun h => by
              have h5 : byteN (q.extract 0 2) 0 = byteN ⟨#[114, 99]⟩ 0 := congrArg (fun x => byteN x 0) h
              rw [byte_take q 2 (by decide), HC0.out] at h5
              have h6 : c = 114 := h5
              omega
            have hp4 : ¬ q.extract 0 4 = ⟨#[98, 101, 116, 97]⟩ := fun h => by
              have h5 : byteN (q.extract 0 4) 0 = byteN ⟨#[98, 101, 116, 97]⟩ 0 := congrArg (fun x => byteN x 0) h
              rw [byte_take q 4 (by decide), HC0.out] at h5
              have h6 : c = 98 := h5
              omega
            have HV := Lib.hid (end_1 q hqp (by rw [HC0.out, c46]))
            subst c46
            have w1 : 1 ≤ q.size := by omega
            have w1i : (1 : Int) ≤ (q.size : Int) := by omega
            obtain ⟨u, hu⟩ : ∃ u, q.extract 1 q.size = u := ⟨_, rfl⟩
            rw [hu] at hfig HV
            cases hd : digV u with
            | true =>
              rw [hd] at hfig
              have HRI : Hid (mi = (v : Int)) := Lib.hid (by rw [← HMI.out]; exact ((yes_ret s v q (HW.out)).1 (by rw [HV.out, hd])).1)
              have HRE : Hid (me = 0) := Lib.hid (by rw [← HME.out]; exact ((yes_ret s v q (HW.out)).1 (by rw [HV.out, hd])).2)
              clear HA HZ HR HB HMI HME
              clear hp2 hp4 hd
              go_wp2_with (go_at_call 21; with_reducible refine Calls.mono (hfig _) ?_; rintro e w2 ⟨rfl, hw2⟩; replace hw2 := hw2.symm; subst hw2)
              go_ret2
              exact ⟨(retnum HRI.out HRE.out).symm, rfl⟩
            | false =>
              rw [hd] at hfig
              have HF : Hid (endV q = false) := Lib.hid (by rw [HV.out, hd])
              clear hd
              by_cases s2 : q.size ≤ 2
              · skip
                have z2 : decide ((2 : Int) < (q.size : Int)) = false := decide_eq_false (by omega)
                have z2n : decide (2 < q.size) = false := decide_eq_false (by omega)
                have z4 : decide ((4 : Int) < (q.size : Int)) = false := decide_eq_false (by omega)
                have z4n : decide (4 < q.size) = false := decide_eq_false (by omega)
                have HRI : Hid (mi = 0) := Lib.hid (by rw [← HMI.out]; exact ((yes_ret s v q (HW.out)).2 (HF.out)).1)
                have HRE : Hid (me = 6) := Lib.hid (by rw [← HME.out]; exact ((yes_ret s v q (HW.out)).2 (HF.out)).2)
                clear HA HZ HR HB HMI HME
                go_wp2_with (go_at_call 21; with_reducible refine Calls.mono (hfig _) ?_; rintro e w2 ⟨rfl, hw2⟩; replace hw2 := hw2.symm; subst hw2)
                go_ret2
                exact ⟨(retnum HRI.out HRE.out).symm, rfl⟩
              by_cases s4 : q.size ≤ 4
              · skip
                have z2 : decide ((2 : Int) < (q.size : Int)) = true := decide_eq_true (by omega)
                have z2n : decide (2 < q.size) = true := decide_eq_true (by omega)
                have zz2 : 2 ≤ q.size := by omega
                have zz2i : (2 : Int) ≤ (q.size : Int) := by omega
                have z4 : decide ((4 : Int) < (q.size : Int)) = false := decide_eq_false (by omega)
                have z4n : decide (4 < q.size) = false := decide_eq_false (by omega)
                obtain ⟨y2, hy2⟩ : ∃ y, q.extract 0 2 = y := ⟨_, rfl⟩
                have hp22 : y2 ≠ ⟨#[114, 99]⟩ := by rw [← hy2]; exact hp2
                have p2 : (y2.toList == (⟨#[114, 99]⟩ : ByteArray).toList) = false := list_ne hp22
                have p2a : (y2.toList == [114, 99]) = false := list_ne2 hp22
                have HRI : Hid (mi = 0) := Lib.hid (by rw [← HMI.out]; exact ((yes_ret s v q (HW.out)).2 (HF.out)).1)
                have HRE : Hid (me = 6) := Lib.hid (by rw [← HME.out]; exact ((yes_ret s v q (HW.out)).2 (HF.out)).2)
                clear HA HZ HR HB HMI HME
                clear hp2 hp22
                go_wp2_with (go_at_call 21; with_reducible refine Calls.mono (hfig _) ?_; rintro e w2 ⟨rfl, hw2⟩; replace hw2 := hw2.symm; subst hw2)
                go_ret2
                exact ⟨(retnum HRI.out HRE.out).symm, rfl⟩
              · skip
                have z2 : decide ((2 : Int) < (q.size : Int)) = true := decide_eq_true (by omega)
                have z2n : decide (2 < q.size) = true := decide_eq_true (by omega)
                have zz2 : 2 ≤ q.size := by omega
                have zz2i : (2 : Int) ≤ (q.size : Int) := by omega
                have z4 : decide ((4 : Int) < (q.size : Int)) = true := decide_eq_true (by omega)
                have z4n : decide (4 < q.size) = true := decide_eq_true (by omega)
                have zz4 : 4 ≤ q.size := by omega
                have zz4i : (4 : Int) ≤ (q.size : Int) := by omega
                obtain ⟨y2, hy2⟩ : ∃ y, q.extract 0 2 = y := ⟨_, rfl⟩
                have hp22 : y2 ≠ ⟨#[114, 99]⟩ := by rw [← hy2]; exact hp2
                have p2 : (y2.toList == (⟨#[114, 99]⟩ : ByteArray).toList) = false := list_ne hp22
                have p2a : (y2.toList == [114, 99]) = false := list_ne2 hp22
                obtain ⟨y4, hy4⟩ : ∃ y, q.extract 0 4 = y := ⟨_, rfl⟩
                have hp42 : y4 ≠ ⟨#[98, 101, 116, 97]⟩ := by rw [← hy4]; exact hp4
                have p4 : (y4.toList == (⟨#[98, 101, 116, 97]⟩ : ByteArray).toList) = false := list_ne hp42
                have p4a : (y4.toList == [98, 101, 116, 97]) = false := list_ne2 hp42
                have HRI : Hid (mi = 0) := Lib.hid (by rw [← HMI.out]; exact ((yes_ret s v q (HW.out)).2 (HF.out)).1)
                have HRE : Hid (me = 6) := Lib.hid (by rw [← HME.out]; exact ((yes_ret s v q (HW.out)).2 (HF.out)).2)
                clear HA HZ HR HB HMI HME
                clear hp2 hp22 hp4 hp42
                go_wp2_with (go_at_call 21; with_reducible refine Calls.mono (hfig _) ?_; rintro e w2 ⟨rfl, hw2⟩; replace hw2 := hw2.symm; subst hw2)
                go_ret2
                exact ⟨(retnum HRI.out HRE.out).symm, rfl⟩
          have hc46 : ¬ c = 46 := c46
          have e46 : decide ((c : Int) = 46) = false := decide_eq_false (by omega)
          have e46n : decide (c = 46) = false := decide_eq_false (by omega)
          have e46b : ((c : Int) == 46) = false := by rw [beq_eq_false_iff_ne]; omega
          have e46c : ¬ (c : Int) = 46 := by omega
          have hp2 : ¬ q.extract 0 2 = ⟨#[114, 99]⟩ := fun h => by
            have h5 : byteN (q.extract 0 2) 0 = byteN ⟨#[114, 99]⟩ 0 := congrArg (fun x => byteN x 0) h
            rw [byte_take q 2 (by decide), HC0.out] at h5
            have h6 : c = 114 := h5
            omega
          have hp4 : ¬ q.extract 0 4 = ⟨#[98, 101, 116, 97]⟩ := fun h => by
            have h5 : byteN (q.extract 0 4) 0 = byteN ⟨#[98, 101, 116, 97]⟩ 0 := congrArg (fun x => byteN x 0) h
            rw [byte_take q 4 (by decide), HC0.out] at h5
            have h6 : c = 98 := h5
            omega
          have HF : Hid (endV q = false) := Lib.hid (by rw [end_2 q hqp (by rw [HC0.out]; exact c46), if_neg hp2, if_neg hp4])
          have hfig := fun w => reffig_v q w (by omega)
          by_cases s2 : q.size ≤ 2
          · skip
            have z2 : decide ((2 : Int) < (q.size : Int)) = false := decide_eq_false (by omega)
            have z2n : decide (2 < q.size) = false := decide_eq_false (by omega)
            have z4 : decide ((4 : Int) < (q.size : Int)) = false := decide_eq_false (by omega)
            have z4n : decide (4 < q.size) = false := decide_eq_false (by omega)
            have HRI : Hid (mi = 0) := Lib.hid (by rw [← HMI.out]; exact ((yes_ret s v q (HW.out)).2 (HF.out)).1)
            have HRE : Hid (me = 6) := Lib.hid (by rw [← HME.out]; exact ((yes_ret s v q (HW.out)).2 (HF.out)).2)
            clear HA HZ HR HB HMI HME
            go_wp2_with (go_at_call 21; with_reducible refine Calls.mono (hfig _) ?_; rintro e w2 ⟨rfl, hw2⟩; replace hw2 := hw2.symm; subst hw2)
            go_ret2
            exact ⟨(retnum HRI.out HRE.out).symm, rfl⟩
          by_cases s4 : q.size ≤ 4
          · skip
            have z2 : decide ((2 : Int) < (q.size : Int)) = true := decide_eq_true (by omega)
            have z2n : decide (2 < q.size) = true := decide_eq_true (by omega)
            have zz2 : 2 ≤ q.size := by omega
            have zz2i : (2 : Int) ≤ (q.size : Int) := by omega
            have z4 : decide ((4 : Int) < (q.size : Int)) = false := decide_eq_false (by omega)
            have z4n : decide (4 < q.size) = false := decide_eq_false (by omega)
            obtain ⟨y2, hy2⟩ : ∃ y, q.extract 0 2 = y := ⟨_, rfl⟩
            have hp22 : y2 ≠ ⟨#[114, 99]⟩ := by rw [← hy2]; exact hp2
            have p2 : (y2.toList == (⟨#[114, 99]⟩ : ByteArray).toList) = false := list_ne hp22
            have p2a : (y2.toList == [114, 99]) = false := list_ne2 hp22
            have HRI : Hid (mi = 0) := Lib.hid (by rw [← HMI.out]; exact ((yes_ret s v q (HW.out)).2 (HF.out)).1)
            have HRE : Hid (me = 6) := Lib.hid (by rw [← HME.out]; exact ((yes_ret s v q (HW.out)).2 (HF.out)).2)
            clear HA HZ HR HB HMI HME
            clear hp2 hp22
            go_wp2_with (go_at_call 21; with_reducible refine Calls.mono (hfig _) ?_; rintro e w2 ⟨rfl, hw2⟩; replace hw2 := hw2.symm; subst hw2)
            go_ret2
            exact ⟨(retnum HRI.out HRE.out).symm, rfl⟩
          · skip
            have z2 : decide ((2 : Int) < (q.size : Int)) = true := decide_eq_true (by omega)
            have z2n : decide (2 < q.size) = true := decide_eq_true (by omega)
            have zz2 : 2 ≤ q.size := by omega
            have zz2i : (2 : Int) ≤ (q.size : Int) := by omega
            have z4 : decide ((4 : Int) < (q.size : Int)) = true := decide_eq_true (by omega)
            have z4n : decide (4 < q.size) = true := decide_eq_true (by omega)
            have zz4 : 4 ≤ q.size := by omega
            have zz4i : (4 : Int) ≤ (q.size : Int) := by omega
            obtain ⟨y2, hy2⟩ : ∃ y, q.extract 0 2 = y := ⟨_, rfl⟩
            have hp22 : y2 ≠ ⟨#[114, 99]⟩ := by rw [← hy2]; exact hp2
            have p2 : (y2.toList == (⟨#[114, 99]⟩ : ByteArray).toList) = false := list_ne hp22
            have p2a : (y2.toList == [114, 99]) = false := list_ne2 hp22
            obtain ⟨y4, hy4⟩ : ∃ y, q.extract 0 4 = y := ⟨_, rfl⟩
            have hp42 : y4 ≠ ⟨#[98, 101, 116, 97]⟩ := by rw [← hy4]; exact hp4
            have p4 : (y4.toList == (⟨#[98, 101, 116, 97]⟩ : ByteArray).toList) = false := list_ne hp42
            have p4a : (y4.toList == [98, 101, 116, 97]) = false := list_ne2 hp42
            have HRI : Hid (mi = 0) := Lib.hid (by rw [← HMI.out]; exact ((yes_ret s v q (HW.out)).2 (HF.out)).1)
            have HRE : Hid (me = 6) := Lib.hid (by rw [← HME.out]; exact ((yes_ret s v q (HW.out)).2 (HF.out)).2)
            clear HA HZ HR HB HMI HME
            clear hp2 hp22 hp4 hp42
            go_wp2_with (go_at_call 21; with_reducible refine Calls.mono (hfig _) ?_; rintro e w2 ⟨rfl, hw2⟩; replace hw2 := hw2.symm; subst hw2)
            go_ret2
            exact ⟨(retnum HRI.out HRE.out).symm, rfl⟩
      · have hKJ : K = 1 := by omega
        have x1 : decide ((3 : Int) < (s.size : Int)) = false := decide_eq_false (by omega)
        have x1n : decide (3 < s.size) = false := decide_eq_false (by omega)
        have ha0 : 48 ≤ byteN s 2 ∧ byteN s 2 ≤ 57 := HA.out 0 (by omega)
        have hv : valN s 1 = byteN s 2 - 48 := by show 10 * 0 + (byteN s (2 + 0) - 48) = _; simp
        obtain ⟨v, hvv⟩ : ∃ v, valN s 1 = v := ⟨_, rfl⟩
        rw [hvv] at hv ⊢
        clear hvv
        have hb2 := HB.out 2 (by omega)
        have h2s : 2 < s.size := by omega
        have h2si : (2 : Int) < (s.size : Int) := by omega
        have HW : Hid (minorW s = if endV (s.extract 3 s.size) = true then some v else none) := Lib.hid (by rw [minor_one s HP.out (by rw [HK.out]; omega), hv])
        obtain ⟨a, ha⟩ : ∃ a, byteN s 2 = a := ⟨_, rfl⟩
        rw [ha] at hb2 hv ha0
        clear ha
        have v1 : decide ((99 : Int) < (v : Int)) = false := decide_eq_false (by omega)
        have v1n : decide (99 < v) = false := decide_eq_false (by omega)
        obtain ⟨q, hq⟩ : ∃ q, s.extract 3 s.size = q := ⟨_, rfl⟩
        have hqz1 : q.size + 3 ≤ s.size := by rw [← hq, ByteArray.size_extract]; omega
        have hqz2 : s.size ≤ q.size + 3 := by rw [← hq, ByteArray.size_extract]; omega
        have hsl1 : 3 ≤ s.size := by omega
        have hsl2 : (3 : Int) ≤ (s.size : Int) := by omega
        rw [hq] at HW
        clear hv
        by_cases a48 : a = 48
        · subst a48
          have hq0 : q.size = 0 := by omega
          have hql := empty_list q hq0
          have HRI : Hid (mi = (v : Int)) := Lib.hid (by rw [← HMI.out]; exact ((yes_ret s v q (HW.out)).1 (end_0 q hq0)).1)
          have HRE : Hid (me = 0) := Lib.hid (by rw [← HME.out]; exact ((yes_ret s v q (HW.out)).1 (end_0 q hq0)).2)
          clear HA HZ HR HB HMI HME
          go_wp2_with fail
          go_ret2
          exact ⟨(retnum HRI.out HRE.out).symm, rfl⟩
        have a48 : decide ((a : Int) = 48) = false := decide_eq_false (by omega)
        have a48n : decide (a = 48) = false := decide_eq_false (by omega)
        have a48b : ((a : Int) == 48) = false := by rw [beq_eq_false_iff_ne]; omega
        have a48c : ¬ (a : Int) = 48 := by omega
        have hq0 : q.size = 0 := by omega
        have hql := empty_list q hq0
        have HRI : Hid (mi = (v : Int)) := Lib.hid (by rw [← HMI.out]; exact ((yes_ret s v q (HW.out)).1 (end_0 q hq0)).1)
        have HRE : Hid (me = 0) := Lib.hid (by rw [← HME.out]; exact ((yes_ret s v q (HW.out)).1 (end_0 q hq0)).2)
        clear HA HZ HR HB HMI HME
        go_wp2_with fail
        go_ret2
        exact ⟨(retnum HRI.out HRE.out).symm, rfl⟩
    · by_cases hend : 4 < s.size
      · have hb := HB.out 4 hend
        obtain ⟨c, hcc⟩ : ∃ c, byteN s 4 = c := ⟨_, rfl⟩
        rw [hcc] at hb
        clear hbyte
        by_cases c1 : 48 ≤ c
        · by_cases c2 : c ≤ 57
          · skip
            have hK1 : 3 ≤ K := by
              by_cases h : K = 2
              · exact absurd (show 48 ≤ c ∧ c ≤ 57 from ⟨c1, c2⟩) (by have := HZ.out (by rw [h]; exact hend); rw [h, show byteN s (2 + 2) = c from hcc] at this; exact this)
              · omega
            have hvs : valN s 3 = 10 * valN s 2 + (c - 48) := by show 10 * valN s 2 + (byteN s (2 + 2) - 48) = _; rw [show byteN s (2 + 2) = c from hcc]
            have HVS := Lib.hid hvs
            clear hvs
            have hvb : valN s 2 ≤ 99 := by
              have ha0 : 48 ≤ byteN s 2 ∧ byteN s 2 ≤ 57 := HA.out 0 (by omega)
              have ha1 : 48 ≤ byteN s 3 ∧ byteN s 3 ≤ 57 := HA.out 1 (by omega)
              have hv : valN s 2 = 10 * (byteN s 2 - 48) + (byteN s 3 - 48) := by show 10 * (10 * 0 + (byteN s (2 + 0) - 48)) + (byteN s (2 + 1) - 48) = _; simp
              omega
            obtain ⟨v, hvv⟩ : ∃ v, valN s 2 = v := ⟨_, rfl⟩
            rw [hvv] at hvb HVS ⊢
            clear hvv
            have x0 : 4 < s.size := hend
            have x0i : (4 : Int) < (s.size : Int) := by omega
            have x1 : decide ((4 : Int) < (s.size : Int)) = true := decide_eq_true (by omega)
            have x1n : decide (4 < s.size) = true := decide_eq_true (by omega)
            have x2 : decide ((48 : Int) ≤ (c : Int)) = true := decide_eq_true (by omega)
            have x2n : decide (48 ≤ c) = true := decide_eq_true (by omega)
            have x3 : decide ((c : Int) ≤ 57) = true := decide_eq_true (by omega)
            have x3n : decide (c ≤ 57) = true := decide_eq_true (by omega)
            have y1 : IntKind.u8.wrap ((c : Int) - 48) = (c : Int) - 48 := IntWalk.u8_in _ (by omega)
            have y2 : IntKind.i64.wrap ((c : Int) - 48) = (c : Int) - 48 := IntWalk.i64_in _ (by omega)
            have y3 : IntKind.i64.wrap (10 * (v : Int)) = 10 * (v : Int) := IntWalk.i64_in _ (by omega)
            have y4 : IntKind.i64.wrap (10 * (v : Int) + ((c : Int) - 48)) = 10 * (v : Int) + ((c : Int) - 48) := IntWalk.i64_in _ (by omega)
            clear HA HZ HR HB HMI HME
            go_wp2_with fail
            go_roundw
            case rel => exact ⟨3, by rw [HVS.out]; go_num, by go_num, by omega, hK1, by first | rfl | trivial⟩
            case measure => simp [intOf]
          · have hKJ : K = 2 := by
              by_cases h : K = 2
              · exact h
              · have := HA.out 2 (by omega)
                rw [show byteN s (2 + 2) = c from hcc] at this
                exact absurd this.2 c2
            have x1 : decide ((4 : Int) < (s.size : Int)) = true := decide_eq_true (by omega)
            have x1n : decide (4 < s.size) = true := decide_eq_true (by omega)
            have x2 : decide ((48 : Int) ≤ (c : Int)) = true := decide_eq_true (by omega)
            have x2n : decide (48 ≤ c) = true := decide_eq_true (by omega)
            have x3 : decide ((c : Int) ≤ 57) = false := decide_eq_false (by omega)
            have x3n : decide (c ≤ 57) = false := decide_eq_false (by omega)
            have x4 : 4 < s.size := by omega
            have x4i : (4 : Int) < (s.size : Int) := by omega
            have ha0 : 48 ≤ byteN s 2 ∧ byteN s 2 ≤ 57 := HA.out 0 (by omega)
            have ha1 : 48 ≤ byteN s 3 ∧ byteN s 3 ≤ 57 := HA.out 1 (by omega)
            have hv : valN s 2 = 10 * (byteN s 2 - 48) + (byteN s 3 - 48) := by show 10 * (10 * 0 + (byteN s (2 + 0) - 48)) + (byteN s (2 + 1) - 48) = _; simp
            obtain ⟨v, hvv⟩ : ∃ v, valN s 2 = v := ⟨_, rfl⟩
            rw [hvv] at hv ⊢
            clear hvv
            have hb2 := HB.out 2 (by omega)
            have h2s : 2 < s.size := by omega
            have h2si : (2 : Int) < (s.size : Int) := by omega
            obtain ⟨a, ha⟩ : ∃ a, byteN s 2 = a := ⟨_, rfl⟩
            have HAA := Lib.hid ha
            rw [ha] at hb2 hv ha0
            clear ha
            have v1 : decide ((99 : Int) < (v : Int)) = false := decide_eq_false (by omega)
            have v1n : decide (99 < v) = false := decide_eq_false (by omega)
            by_cases a48 : a = 48
            · subst a48
              have HRI : Hid (mi = 0) := Lib.hid (by rw [← HMI.out]; exact (no_ret s (minor_two0 s HP.out (by rw [HK.out]; omega) HAA.out)).1)
              have HRE : Hid (me = 6) := Lib.hid (by rw [← HME.out]; exact (no_ret s (minor_two0 s HP.out (by rw [HK.out]; omega) HAA.out)).2)
              clear HA HZ HR HB HMI HME
              clear hv ha0 ha1
              go_wp2_with fail
              go_ret2
              exact ⟨(retnum HRI.out HRE.out).symm, rfl⟩
            have HW : Hid (minorW s = if endV (s.extract 4 s.size) = true then some v else none) := Lib.hid (by rw [minor_two s HP.out (by rw [HK.out]; omega) (by rw [HAA.out]; exact a48), hv, HAA.out])
            have a48 : decide ((a : Int) = 48) = false := decide_eq_false (by omega)
            have a48n : decide (a = 48) = false := decide_eq_false (by omega)
            have a48b : ((a : Int) == 48) = false := by rw [beq_eq_false_iff_ne]; omega
            have a48c : ¬ (a : Int) = 48 := by omega
            obtain ⟨q, hq⟩ : ∃ q, s.extract 4 s.size = q := ⟨_, rfl⟩
            have hqz1 : q.size + 4 ≤ s.size := by rw [← hq, ByteArray.size_extract]; omega
            have hqz2 : s.size ≤ q.size + 4 := by rw [← hq, ByteArray.size_extract]; omega
            have hsl1 : 4 ≤ s.size := by omega
            have hsl2 : (4 : Int) ≤ (s.size : Int) := by omega
            rw [hq] at HW
            clear hv
            have hq0 : q.size ≠ 0 := by omega
            have hqp : 0 < q.size := by omega
            have hqpi : (0 : Int) < (q.size : Int) := by omega
            have hql := full_list q hq0
            have hb0 := str_byte q 0 hqp
            have hc0 : byteN q 0 = c := by rw [← hq, extract_byte s 4 0 (by omega)]; exact hcc
            rw [hc0] at hb0
            have HC0 := Lib.hid hc0
            clear hc0
            have hqs : q.size ≤ 1000000 := by omega
            have c46 : ¬ c = 46 := by omega
            have e46 : decide ((c : Int) = 46) = false := decide_eq_false (by omega)
            have e46n : decide (c = 46) = false := decide_eq_false (by omega)
            have e46b : ((c : Int) == 46) = false := by rw [beq_eq_false_iff_ne]; omega
            have e46c : ¬ (c : Int) = 46 := by omega
            have HV := Lib.hid (end_2 q hqp (by rw [HC0.out]; exact c46))
            by_cases s2 : q.size ≤ 2
            · have HF : Hid (endV q = false) := Lib.hid (by
                rw [HV.out]
                split
                · exact digV_2 q s2
                · rw [if_neg]
                  intro h
                  have h5 := congrArg ByteArray.size h
                  rw [ByteArray.size_extract] at h5
                  have h6 : (⟨#[98, 101, 116, 97]⟩ : ByteArray).size = 4 := rfl
                  omega)
              have hfig := fun w => reffig_v q w (by omega)
              have z2 : decide ((2 : Int) < (q.size : Int)) = false := decide_eq_false (by omega)
              have z2n : decide (2 < q.size) = false := decide_eq_false (by omega)
              have z4 : decide ((4 : Int) < (q.size : Int)) = false := decide_eq_false (by omega)
              have z4n : decide (4 < q.size) = false := decide_eq_false (by omega)
              have HRI : Hid (mi = 0) := Lib.hid (by rw [← HMI.out]; exact ((yes_ret s v q (HW.out)).2 (HF.out)).1)
              have HRE : Hid (me = 6) := Lib.hid (by rw [← HME.out]; exact ((yes_ret s v q (HW.out)).2 (HF.out)).2)
              clear HA HZ HR HB HMI HME
              go_wp2_with (go_at_call 21; with_reducible refine Calls.mono (hfig _) ?_; rintro e w2 ⟨rfl, hw2⟩; replace hw2 := hw2.symm; subst hw2)
              go_ret2
              exact ⟨(retnum HRI.out HRE.out).symm, rfl⟩
            have z2 : decide ((2 : Int) < (q.size : Int)) = true := decide_eq_true (by omega)
            have z2n : decide (2 < q.size) = true := decide_eq_true (by omega)
            have zz2 : 2 ≤ q.size := by omega
            have zz2i : (2 : Int) ≤ (q.size : Int) := by omega
            by_cases hp2 : q.extract 0 2 = ⟨#[114, 99]⟩
            · have HV2 : Hid (endV q = digV (q.extract 2 q.size)) := Lib.hid (by rw [HV.out, if_pos hp2])
              have hp4 : ¬ q.extract 0 4 = ⟨#[98, 101, 116, 97]⟩ := fun h => by
                have h5 : byteN (q.extract 0 4) 0 = byteN ⟨#[98, 101, 116, 97]⟩ 0 := congrArg (fun x => byteN x 0) h
                have h7 : byteN (q.extract 0 2) 0 = byteN ⟨#[114, 99]⟩ 0 := congrArg (fun x => byteN x 0) hp2
                rw [byte_take q 4 (by decide)] at h5
                rw [byte_take q 2 (by decide)] at h7
                have h6 : byteN q 0 = 98 := h5
                have h8 : byteN q 0 = 114 := h7
                omega
              have hfig := fun w => reffig_v (q.extract 2 q.size) w (by rw [ByteArray.size_extract]; omega)
              obtain ⟨u, hu⟩ : ∃ u, q.extract 2 q.size = u := ⟨_, rfl⟩
              rw [hu] at hfig HV2
              cases hd : digV u with
              | true =>
                rw [hd] at hfig
                have HRI : Hid (mi = (v : Int)) := Lib.hid (by rw [← HMI.out]; exact ((yes_ret s v q (HW.out)).1 (by rw [HV2.out, hd])).1)
                have HRE : Hid (me = 0) := Lib.hid (by rw [← HME.out]; exact ((yes_ret s v q (HW.out)).1 (by rw [HV2.out, hd])).2)
                clear HA HZ HR HB HMI HME
                clear hd hp4
                go_wp2_with (go_at_call 21; with_reducible refine Calls.mono (hfig _) ?_; rintro e w2 ⟨rfl, hw2⟩; replace hw2 := hw2.symm; subst hw2)
                go_ret2
                exact ⟨(retnum HRI.out HRE.out).symm, rfl⟩
              | false =>
                rw [hd] at hfig
                have HF : Hid (endV q = false) := Lib.hid (by rw [HV2.out, hd])
                clear hd
                by_cases s4 : q.size ≤ 4
                · skip
                  have z4 : decide ((4 : Int) < (q.size : Int)) = false := decide_eq_false (by omega)
                  have z4n : decide (4 < q.size) = false := decide_eq_false (by omega)
                  have HRI : Hid (mi = 0) := Lib.hid (by rw [← HMI.out]; exact ((yes_ret s v q (HW.out)).2 (HF.out)).1)
                  have HRE : Hid (me = 6) := Lib.hid (by rw [← HME.out]; exact ((yes_ret s v q (HW.out)).2 (HF.out)).2)
                  clear HA HZ HR HB HMI HME
                  clear hp4
                  go_wp2_with (go_at_call 21; with_reducible refine Calls.mono (hfig _) ?_; rintro e w2 ⟨rfl, hw2⟩; replace hw2 := hw2.symm; subst hw2)
                  go_ret2
                  exact ⟨(retnum HRI.out HRE.out).symm, rfl⟩
                · skip
                  have z4 : decide ((4 : Int) < (q.size : Int)) = true := decide_eq_true (by omega)
                  have z4n : decide (4 < q.size) = true := decide_eq_true (by omega)
                  have zz4 : 4 ≤ q.size := by omega
                  have zz4i : (4 : Int) ≤ (q.size : Int) := by omega
                  obtain ⟨y4, hy4⟩ : ∃ y, q.extract 0 4 = y := ⟨_, rfl⟩
                  have hp42 : y4 ≠ ⟨#[98, 101, 116, 97]⟩ := by rw [← hy4]; exact hp4
                  have p4 : (y4.toList == (⟨#[98, 101, 116, 97]⟩ : ByteArray).toList) = false := list_ne hp42
                  have p4a : (y4.toList == [98, 101, 116, 97]) = false := list_ne2 hp42
                  have HRI : Hid (mi = 0) := Lib.hid (by rw [← HMI.out]; exact ((yes_ret s v q (HW.out)).2 (HF.out)).1)
                  have HRE : Hid (me = 6) := Lib.hid (by rw [← HME.out]; exact ((yes_ret s v q (HW.out)).2 (HF.out)).2)
                  clear HA HZ HR HB HMI HME
                  clear hp4 hp42
                  go_wp2_with (go_at_call 21; with_reducible refine Calls.mono (hfig _) ?_; rintro e w2 ⟨rfl, hw2⟩; replace hw2 := hw2.symm; subst hw2)
                  go_ret2
                  exact ⟨(retnum HRI.out HRE.out).symm, rfl⟩
            obtain ⟨y2, hy2⟩ : ∃ y, q.extract 0 2 = y := ⟨_, rfl⟩
            have hp22 : y2 ≠ ⟨#[114, 99]⟩ := by rw [← hy2]; exact hp2
            have p2 : (y2.toList == (⟨#[114, 99]⟩ : ByteArray).toList) = false := list_ne hp22
            have p2a : (y2.toList == [114, 99]) = false := list_ne2 hp22
            by_cases s4 : q.size ≤ 4
            · have HF : Hid (endV q = false) := Lib.hid (by
                rw [HV.out, if_neg hp2]
                split
                · exact dig_none _ (by rw [ByteArray.size_extract]; omega)
                · rfl)
              have hfig := fun w => reffig_v q w (by omega)
              have z4 : decide ((4 : Int) < (q.size : Int)) = false := decide_eq_false (by omega)
              have z4n : decide (4 < q.size) = false := decide_eq_false (by omega)
              have HRI : Hid (mi = 0) := Lib.hid (by rw [← HMI.out]; exact ((yes_ret s v q (HW.out)).2 (HF.out)).1)
              have HRE : Hid (me = 6) := Lib.hid (by rw [← HME.out]; exact ((yes_ret s v q (HW.out)).2 (HF.out)).2)
              clear HA HZ HR HB HMI HME
              clear hp2 hp22
              go_wp2_with (go_at_call 21; with_reducible refine Calls.mono (hfig _) ?_; rintro e w2 ⟨rfl, hw2⟩; replace hw2 := hw2.symm; subst hw2)
              go_ret2
              exact ⟨(retnum HRI.out HRE.out).symm, rfl⟩
            have z4 : decide ((4 : Int) < (q.size : Int)) = true := decide_eq_true (by omega)
            have z4n : decide (4 < q.size) = true := decide_eq_true (by omega)
            have zz4 : 4 ≤ q.size := by omega
            have zz4i : (4 : Int) ≤ (q.size : Int) := by omega
            by_cases hp4 : q.extract 0 4 = ⟨#[98, 101, 116, 97]⟩
            · have HV2 : Hid (endV q = digV (q.extract 4 q.size)) := Lib.hid (by rw [HV.out, if_neg hp2, if_pos hp4])
              have hfig := fun w => reffig_v (q.extract 4 q.size) w (by rw [ByteArray.size_extract]; omega)
              obtain ⟨u, hu⟩ : ∃ u, q.extract 4 q.size = u := ⟨_, rfl⟩
              rw [hu] at hfig HV2
              cases hd : digV u with
              | true =>
                rw [hd] at hfig
                have HRI : Hid (mi = (v : Int)) := Lib.hid (by rw [← HMI.out]; exact ((yes_ret s v q (HW.out)).1 (by rw [HV2.out, hd])).1)
                have HRE : Hid (me = 0) := Lib.hid (by rw [← HME.out]; exact ((yes_ret s v q (HW.out)).1 (by rw [HV2.out, hd])).2)
                clear HA HZ HR HB HMI HME
                clear hd hp2 hp22
                go_wp2_with (go_at_call 21; with_reducible refine Calls.mono (hfig _) ?_; rintro e w2 ⟨rfl, hw2⟩; replace hw2 := hw2.symm; subst hw2)
                go_ret2
                exact ⟨(retnum HRI.out HRE.out).symm, rfl⟩
              | false =>
                rw [hd] at hfig
                have HF : Hid (endV q = false) := Lib.hid (by rw [HV2.out, hd])
                have HRI : Hid (mi = 0) := Lib.hid (by rw [← HMI.out]; exact ((yes_ret s v q (HW.out)).2 (HF.out)).1)
                have HRE : Hid (me = 6) := Lib.hid (by rw [← HME.out]; exact ((yes_ret s v q (HW.out)).2 (HF.out)).2)
                clear HA HZ HR HB HMI HME
                clear hd hp2 hp22
                go_wp2_with (go_at_call 21; with_reducible refine Calls.mono (hfig _) ?_; rintro e w2 ⟨rfl, hw2⟩; replace hw2 := hw2.symm; subst hw2)
                go_ret2
                exact ⟨(retnum HRI.out HRE.out).symm, rfl⟩
            have HF : Hid (endV q = false) := Lib.hid (by rw [HV.out, if_neg hp2, if_neg hp4])
            have hfig := fun w => reffig_v q w (by omega)
            obtain ⟨y4, hy4⟩ : ∃ y, q.extract 0 4 = y := ⟨_, rfl⟩
            have hp42 : y4 ≠ ⟨#[98, 101, 116, 97]⟩ := by rw [← hy4]; exact hp4
            have p4 : (y4.toList == (⟨#[98, 101, 116, 97]⟩ : ByteArray).toList) = false := list_ne hp42
            have p4a : (y4.toList == [98, 101, 116, 97]) = false := list_ne2 hp42
            have HRI : Hid (mi = 0) := Lib.hid (by rw [← HMI.out]; exact ((yes_ret s v q (HW.out)).2 (HF.out)).1)
            have HRE : Hid (me = 6) := Lib.hid (by rw [← HME.out]; exact ((yes_ret s v q (HW.out)).2 (HF.out)).2)
            clear HA HZ HR HB HMI HME
            clear hp2 hp22 hp4 hp42
            go_wp2_with (go_at_call 21; with_reducible refine Calls.mono (hfig _) ?_; rintro e w2 ⟨rfl, hw2⟩; replace hw2 := hw2.symm; subst hw2)
            go_ret2
            exact ⟨(retnum HRI.out HRE.out).symm, rfl⟩
        · have hKJ : K = 2 := by
            by_cases h : K = 2
            · exact h
            · have := HA.out 2 (by omega)
              rw [show byteN s (2 + 2) = c from hcc] at this
              exact absurd this.1 c1
          have x1 : decide ((4 : Int) < (s.size : Int)) = true := decide_eq_true (by omega)
          have x1n : decide (4 < s.size) = true := decide_eq_true (by omega)
          have x2 : decide ((48 : Int) ≤ (c : Int)) = false := decide_eq_false (by omega)
          have x2n : decide (48 ≤ c) = false := decide_eq_false (by omega)
          have x4 : 4 < s.size := by omega
          have x4i : (4 : Int) < (s.size : Int) := by omega
          have ha0 : 48 ≤ byteN s 2 ∧ byteN s 2 ≤ 57 := HA.out 0 (by omega)
          have ha1 : 48 ≤ byteN s 3 ∧ byteN s 3 ≤ 57 := HA.out 1 (by omega)
          have hv : valN s 2 = 10 * (byteN s 2 - 48) + (byteN s 3 - 48) := by show 10 * (10 * 0 + (byteN s (2 + 0) - 48)) + (byteN s (2 + 1) - 48) = _; simp
          obtain ⟨v, hvv⟩ : ∃ v, valN s 2 = v := ⟨_, rfl⟩
          rw [hvv] at hv ⊢
          clear hvv
          have hb2 := HB.out 2 (by omega)
          have h2s : 2 < s.size := by omega
          have h2si : (2 : Int) < (s.size : Int) := by omega
          obtain ⟨a, ha⟩ : ∃ a, byteN s 2 = a := ⟨_, rfl⟩
          have HAA := Lib.hid ha
          rw [ha] at hb2 hv ha0
          clear ha
          have v1 : decide ((99 : Int) < (v : Int)) = false := decide_eq_false (by omega)
          have v1n : decide (99 < v) = false := decide_eq_false (by omega)
          by_cases a48 : a = 48
          · subst a48
            have HRI : Hid (mi = 0) := Lib.hid (by rw [← HMI.out]; exact (no_ret s (minor_two0 s HP.out (by rw [HK.out]; omega) HAA.out)).1)
            have HRE : Hid (me = 6) := Lib.hid (by rw [← HME.out]; exact (no_ret s (minor_two0 s HP.out (by rw [HK.out]; omega) HAA.out)).2)
            clear HA HZ HR HB HMI HME
            clear hv ha0 ha1
            go_wp2_with fail
            go_ret2
            exact ⟨(retnum HRI.out HRE.out).symm, rfl⟩
          have HW : Hid (minorW s = if endV (s.extract 4 s.size) = true then some v else none) := Lib.hid (by rw [minor_two s HP.out (by rw [HK.out]; omega) (by rw [HAA.out]; exact a48), hv, HAA.out])
          have a48 : decide ((a : Int) = 48) = false := decide_eq_false (by omega)
          have a48n : decide (a = 48) = false := decide_eq_false (by omega)
          have a48b : ((a : Int) == 48) = false := by rw [beq_eq_false_iff_ne]; omega
          have a48c : ¬ (a : Int) = 48 := by omega
          obtain ⟨q, hq⟩ : ∃ q, s.extract 4 s.size = q := ⟨_, rfl⟩
          have hqz1 : q.size + 4 ≤ s.size := by rw [← hq, ByteArray.size_extract]; omega
          have hqz2 : s.size ≤ q.size + 4 := by rw [← hq, ByteArray.size_extract]; omega
          have hsl1 : 4 ≤ s.size := by omega
          have hsl2 : (4 : Int) ≤ (s.size : Int) := by omega
          rw [hq] at HW
          clear hv
          have hq0 : q.size ≠ 0 := by omega
          have hqp : 0 < q.size := by omega
          have hqpi : (0 : Int) < (q.size : Int) := by omega
          have hql := full_list q hq0
          have hb0 := str_byte q 0 hqp
          have hc0 : byteN q 0 = c := by rw [← hq, extract_byte s 4 0 (by omega)]; exact hcc
          rw [hc0] at hb0
          have HC0 := Lib.hid hc0
          clear hc0
          have hqs : q.size ≤ 1000000 := by omega
          by_cases c46 : c = 46
          · have hfig := fun w => reffig_v (q.extract 1 q.size) w (by rw [ByteArray.size_extract]; omega)
            have hp2 : ¬ q.extract 0 2 = ⟨#[114, 99]⟩ := fun h => by
              have h5 : byteN (q.extract 0 2) 0 = byteN ⟨#[114, 99]⟩ 0 := congrArg (fun x => byteN x 0) h
              rw [byte_take q 2 (by decide), HC0.out] at h5
              have h6 : c = 114 := h5
              omega
            have hp4 : ¬ q.extract 0 4 = ⟨#[98, 101, 116, 97]⟩ := fun h => by
              have h5 : byteN (q.extract 0 4) 0 = byteN ⟨#[98, 101, 116, 97]⟩ 0 := congrArg (fun x => byteN x 0) h
              rw [byte_take q 4 (by decide), HC0.out] at h5
              have h6 : c = 98 := h5
              omega
            have HV := Lib.hid (end_1 q hqp (by rw [HC0.out, c46]))
            subst c46
            have w1 : 1 ≤ q.size := by omega
            have w1i : (1 : Int) ≤ (q.size : Int) := by omega
            obtain ⟨u, hu⟩ : ∃ u, q.extract 1 q.size = u := ⟨_, rfl⟩
            rw [hu] at hfig HV
            cases hd : digV u with
            | true =>
              rw [hd] at hfig
              have HRI : Hid (mi = (v : Int)) := Lib.hid (by rw [← HMI.out]; exact ((yes_ret s v q (HW.out)).1 (by rw [HV.out, hd])).1)
              have HRE : Hid (me = 0) := Lib.hid (by rw [← HME.out]; exact ((yes_ret s v q (HW.out)).1 (by rw [HV.out, hd])).2)
              clear HA HZ HR HB HMI HME
              clear hp2 hp4 hd
              go_wp2_with (go_at_call 21; with_reducible refine Calls.mono (hfig _) ?_; rintro e w2 ⟨rfl, hw2⟩; replace hw2 := hw2.symm; subst hw2)
              go_ret2
              exact ⟨(retnum HRI.out HRE.out).symm, rfl⟩
            | false =>
              rw [hd] at hfig
              have HF : Hid (endV q = false) := Lib.hid (by rw [HV.out, hd])
              clear hd
              by_cases s2 : q.size ≤ 2
              · skip
                have z2 : decide ((2 : Int) < (q.size : Int)) = false := decide_eq_false (by omega)
                have z2n : decide (2 < q.size) = false := decide_eq_false (by omega)
                have z4 : decide ((4 : Int) < (q.size : Int)) = false := decide_eq_false (by omega)
                have z4n : decide (4 < q.size) = false := decide_eq_false (by omega)
                have HRI : Hid (mi = 0) := Lib.hid (by rw [← HMI.out]; exact ((yes_ret s v q (HW.out)).2 (HF.out)).1)
                have HRE : Hid (me = 6) := Lib.hid (by rw [← HME.out]; exact ((yes_ret s v q (HW.out)).2 (HF.out)).2)
                clear HA HZ HR HB HMI HME
                go_wp2_with (go_at_call 21; with_reducible refine Calls.mono (hfig _) ?_; rintro e w2 ⟨rfl, hw2⟩; replace hw2 := hw2.symm; subst hw2)
                go_ret2
                exact ⟨(retnum HRI.out HRE.out).symm, rfl⟩
              by_cases s4 : q.size ≤ 4
              · skip
                have z2 : decide ((2 : Int) < (q.size : Int)) = true := decide_eq_true (by omega)
                have z2n : decide (2 < q.size) = true := decide_eq_true (by omega)
                have zz2 : 2 ≤ q.size := by omega
                have zz2i : (2 : Int) ≤ (q.size : Int) := by omega
                have z4 : decide ((4 : Int) < (q.size : Int)) = false := decide_eq_false (by omega)
                have z4n : decide (4 < q.size) = false := decide_eq_false (by omega)
                obtain ⟨y2, hy2⟩ : ∃ y, q.extract 0 2 = y := ⟨_, rfl⟩
                have hp22 : y2 ≠ ⟨#[114, 99]⟩ := by rw [← hy2]; exact hp2
                have p2 : (y2.toList == (⟨#[114, 99]⟩ : ByteArray).toList) = false := list_ne hp22
                have p2a : (y2.toList == [114, 99]) = false := list_ne2 hp22
                have HRI : Hid (mi = 0) := Lib.hid (by rw [← HMI.out]; exact ((yes_ret s v q (HW.out)).2 (HF.out)).1)
                have HRE : Hid (me = 6) := Lib.hid (by rw [← HME.out]; exact ((yes_ret s v q (HW.out)).2 (HF.out)).2)
                clear HA HZ HR HB HMI HME
                clear hp2 hp22
                go_wp2_with (go_at_call 21; with_reducible refine Calls.mono (hfig _) ?_; rintro e w2 ⟨rfl, hw2⟩; replace hw2 := hw2.symm; subst hw2)
                go_ret2
                exact ⟨(retnum HRI.out HRE.out).symm, rfl⟩
              · skip
                have z2 : decide ((2 : Int) < (q.size : Int)) = true := decide_eq_true (by omega)
                have z2n : decide (2 < q.size) = true := decide_eq_true (by omega)
                have zz2 : 2 ≤ q.size := by omega
                have zz2i : (2 : Int) ≤ (q.size : Int) := by omega
                have z4 : decide ((4 : Int) < (q.size : Int)) = true := decide_eq_true (by omega)
                have z4n : decide (4 < q.size) = true := decide_eq_true (by omega)
                have zz4 : 4 ≤ q.size := by omega
                have zz4i : (4 : Int) ≤ (q.size : Int) := by omega
                obtain ⟨y2, hy2⟩ : ∃ y, q.extract 0 2 = y := ⟨_, rfl⟩
                have hp22 : y2 ≠ ⟨#[114, 99]⟩ := by rw [← hy2]; exact hp2
                have p2 : (y2.toList == (⟨#[114, 99]⟩ : ByteArray).toList) = false := list_ne hp22
                have p2a : (y2.toList == [114, 99]) = false := list_ne2 hp22
                obtain ⟨y4, hy4⟩ : ∃ y, q.extract 0 4 = y := ⟨_, rfl⟩
                have hp42 : y4 ≠ ⟨#[98, 101, 116, 97]⟩ := by rw [← hy4]; exact hp4
                have p4 : (y4.toList == (⟨#[98, 101, 116, 97]⟩ : ByteArray).toList) = false := list_ne hp42
                have p4a : (y4.toList == [98, 101, 116, 97]) = false := list_ne2 hp42
                have HRI : Hid (mi = 0) := Lib.hid (by rw [← HMI.out]; exact ((yes_ret s v q (HW.out)).2 (HF.out)).1)
                have HRE : Hid (me = 6) := Lib.hid (by rw [← HME.out]; exact ((yes_ret s v q (HW.out)).2 (HF.out)).2)
                clear HA HZ HR HB HMI HME
                clear hp2 hp22 hp4 hp42
                go_wp2_with (go_at_call 21; with_reducible refine Calls.mono (hfig _) ?_; rintro e w2 ⟨rfl, hw2⟩; replace hw2 := hw2.symm; subst hw2)
                go_ret2
                exact ⟨(retnum HRI.out HRE.out).symm, rfl⟩
          have hc46 : ¬ c = 46 := c46
          have e46 : decide ((c : Int) = 46) = false := decide_eq_false (by omega)
          have e46n : decide (c = 46) = false := decide_eq_false (by omega)
          have e46b : ((c : Int) == 46) = false := by rw [beq_eq_false_iff_ne]; omega
          have e46c : ¬ (c : Int) = 46 := by omega
          have hp2 : ¬ q.extract 0 2 = ⟨#[114, 99]⟩ := fun h => by
            have h5 : byteN (q.extract 0 2) 0 = byteN ⟨#[114, 99]⟩ 0 := congrArg (fun x => byteN x 0) h
            rw [byte_take q 2 (by decide), HC0.out] at h5
            have h6 : c = 114 := h5
            omega
          have hp4 : ¬ q.extract 0 4 = ⟨#[98, 101, 116, 97]⟩ := fun h => by
            have h5 : byteN (q.extract 0 4) 0 = byteN ⟨#[98, 101, 116, 97]⟩ 0 := congrArg (fun x => byteN x 0) h
            rw [byte_take q 4 (by decide), HC0.out] at h5
            have h6 : c = 98 := h5
            omega
          have HF : Hid (endV q = false) := Lib.hid (by rw [end_2 q hqp (by rw [HC0.out]; exact c46), if_neg hp2, if_neg hp4])
          have hfig := fun w => reffig_v q w (by omega)
          by_cases s2 : q.size ≤ 2
          · skip
            have z2 : decide ((2 : Int) < (q.size : Int)) = false := decide_eq_false (by omega)
            have z2n : decide (2 < q.size) = false := decide_eq_false (by omega)
            have z4 : decide ((4 : Int) < (q.size : Int)) = false := decide_eq_false (by omega)
            have z4n : decide (4 < q.size) = false := decide_eq_false (by omega)
            have HRI : Hid (mi = 0) := Lib.hid (by rw [← HMI.out]; exact ((yes_ret s v q (HW.out)).2 (HF.out)).1)
            have HRE : Hid (me = 6) := Lib.hid (by rw [← HME.out]; exact ((yes_ret s v q (HW.out)).2 (HF.out)).2)
            clear HA HZ HR HB HMI HME
            go_wp2_with (go_at_call 21; with_reducible refine Calls.mono (hfig _) ?_; rintro e w2 ⟨rfl, hw2⟩; replace hw2 := hw2.symm; subst hw2)
            go_ret2
            exact ⟨(retnum HRI.out HRE.out).symm, rfl⟩
          by_cases s4 : q.size ≤ 4
          · skip
            have z2 : decide ((2 : Int) < (q.size : Int)) = true := decide_eq_true (by omega)
            have z2n : decide (2 < q.size) = true := decide_eq_true (by omega)
            have zz2 : 2 ≤ q.size := by omega
            have zz2i : (2 : Int) ≤ (q.size : Int) := by omega
            have z4 : decide ((4 : Int) < (q.size : Int)) = false := decide_eq_false (by omega)
            have z4n : decide (4 < q.size) = false := decide_eq_false (by omega)
            obtain ⟨y2, hy2⟩ : ∃ y, q.extract 0 2 = y := ⟨_, rfl⟩
            have hp22 : y2 ≠ ⟨#[114, 99]⟩ := by rw [← hy2]; exact hp2
            have p2 : (y2.toList == (⟨#[114, 99]⟩ : ByteArray).toList) = false := list_ne hp22
            have p2a : (y2.toList == [114, 99]) = false := list_ne2 hp22
            have HRI : Hid (mi = 0) := Lib.hid (by rw [← HMI.out]; exact ((yes_ret s v q (HW.out)).2 (HF.out)).1)
            have HRE : Hid (me = 6) := Lib.hid (by rw [← HME.out]; exact ((yes_ret s v q (HW.out)).2 (HF.out)).2)
            clear HA HZ HR HB HMI HME
            clear hp2 hp22
            go_wp2_with (go_at_call 21; with_reducible refine Calls.mono (hfig _) ?_; rintro e w2 ⟨rfl, hw2⟩; replace hw2 := hw2.symm; subst hw2)
            go_ret2
            exact ⟨(retnum HRI.out HRE.out).symm, rfl⟩
          · skip
            have z2 : decide ((2 : Int) < (q.size : Int)) = true := decide_eq_true (by omega)
            have z2n : decide (2 < q.size) = true := decide_eq_true (by omega)
            have zz2 : 2 ≤ q.size := by omega
            have zz2i : (2 : Int) ≤ (q.size : Int) := by omega
            have z4 : decide ((4 : Int) < (q.size : Int)) = true := decide_eq_true (by omega)
            have z4n : decide (4 < q.size) = true := decide_eq_true (by omega)
            have zz4 : 4 ≤ q.size := by omega
            have zz4i : (4 : Int) ≤ (q.size : Int) := by omega
            obtain ⟨y2, hy2⟩ : ∃ y, q.extract 0 2 = y := ⟨_, rfl⟩
            have hp22 : y2 ≠ ⟨#[114, 99]⟩ := by rw [← hy2]; exact hp2
            have p2 : (y2.toList == (⟨#[114, 99]⟩ : ByteArray).toList) = false := list_ne hp22
            have p2a : (y2.toList == [114, 99]) = false := list_ne2 hp22
            obtain ⟨y4, hy4⟩ : ∃ y, q.extract 0 4 = y := ⟨_, rfl⟩
            have hp42 : y4 ≠ ⟨#[98, 101, 116, 97]⟩ := by rw [← hy4]; exact hp4
            have p4 : (y4.toList == (⟨#[98, 101, 116, 97]⟩ : ByteArray).toList) = false := list_ne hp42
            have p4a : (y4.toList == [98, 101, 116, 97]) = false := list_ne2 hp42
            have HRI : Hid (mi = 0) := Lib.hid (by rw [← HMI.out]; exact ((yes_ret s v q (HW.out)).2 (HF.out)).1)
            have HRE : Hid (me = 6) := Lib.hid (by rw [← HME.out]; exact ((yes_ret s v q (HW.out)).2 (HF.out)).2)
            clear HA HZ HR HB HMI HME
            clear hp2 hp22 hp4 hp42
            go_wp2_with (go_at_call 21; with_reducible refine Calls.mono (hfig _) ?_; rintro e w2 ⟨rfl, hw2⟩; replace hw2 := hw2.symm; subst hw2)
            go_ret2
            exact ⟨(retnum HRI.out HRE.out).symm, rfl⟩
      · have hKJ : K = 2 := by omega
        have x1 : decide ((4 : Int) < (s.size : Int)) = false := decide_eq_false (by omega)
        have x1n : decide (4 < s.size) = false := decide_eq_false (by omega)
        have ha0 : 48 ≤ byteN s 2 ∧ byteN s 2 ≤ 57 := HA.out 0 (by omega)
        have ha1 : 48 ≤ byteN s 3 ∧ byteN s 3 ≤ 57 := HA.out 1 (by omega)
        have hv : valN s 2 = 10 * (byteN s 2 - 48) + (byteN s 3 - 48) := by show 10 * (10 * 0 + (byteN s (2 + 0) - 48)) + (byteN s (2 + 1) - 48) = _; simp
        obtain ⟨v, hvv⟩ : ∃ v, valN s 2 = v := ⟨_, rfl⟩
        rw [hvv] at hv ⊢
        clear hvv
        have hb2 := HB.out 2 (by omega)
        have h2s : 2 < s.size := by omega
        have h2si : (2 : Int) < (s.size : Int) := by omega
        obtain ⟨a, ha⟩ : ∃ a, byteN s 2 = a := ⟨_, rfl⟩
        have HAA := Lib.hid ha
        rw [ha] at hb2 hv ha0
        clear ha
        have v1 : decide ((99 : Int) < (v : Int)) = false := decide_eq_false (by omega)
        have v1n : decide (99 < v) = false := decide_eq_false (by omega)
        by_cases a48 : a = 48
        · subst a48
          have HRI : Hid (mi = 0) := Lib.hid (by rw [← HMI.out]; exact (no_ret s (minor_two0 s HP.out (by rw [HK.out]; omega) HAA.out)).1)
          have HRE : Hid (me = 6) := Lib.hid (by rw [← HME.out]; exact (no_ret s (minor_two0 s HP.out (by rw [HK.out]; omega) HAA.out)).2)
          clear HA HZ HR HB HMI HME
          clear hv ha0 ha1
          go_wp2_with fail
          go_ret2
          exact ⟨(retnum HRI.out HRE.out).symm, rfl⟩
        have HW : Hid (minorW s = if endV (s.extract 4 s.size) = true then some v else none) := Lib.hid (by rw [minor_two s HP.out (by rw [HK.out]; omega) (by rw [HAA.out]; exact a48), hv, HAA.out])
        have a48 : decide ((a : Int) = 48) = false := decide_eq_false (by omega)
        have a48n : decide (a = 48) = false := decide_eq_false (by omega)
        have a48b : ((a : Int) == 48) = false := by rw [beq_eq_false_iff_ne]; omega
        have a48c : ¬ (a : Int) = 48 := by omega
        obtain ⟨q, hq⟩ : ∃ q, s.extract 4 s.size = q := ⟨_, rfl⟩
        have hqz1 : q.size + 4 ≤ s.size := by rw [← hq, ByteArray.size_extract]; omega
        have hqz2 : s.size ≤ q.size + 4 := by rw [← hq, ByteArray.size_extract]; omega
        have hsl1 : 4 ≤ s.size := by omega
        have hsl2 : (4 : Int) ≤ (s.size : Int) := by omega
        rw [hq] at HW
        clear hv
        have hq0 : q.size = 0 := by omega
        have hql := empty_list q hq0
        have HRI : Hid (mi = (v : Int)) := Lib.hid (by rw [← HMI.out]; exact ((yes_ret s v q (HW.out)).1 (end_0 q hq0)).1)
        have HRE : Hid (me = 0) := Lib.hid (by rw [← HME.out]; exact ((yes_ret s v q (HW.out)).1 (end_0 q hq0)).2)
        clear HA HZ HR HB HMI HME
        go_wp2_with fail
        go_ret2
        exact ⟨(retnum HRI.out HRE.out).symm, rfl⟩
    · by_cases hend : 5 < s.size
      · skip
        have x1 : decide ((5 : Int) < (s.size : Int)) = true := decide_eq_true (by omega)
        have x1n : decide (5 < s.size) = true := decide_eq_true (by omega)
        have ha0 : 48 ≤ byteN s 2 ∧ byteN s 2 ≤ 57 := HA.out 0 (by omega)
        have ha1 : 48 ≤ byteN s 3 ∧ byteN s 3 ≤ 57 := HA.out 1 (by omega)
        have ha2 : 48 ≤ byteN s 4 ∧ byteN s 4 ≤ 57 := HA.out 2 (by omega)
        have hv : valN s 3 = 10 * (10 * (byteN s 2 - 48) + (byteN s 3 - 48)) + (byteN s 4 - 48) := by show 10 * (10 * (10 * 0 + (byteN s (2 + 0) - 48)) + (byteN s (2 + 1) - 48)) + (byteN s (2 + 2) - 48) = _; simp
        obtain ⟨v, hvv⟩ : ∃ v, valN s 3 = v := ⟨_, rfl⟩
        rw [hvv] at hv ⊢
        clear hvv
        have hb2 := HB.out 2 (by omega)
        have h2s : 2 < s.size := by omega
        have h2si : (2 : Int) < (s.size : Int) := by omega
        obtain ⟨a, ha⟩ : ∃ a, byteN s 2 = a := ⟨_, rfl⟩
        rw [ha] at hb2 hv ha0
        clear ha
        by_cases a48 : a = 48
        · subst a48
          have v1 : decide ((99 : Int) < (v : Int)) = false := decide_eq_false (by omega)
          have v1n : decide (99 < v) = false := decide_eq_false (by omega)
          have HRI : Hid (mi = 0) := Lib.hid (by rw [← HMI.out]; exact (no_ret s (minor_none3 s HP.out (by rw [HK.out]; omega))).1)
          have HRE : Hid (me = 6) := Lib.hid (by rw [← HME.out]; exact (no_ret s (minor_none3 s HP.out (by rw [HK.out]; omega))).2)
          clear HA HZ HR HB HMI HME
          clear hv ha0 ha1 ha2
          go_wp2_with fail
          go_ret2
          exact ⟨(retnum HRI.out HRE.out).symm, rfl⟩
        · skip
          have v1 : decide ((99 : Int) < (v : Int)) = true := decide_eq_true (by omega)
          have v1n : decide (99 < v) = true := decide_eq_true (by omega)
          have HRI : Hid (mi = 0) := Lib.hid (by rw [← HMI.out]; exact (no_ret s (minor_none3 s HP.out (by rw [HK.out]; omega))).1)
          have HRE : Hid (me = 6) := Lib.hid (by rw [← HME.out]; exact (no_ret s (minor_none3 s HP.out (by rw [HK.out]; omega))).2)
          clear HA HZ HR HB HMI HME
          clear hv ha0 ha1 ha2
          go_wp2_with fail
          go_ret2
          exact ⟨(retnum HRI.out HRE.out).symm, rfl⟩
      · skip
        have x1 : decide ((5 : Int) < (s.size : Int)) = false := decide_eq_false (by omega)
        have x1n : decide (5 < s.size) = false := decide_eq_false (by omega)
        have ha0 : 48 ≤ byteN s 2 ∧ byteN s 2 ≤ 57 := HA.out 0 (by omega)
        have ha1 : 48 ≤ byteN s 3 ∧ byteN s 3 ≤ 57 := HA.out 1 (by omega)
        have ha2 : 48 ≤ byteN s 4 ∧ byteN s 4 ≤ 57 := HA.out 2 (by omega)
        have hv : valN s 3 = 10 * (10 * (byteN s 2 - 48) + (byteN s 3 - 48)) + (byteN s 4 - 48) := by show 10 * (10 * (10 * 0 + (byteN s (2 + 0) - 48)) + (byteN s (2 + 1) - 48)) + (byteN s (2 + 2) - 48) = _; simp
        obtain ⟨v, hvv⟩ : ∃ v, valN s 3 = v := ⟨_, rfl⟩
        rw [hvv] at hv ⊢
        clear hvv
        have hb2 := HB.out 2 (by omega)
        have h2s : 2 < s.size := by omega
        have h2si : (2 : Int) < (s.size : Int) := by omega
        obtain ⟨a, ha⟩ : ∃ a, byteN s 2 = a := ⟨_, rfl⟩
        rw [ha] at hb2 hv ha0
        clear ha
        by_cases a48 : a = 48
        · subst a48
          have v1 : decide ((99 : Int) < (v : Int)) = false := decide_eq_false (by omega)
          have v1n : decide (99 < v) = false := decide_eq_false (by omega)
          have HRI : Hid (mi = 0) := Lib.hid (by rw [← HMI.out]; exact (no_ret s (minor_none3 s HP.out (by rw [HK.out]; omega))).1)
          have HRE : Hid (me = 6) := Lib.hid (by rw [← HME.out]; exact (no_ret s (minor_none3 s HP.out (by rw [HK.out]; omega))).2)
          clear HA HZ HR HB HMI HME
          clear hv ha0 ha1 ha2
          go_wp2_with fail
          go_ret2
          exact ⟨(retnum HRI.out HRE.out).symm, rfl⟩
        · skip
          have v1 : decide ((99 : Int) < (v : Int)) = true := decide_eq_true (by omega)
          have v1n : decide (99 < v) = true := decide_eq_true (by omega)
          have HRI : Hid (mi = 0) := Lib.hid (by rw [← HMI.out]; exact (no_ret s (minor_none3 s HP.out (by rw [HK.out]; omega))).1)
          have HRE : Hid (me = 6) := Lib.hid (by rw [← HME.out]; exact (no_ret s (minor_none3 s HP.out (by rw [HK.out]; omega))).2)
          clear HA HZ HR HB HMI HME
          clear hv ha0 ha1 ha2
          go_wp2_with fail
          go_ret2
          exact ⟨(retnum HRI.out HRE.out).symm, rfl⟩
end Go.Proofs.YtlgolagedgllbaaDoor
