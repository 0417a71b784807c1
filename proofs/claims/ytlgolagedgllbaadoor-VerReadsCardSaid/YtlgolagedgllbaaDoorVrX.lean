import Derived.Test.YtlgolagedgllbaaDoorVrW
namespace Go.Proofs.YtlgolagedgllbaaDoor
open Go.RowKit Go.Shelf
set_option linter.unusedSimpArgs false
set_option linter.unusedVariables false
set_option linter.unusedSectionVars false

/-! The document's Path. -/
set_option maxRecDepth 100000 in
set_option maxHeartbeats 6400000 in
theorem refpath_v (s : ByteArray) (w : World) (hs : s.size ≤ 100000000) :
    Calls Tryd.prog 8 #[.string s] w fun e w' => e = .returned (.bool (pathF s)) ∧ w' = w := by
  by_cases h0 : s.size = 0
  · have hX : pathF s = false := by
      rw [path_L s (by omega)]
      have : s.data.toList = [] := List.eq_nil_of_length_eq_zero (by simpa using h0)
      rw [this]; rfl
    have d0 : decide ((s.size : Int) = 0) = true := decide_eq_true (by omega)
    have d1 : decide (s.size = 0) = true := decide_eq_true h0
    rw [hX]; clear hX
    go_enter Tryd.func8, Tryd.ntmps8
    go_wp2_with fail
    go_ret
    exact ⟨rfl, rfl⟩
  have d0 : decide ((s.size : Int) = 0) = false := decide_eq_false (by omega)
  have d1 : decide (s.size = 0) = false := decide_eq_false h0
  have g0 : ¬ (s.size : Int) = 0 := by omega
  have G0 : ((s.size : Int) == 0) = false := by rw [beq_eq_false_iff_ne]; omega
  by_cases hl : 200 < s.size
  · have hX : pathF s = false := by unfold pathF; rw [if_pos hl]
    have d2 : decide (200 < (s.size : Int)) = true := decide_eq_true (by omega)
    have d3 : decide (200 < s.size) = true := decide_eq_true hl
    rw [hX]; clear hX
    go_enter Tryd.func8, Tryd.ntmps8
    go_wp2_with fail
    go_ret
    exact ⟨rfl, rfl⟩
  have d2 : decide (200 < (s.size : Int)) = false := decide_eq_false (by omega)
  have d3 : decide (200 < s.size) = false := decide_eq_false hl
  have g1 : ¬ (200 : Int) < (s.size : Int) := by omega
  have hp0 : 0 < s.size := by omega
  have hpI : (0 : Int) < (s.size : Int) := by omega
  have HP := Lib.hid (path_L s (by omega))
  have HS := Lib.hid (fun i h => path_step s i h)
  have HEnd := Lib.hid (path_end s h0)
  have HST : Hid (pathL true s.data.toList = pathL (startB s 0) (s.data.toList.drop 0)) := Lib.hid (by unfold startB; simp)
  have hb0 := str_byte s 0 hp0
  obtain ⟨k, hk⟩ : ∃ k, s.size - 1 = k := ⟨_, rfl⟩
  have hkI : (s.size : Int) - 1 = (k : Int) := by omega
  have hk2 : k < s.size := by omega
  have hk3 : (k : Int) < s.size := by omega
  have hbk := str_byte s k hk2
  rw [hk] at HEnd
  generalize pathF s = X at *
  by_cases c0 : byteN s 0 = 47
  · have HX : Hid (X = false) := Lib.hid (by
      rw [HP.out, HST.out, HS.out 0 hp0, if_pos c0]; unfold startB; simp)
    rw [c0] at hb0
    have d4 : decide (((47 : Nat) : Int) = 47) = true := by decide
    clear HS HEnd HST HP hbk
    go_enter Tryd.func8, Tryd.ntmps8
    go_wp2_with fail
    go_ret
    exact ⟨(congrArg (fun b => Ending.returned (.bool b)) HX.out).symm, rfl⟩
  have HC0 := Lib.hid c0
  obtain ⟨c, hc⟩ : ∃ c, byteN s 0 = c := ⟨_, rfl⟩
  rw [hc] at hb0 c0
  have d4 : decide ((c : Int) = 47) = false := decide_eq_false (by omega)
  have d5 : decide (c = 47) = false := decide_eq_false c0
  have c0i : ¬ (c : Int) = 47 := by omega
  have C0 : ((c : Int) == 47) = false := by rw [beq_eq_false_iff_ne]; omega
  have HCc := Lib.hid hc
  clear hc
  obtain ⟨e, he⟩ : ∃ e, byteN s k = e := ⟨_, rfl⟩
  rw [he] at hbk
  have HCe := Lib.hid he
  clear he
  by_cases ck : e = 47
  · have HLast : Hid (pathL (startB s s.size) (s.data.toList.drop s.size) = false) := Lib.hid (by rw [HEnd.out, HCe.out, ck]; rfl)
    have HX : Hid (X = false) := Lib.hid (by
      have hall : ∀ n i, s.size = i + n → pathL (startB s i) (s.data.toList.drop i) = false := by
        intro n
        induction n with
        | zero => intro i hi; rw [show i = s.size by omega]; exact HLast.out
        | succ n ih =>
          intro i hi
          rw [HS.out i (by omega), ih (i + 1) (by omega)]
          split <;> simp
      rw [HP.out, HST.out]
      exact hall s.size 0 (by omega))
    subst ck
    have d6 : decide (((47 : Nat) : Int) = 47) = true := by decide
    clear HS HEnd HST HP
    go_enter Tryd.func8, Tryd.ntmps8
    go_wp2_with fail
    go_ret
    exact ⟨(congrArg (fun b => Ending.returned (.bool b)) HX.out).symm, rfl⟩
  have d6 : decide ((e : Int) = 47) = false := decide_eq_false (by omega)
  have d7 : decide (e = 47) = false := decide_eq_false ck
  have cki : ¬ (e : Int) = 47 := by omega
  have E0 : ((e : Int) == 47) = false := by rw [beq_eq_false_iff_ne]; omega
  have HE2 : Hid (pathL (startB s s.size) (s.data.toList.drop s.size) = true) := Lib.hid (by rw [HEnd.out, HCe.out, d7]; rfl)
  have HB := Lib.hid (fun i h => str_byte s i h)
  clear HEnd
  go_enter Tryd.func8, Tryd.ntmps8
  go_wp2_with fail
  clear hb0 hbk d4 d5 d6 d7 c0i cki
  go_loopw [3] (fun iv wr => ∃ i : Nat, iv = .int .i64 i ∧ i ≤ s.size ∧ X = pathL (startB s i) (s.data.toList.drop i) ∧ wr = w) (fun iv _ => s.size - (intOf iv).toNat)
  case atStart => exact ⟨0, rfl, by omega, by rw [HP.out, HST.out], rfl⟩
  case round =>
    obtain ⟨i, rfl, hi, hX, rfl⟩ := hrel
    have HX := Lib.hid hX
    clear hX
    by_cases hlt : i < s.size
    · have hlti : (i : Int) < (s.size : Int) := by omega
      have hb := HB.out i hlt
      have HS1 := Lib.hid (HS.out i hlt)
      obtain ⟨q, hq⟩ : ∃ q, byteN s i = q := ⟨_, rfl⟩
      rw [hq] at hb
      have HQ := Lib.hid hq
      clear hq
      by_cases q47 : q = 47
      · subst q47
        have i0 : i ≠ 0 := by intro h0; apply HC0.out; rw [← h0]; exact HQ.out
        obtain ⟨j, rfl⟩ : ∃ j, i = j + 1 := ⟨i - 1, by omega⟩
        have hj : ((j : Int) + 1) - 1 = (j : Int) := by omega
        have hj2 : j < s.size := by omega
        have hj3 : (j : Int) < (s.size : Int) := by omega
        have hbj := HB.out j hj2
        obtain ⟨v, hv⟩ : ∃ v, byteN s j = v := ⟨_, rfl⟩
        rw [hv] at hbj
        have HV := Lib.hid hv
        clear hv
        by_cases v47 : v = 47
        · subst v47
          have HF : Hid (X = false) := Lib.hid (by
            rw [HX.out, HS1.out, if_pos HQ.out]
            have : startB s (j + 1) = true := by unfold startB; simp [HV.out]
            rw [this]; rfl)
          have k1 : decide (((47 : Nat) : Int) = 47) = true := by decide
          clear HS1
          go_wp2_with fail
          go_ret
          exact ⟨(congrArg (fun b => Ending.returned (.bool b)) HF.out).symm, rfl⟩
        · have HF : Hid (X = pathL (startB s (j + 1 + 1)) (s.data.toList.drop (j + 1 + 1))) := Lib.hid (by
            rw [HX.out, HS1.out, if_pos HQ.out]
            have : startB s (j + 1) = false := by unfold startB; simp [HV.out, v47]
            rw [this]; rfl)
          have k1 : decide (((47 : Nat) : Int) = 47) = true := by decide
          have k2 : decide ((v : Int) = 47) = false := decide_eq_false (by omega)
          have k3 : decide (v = 47) = false := decide_eq_false v47
          have k4 : ¬ (v : Int) = 47 := by omega
          have V0 : ((v : Int) == 47) = false := by rw [beq_eq_false_iff_ne]; omega
          clear HS1
          go_wp2_with fail
          go_roundw
          case rel => exact ⟨j + 1 + 1, by go_num, by omega, HF.out, by first | rfl | trivial⟩
          case measure => simp [intOf]; omega
      · have HS2 : Hid (pathL (startB s i) (s.data.toList.drop i) = (inNameV (q : Int) && pathL (startB s (i + 1)) (s.data.toList.drop (i + 1)))) := Lib.hid (by
          rw [HS1.out, if_neg (by rw [HQ.out]; exact q47), HQ.out])
        have HIB := Lib.hid (inB_cases q)
        have m47 : decide ((q : Int) = 47) = false := decide_eq_false (by omega)
        have n47 : decide (q = 47) = false := decide_eq_false q47
        have o47 : ¬ (q : Int) = 47 := by omega
        have b47 : ((q : Int) == 47) = false := by rw [beq_eq_false_iff_ne]; omega
        have p47 : ((q : Int) != 47) = true := by rw [bne_iff_ne]; omega
        clear HS1 HQ
        by_cases q95 : q = 95
        · subst q95
          have z95 : decide (((95 : Nat) : Int) = 95) = true := by decide
          have HF : Hid (X = pathL (startB s (i + 1)) (s.data.toList.drop (i + 1))) := Lib.hid (by rw [HX.out, HS2.out, HIB.out.2 (by omega)]; rfl)
          clear HS2 HIB
          go_wp2_with fail
          go_roundw
          case rel => exact ⟨i + 1, by go_num, by omega, HF.out, by first | rfl | trivial⟩
          case measure => simp [intOf]; omega
        have m95 : decide ((q : Int) = 95) = false := decide_eq_false (by omega)
        have n95 : decide (q = 95) = false := decide_eq_false q95
        have o95 : ¬ (q : Int) = 95 := by omega
        have b95 : ((q : Int) == 95) = false := by rw [beq_eq_false_iff_ne]; omega
        have p95 : ((q : Int) != 95) = true := by rw [bne_iff_ne]; omega
        by_cases q45 : q = 45
        · subst q45
          have z95 : decide (((45 : Nat) : Int) = 95) = false := by decide
          have z45 : decide (((45 : Nat) : Int) = 45) = true := by decide
          have HF : Hid (X = pathL (startB s (i + 1)) (s.data.toList.drop (i + 1))) := Lib.hid (by rw [HX.out, HS2.out, HIB.out.2 (by omega)]; rfl)
          clear HS2 HIB
          go_wp2_with fail
          go_roundw
          case rel => exact ⟨i + 1, by go_num, by omega, HF.out, by first | rfl | trivial⟩
          case measure => simp [intOf]; omega
        have m45 : decide ((q : Int) = 45) = false := decide_eq_false (by omega)
        have n45 : decide (q = 45) = false := decide_eq_false q45
        have o45 : ¬ (q : Int) = 45 := by omega
        have b45 : ((q : Int) == 45) = false := by rw [beq_eq_false_iff_ne]; omega
        have p45 : ((q : Int) != 45) = true := by rw [bne_iff_ne]; omega
        by_cases q46 : q = 46
        · subst q46
          have z95 : decide (((46 : Nat) : Int) = 95) = false := by decide
          have z45 : decide (((46 : Nat) : Int) = 45) = false := by decide
          have z46 : decide (((46 : Nat) : Int) = 46) = true := by decide
          have HF : Hid (X = pathL (startB s (i + 1)) (s.data.toList.drop (i + 1))) := Lib.hid (by rw [HX.out, HS2.out, HIB.out.2 (by omega)]; rfl)
          clear HS2 HIB
          go_wp2_with fail
          go_roundw
          case rel => exact ⟨i + 1, by go_num, by omega, HF.out, by first | rfl | trivial⟩
          case measure => simp [intOf]; omega
        have m46 : decide ((q : Int) = 46) = false := decide_eq_false (by omega)
        have n46 : decide (q = 46) = false := decide_eq_false q46
        have o46 : ¬ (q : Int) = 46 := by omega
        have b46 : ((q : Int) == 46) = false := by rw [beq_eq_false_iff_ne]; omega
        have p46 : ((q : Int) != 46) = true := by rw [bne_iff_ne]; omega
        by_cases r48 : 48 ≤ q ∧ q ≤ 57
        · have a1 : decide ((q : Int) < 48) = false := decide_eq_false (by omega)
          have a2 : decide ((57 : Int) < (q : Int)) = false := decide_eq_false (by omega)
          have a3 : ¬ (q : Int) < 48 := by omega
          have a4 : ¬ (57 : Int) < (q : Int) := by omega
          have a5 : decide (q < 48) = false := decide_eq_false (by omega)
          have a6 : decide (57 < q) = false := decide_eq_false (by omega)
          have HF : Hid (X = pathL (startB s (i + 1)) (s.data.toList.drop (i + 1))) := Lib.hid (by rw [HX.out, HS2.out, HIB.out.2 (by omega)]; rfl)
          clear HS2 HIB
          go_wp2_with fail
          go_roundw
          case rel => exact ⟨i + 1, by go_num, by omega, HF.out, by first | rfl | trivial⟩
          case measure => simp [intOf]; omega
        by_cases t1 : q < 48
        · skip
          have f1 : decide ((q : Int) < 48) = true := decide_eq_true (by omega)
          have f2 : decide (q < 48) = true := decide_eq_true (by omega)
          have f3 : (q : Int) < 48 := by omega
          have l1 : decide ((q : Int) < 97) = true := decide_eq_true (by omega)
          have l2 : decide (q < 97) = true := decide_eq_true (by omega)
          have l3 : (q : Int) < 97 := by omega
          have u1 : decide ((q : Int) < 65) = true := decide_eq_true (by omega)
          have u2 : decide (q < 65) = true := decide_eq_true (by omega)
          have u3 : (q : Int) < 65 := by omega
          have HF : Hid (X = false) := Lib.hid (by
            have : inNameV (q : Int) = false := by
              rw [← Bool.not_eq_true]; intro h
              have := HIB.out.1 h
              omega
            rw [HX.out, HS2.out, this]; rfl)
          clear HS2 HIB
          go_wp2_with fail
          go_ret
          exact ⟨(congrArg (fun b => Ending.returned (.bool b)) HF.out).symm, rfl⟩
        by_cases t2 : q < 65
        · skip
          have f1 : decide ((q : Int) < 48) = false := decide_eq_false (by omega)
          have f2 : decide (q < 48) = false := decide_eq_false (by omega)
          have f3 : ¬ (q : Int) < 48 := by omega
          have f4 : decide ((57 : Int) < (q : Int)) = true := decide_eq_true (by omega)
          have f5 : decide (57 < q) = true := decide_eq_true (by omega)
          have f6 : (57 : Int) < (q : Int) := by omega
          have l1 : decide ((q : Int) < 97) = true := decide_eq_true (by omega)
          have l2 : decide (q < 97) = true := decide_eq_true (by omega)
          have l3 : (q : Int) < 97 := by omega
          have u1 : decide ((q : Int) < 65) = true := decide_eq_true (by omega)
          have u2 : decide (q < 65) = true := decide_eq_true (by omega)
          have u3 : (q : Int) < 65 := by omega
          have HF : Hid (X = false) := Lib.hid (by
            have : inNameV (q : Int) = false := by
              rw [← Bool.not_eq_true]; intro h
              have := HIB.out.1 h
              omega
            rw [HX.out, HS2.out, this]; rfl)
          clear HS2 HIB
          go_wp2_with fail
          go_ret
          exact ⟨(congrArg (fun b => Ending.returned (.bool b)) HF.out).symm, rfl⟩
        by_cases t3 : q ≤ 90
        · skip
          have f1 : decide ((q : Int) < 48) = false := decide_eq_false (by omega)
          have f2 : decide (q < 48) = false := decide_eq_false (by omega)
          have f3 : ¬ (q : Int) < 48 := by omega
          have f4 : decide ((57 : Int) < (q : Int)) = true := decide_eq_true (by omega)
          have f5 : decide (57 < q) = true := decide_eq_true (by omega)
          have f6 : (57 : Int) < (q : Int) := by omega
          have l1 : decide ((q : Int) < 97) = true := decide_eq_true (by omega)
          have l2 : decide (q < 97) = true := decide_eq_true (by omega)
          have l3 : (q : Int) < 97 := by omega
          have u1 : decide ((q : Int) < 65) = false := decide_eq_false (by omega)
          have u2 : decide ((90 : Int) < (q : Int)) = false := decide_eq_false (by omega)
          have u3 : ¬ (q : Int) < 65 := by omega
          have u4 : ¬ (90 : Int) < (q : Int) := by omega
          have u5 : decide (q < 65) = false := decide_eq_false (by omega)
          have u6 : decide (90 < q) = false := decide_eq_false (by omega)
          have HF : Hid (X = pathL (startB s (i + 1)) (s.data.toList.drop (i + 1))) := Lib.hid (by rw [HX.out, HS2.out, HIB.out.2 (by omega)]; rfl)
          clear HS2 HIB
          go_wp2_with fail
          go_roundw
          case rel => exact ⟨i + 1, by go_num, by omega, HF.out, by first | rfl | trivial⟩
          case measure => simp [intOf]; omega
        by_cases t4 : q < 97
        · skip
          have f1 : decide ((q : Int) < 48) = false := decide_eq_false (by omega)
          have f2 : decide (q < 48) = false := decide_eq_false (by omega)
          have f3 : ¬ (q : Int) < 48 := by omega
          have f4 : decide ((57 : Int) < (q : Int)) = true := decide_eq_true (by omega)
          have f5 : decide (57 < q) = true := decide_eq_true (by omega)
          have f6 : (57 : Int) < (q : Int) := by omega
          have l1 : decide ((q : Int) < 97) = true := decide_eq_true (by omega)
          have l2 : decide (q < 97) = true := decide_eq_true (by omega)
          have l3 : (q : Int) < 97 := by omega
          have u1 : decide ((q : Int) < 65) = false := decide_eq_false (by omega)
          have u2 : decide (q < 65) = false := decide_eq_false (by omega)
          have u3 : ¬ (q : Int) < 65 := by omega
          have u4 : decide ((90 : Int) < (q : Int)) = true := decide_eq_true (by omega)
          have u5 : decide (90 < q) = true := decide_eq_true (by omega)
          have u6 : (90 : Int) < (q : Int) := by omega
          have HF : Hid (X = false) := Lib.hid (by
            have : inNameV (q : Int) = false := by
              rw [← Bool.not_eq_true]; intro h
              have := HIB.out.1 h
              omega
            rw [HX.out, HS2.out, this]; rfl)
          clear HS2 HIB
          go_wp2_with fail
          go_ret
          exact ⟨(congrArg (fun b => Ending.returned (.bool b)) HF.out).symm, rfl⟩
        by_cases t5 : q ≤ 122
        · skip
          have f1 : decide ((q : Int) < 48) = false := decide_eq_false (by omega)
          have f2 : decide (q < 48) = false := decide_eq_false (by omega)
          have f3 : ¬ (q : Int) < 48 := by omega
          have f4 : decide ((57 : Int) < (q : Int)) = true := decide_eq_true (by omega)
          have f5 : decide (57 < q) = true := decide_eq_true (by omega)
          have f6 : (57 : Int) < (q : Int) := by omega
          have l1 : decide ((q : Int) < 97) = false := decide_eq_false (by omega)
          have l2 : decide ((122 : Int) < (q : Int)) = false := decide_eq_false (by omega)
          have l3 : ¬ (q : Int) < 97 := by omega
          have l4 : ¬ (122 : Int) < (q : Int) := by omega
          have l5 : decide (q < 97) = false := decide_eq_false (by omega)
          have l6 : decide (122 < q) = false := decide_eq_false (by omega)
          have HF : Hid (X = pathL (startB s (i + 1)) (s.data.toList.drop (i + 1))) := Lib.hid (by rw [HX.out, HS2.out, HIB.out.2 (by omega)]; rfl)
          clear HS2 HIB
          go_wp2_with fail
          go_roundw
          case rel => exact ⟨i + 1, by go_num, by omega, HF.out, by first | rfl | trivial⟩
          case measure => simp [intOf]; omega
        · skip
          have f1 : decide ((q : Int) < 48) = false := decide_eq_false (by omega)
          have f2 : decide (q < 48) = false := decide_eq_false (by omega)
          have f3 : ¬ (q : Int) < 48 := by omega
          have f4 : decide ((57 : Int) < (q : Int)) = true := decide_eq_true (by omega)
          have f5 : decide (57 < q) = true := decide_eq_true (by omega)
          have f6 : (57 : Int) < (q : Int) := by omega
          have l1 : decide ((q : Int) < 97) = false := decide_eq_false (by omega)
          have l2 : decide (q < 97) = false := decide_eq_false (by omega)
          have l3 : ¬ (q : Int) < 97 := by omega
          have l4 : decide ((122 : Int) < (q : Int)) = true := decide_eq_true (by omega)
          have l5 : decide (122 < q) = true := decide_eq_true (by omega)
          have l6 : (122 : Int) < (q : Int) := by omega
          have u1 : decide ((q : Int) < 65) = false := decide_eq_false (by omega)
          have u2 : decide (q < 65) = false := decide_eq_false (by omega)
          have u3 : ¬ (q : Int) < 65 := by omega
          have u4 : decide ((90 : Int) < (q : Int)) = true := decide_eq_true (by omega)
          have u5 : decide (90 < q) = true := decide_eq_true (by omega)
          have u6 : (90 : Int) < (q : Int) := by omega
          have HF : Hid (X = false) := Lib.hid (by
            have : inNameV (q : Int) = false := by
              rw [← Bool.not_eq_true]; intro h
              have := HIB.out.1 h
              omega
            rw [HX.out, HS2.out, this]; rfl)
          clear HS2 HIB
          go_wp2_with fail
          go_ret
          exact ⟨(congrArg (fun b => Ending.returned (.bool b)) HF.out).symm, rfl⟩
    · have hie : i = s.size := by omega
      have HF : Hid (X = true) := Lib.hid (by rw [HX.out, hie]; exact HE2.out)
      have k3 : decide ((i : Int) < (s.size : Int)) = false := decide_eq_false (by omega)
      have k4 : ¬ (i : Int) < (s.size : Int) := by omega
      clear hie
      go_wp2_with fail
      go_ret
      exact ⟨(congrArg (fun b => Ending.returned (.bool b)) HF.out).symm, rfl⟩
end Go.Proofs.YtlgolagedgllbaaDoor
