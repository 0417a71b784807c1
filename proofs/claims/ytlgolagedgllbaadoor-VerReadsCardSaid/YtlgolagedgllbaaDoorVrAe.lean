import Derived.Test.YtlgolagedgllbaaDoorVrAd
namespace Go.Proofs.YtlgolagedgllbaaDoor
open Go.RowKit Go.Shelf
set_option linter.unusedSimpArgs false
set_option linter.unusedVariables false
set_option linter.unusedSectionVars false

/-! The document's Read. -/
def tailR (s : ByteArray) (J : Nat) : List (List (List UInt8)) := if J ≤ s.size then (splitB 10 (s.data.toList.drop J)).map lineR else []
theorem tail_piece (s : ByteArray) (F i : Nat) (h1 : F ≤ i) (h2 : i ≤ s.size) (hn : ∀ k, F ≤ k → k < i → byteN s k ≠ 10) (hb : i < s.size → byteN s i = 10) :
    tailR s F = lineR (s.extract F i).data.toList :: tailR s (i + 1) := by
  have hL : s.data.toList.length = s.size := Array.length_toList
  have hget : ∀ k, k < s.size → s.data.toList[k]? = some (UInt8.ofNat (byteN s k)) := fun k hk => by
    rw [List.getElem?_eq_getElem (by omega), byte_get s k hk]
  have hne : ∀ k, k < i - F → (s.data.toList.drop F)[k]? ≠ some 10 := by
    intro k hk e
    rw [List.getElem?_drop, hget _ (by omega)] at e
    have e2 := congrArg UInt8.toNat (Option.some.inj e)
    have hlt := byteN_lt s (F + k)
    have e3 : (UInt8.ofNat (byteN s (F + k))).toNat = byteN s (F + k) := by rw [UInt8.toNat_ofNat']; omega
    rw [e3] at e2
    exact hn (F + k) (by omega) (by omega) e2
  unfold tailR
  rw [if_pos (by omega), extract_list]
  by_cases hi : i < s.size
  · have hat : (s.data.toList.drop F)[i - F]? = some 10 := by
      rw [List.getElem?_drop, show F + (i - F) = i by omega, hget i hi, hb hi]; rfl
    rw [splitB_at 10 _ (i - F) hat (fun k hk => hne k hk), if_pos (by omega), List.drop_drop, show F + (i - F + 1) = i + 1 by omega]
    rfl
  · have hie : i = s.size := by omega
    rw [splitB_none 10 (s.data.toList.drop F) (fun k => by
      by_cases hk : k < i - F
      · exact hne k hk
      · rw [List.getElem?_drop, List.getElem?_eq_none (by omega)]
        exact fun h => by cases h), if_neg (by omega), List.take_of_length_le (by rw [List.length_drop]; omega)]
    rfl
theorem refW_size : ∀ (l one : List UInt8), ∀ x ∈ refW one l, x.length ≤ one.length + l.length
  | [], one, x, h => by
    rw [refW] at h
    unfold endW at h
    split at h
    · cases h
    · rw [List.mem_singleton.1 h]; simp
  | y :: r, one, x, h => by
    rw [refW] at h
    split at h
    · rcases List.mem_append.1 h with h | h
      · unfold endW at h
        split at h
        · cases h
        · rw [List.mem_singleton.1 h]; simp
      · have := refW_size r [] x h
        simp at this
        simp; omega
    · have := refW_size r _ x h
      simp at this
      simp; omega
theorem note_size : ∀ l : List UInt8, (noteL l).length ≤ l.length
  | [] => Nat.le_refl _
  | x :: r => by
    rw [noteL]
    split
    · simp
    · have := note_size r; simp; omega
theorem line_size (l x : List UInt8) (h : x ∈ lineR l) : x.length ≤ l.length := by
  have := refW_size _ _ x h
  have h2 := note_size l
  simp at this
  omega
theorem own_open {w : World} {base n : Nat} {v : Value} {xs : List Value} (h : w.ownsRow base 9 1 v n xs) : ∃ p c, v = .slice p n c := by
  rcases h.2 with ⟨rfl, rfl⟩ | ⟨g, cap, cur, rfl, _⟩
  · exact ⟨_, _, rfl⟩
  · exact ⟨_, _, rfl⟩
theorem own_two {w : World} {base : Nat} {v : Value} {a b : Value} (h : w.ownsRow base 9 1 v 2 [a, b]) : ∃ g c, v = .slice (some ⟨g, 0, none⟩) 2 c ∧ w.cell? ⟨g, 0, none⟩ = some a ∧ w.cell? ⟨g, 1, none⟩ = some b := by
  rcases h.2 with ⟨_, hx⟩ | ⟨g, cap, cur, rfl, hb, hg, hn, hm, hs, ht⟩
  · cases hx
  · refine ⟨g, cap, rfl, ?_, ?_⟩
    · have := h.cells (g := g) rfl 0 a rfl
      simpa [Addr.add] using this
    · have := h.cells (g := g) rfl 1 b rfl
      simpa [Addr.add] using this
def RdP (t : Option Rst) : Ending := match t with
  | some t => .returned (.tuple #[.string t.path, .int .i64 t.minor, .int .i64 0])
  | none => .returned (.tuple #[.string ⟨#[]⟩, .int .i64 0, .int .i64 7])
theorem rd_none {R : Option Rst} (h : R = none) : Ending.returned (.tuple #[.string ⟨#[]⟩, .int .i64 0, .int .i64 7]) = RdP R := by rw [h]; rfl
theorem rd_some {R : Option Rst} {t : Rst} (h : R = some t) : Ending.returned (.tuple #[.string t.path, .int .i64 t.minor, .int .i64 0]) = RdP R := by rw [h]; rfl
theorem ba_eq (x : List UInt8) (l : List UInt8) (h : x = l) : ((baL x).toList == l) = true := by rw [Lib.toList_data, h]; simp [baL]
theorem ba_ne (x : List UInt8) (l : List UInt8) (h : x ≠ l) : ((baL x).toList == l) = false := by rw [beq_eq_false_iff_ne, Lib.toList_data]; simpa [baL] using h
theorem stopV {P : Prop} (h : P) : P := h
set_option maxRecDepth 100000 in
set_option maxHeartbeats 25600000 in
theorem refread_v (s : ByteArray) (w : World) (hs : s.size ≤ 1000) :
    Calls Tryd.prog 13 #[.string s] w fun e w' => e = RdP (refRd s.data.toList) ∧ Below w.heap.size w w' := by
  have hlong : decide (65536 < (s.size : Int)) = false := decide_eq_false (by omega)
  have hlongn : decide (65536 < s.size) = false := decide_eq_false (by omega)
  obtain ⟨R, hR⟩ : ∃ R, refRd s.data.toList = R := ⟨_, rfl⟩
  rw [hR]
  have HR0 : Hid (R = endR (foldR (tailR s 0) startR)) := Lib.hid (by rw [← hR]; unfold refRd tailR; rw [if_pos (Nat.zero_le _)]; rfl)
  have HB := Lib.hid (fun i h => str_byte s i h)
  have HTP := Lib.hid (fun F i h1 h2 hn hb => tail_piece s F i h1 h2 hn hb)
  clear hR
  go_enter Tryd.func13, Tryd.ntmps13
  go_wp2_with fail
  go_loopw [5, 6, 7, 8, 9] (fun pv mv tv fv iv wr => ∃ (F i : Nat) (t : Rst), pv = .string t.path ∧ mv = .int .i64 t.minor ∧ tv = .bool t.told ∧ fv = .int .i64 F ∧ iv = .int .i64 i ∧ i ≤ s.size + 1 ∧ F ≤ i ∧ (i = s.size + 1 → F = s.size + 1) ∧ (∀ k, F ≤ k → k < i → byteN s k ≠ 10) ∧ R = endR (foldR (tailR s F) t) ∧ Below w.heap.size w wr) (fun _ _ _ _ iv _ => s.size + 1 - (intOf iv).toNat)
  case atStart => exact ⟨0, 0, startR, rfl, rfl, rfl, rfl, rfl, by omega, by omega, by omega, by omega, HR0.out, Below.refl _ _⟩
  case round =>
    obtain ⟨F, i, ⟨pa, mi, td⟩, rfl, rfl, rfl, rfl, rfl, hi, hFi, hFe, hno, hRe, hbr⟩ := hrel
    have HRE := Lib.hid hRe
    have HNO := Lib.hid hno
    have HBR := Lib.hid hbr
    clear hRe hno hbr
    simp only
    by_cases hend : i = s.size + 1
    · have hF := hFe hend
      have hx : decide ((i : Int) ≤ (s.size : Int)) = false := decide_eq_false (by omega)
      have hxn : decide (i ≤ s.size) = false := decide_eq_false (by omega)
      have HE : Hid (R = endR (some ⟨pa, mi, td⟩)) := Lib.hid (by rw [HRE.out, hF]; unfold tailR; rw [if_neg (by omega)]; rfl)
      clear hF hend hFe
      by_cases hz : pa.size = 0
      · have hq := empty_list pa hz
        have HN : Hid (R = none) := Lib.hid (by rw [HE.out]; exact if_pos hz)
        clear hz
        go_wp2_with fail
        go_ret3
        exact ⟨rd_none HN.out, HBR.out⟩
      · have hq := full_list pa hz
        have HN : Hid (R = some ⟨pa, mi, td⟩) := Lib.hid (by rw [HE.out]; exact if_neg hz)
        clear hz
        go_wp2_with fail
        go_ret3
        exact ⟨rd_some HN.out, HBR.out⟩
    have hx : decide ((i : Int) ≤ (s.size : Int)) = true := decide_eq_true (by omega)
    have hxn : decide (i ≤ s.size) = true := decide_eq_true (by omega)
    have his : i ≤ s.size := by omega
    have hisI : (i : Int) ≤ (s.size : Int) := by omega
    have hFi2 : (F : Int) ≤ (i : Int) := by omega
    clear hFe hend
    by_cases hgo : i < s.size ∧ byteN s i ≠ 10
    · obtain ⟨hlt, hne⟩ := hgo
      have hlti : (i : Int) < (s.size : Int) := by omega
      have hltd : decide ((i : Int) < (s.size : Int)) = true := decide_eq_true hlti
      have hb := HB.out i hlt
      have HN2 : Hid (∀ k, F ≤ k → k < i + 1 → byteN s k ≠ 10) := Lib.hid (fun k h1 h2 => by
        by_cases e : k = i
        · rw [e]; exact hne
        · exact HNO.out k h1 (by omega))
      generalize byteN s i = c at *
      have h1 : ((c : Int) == 10) = false := by rw [beq_eq_false_iff_ne]; omega
      have h2 : ((c : Int) != 10) = true := by rw [bne_iff_ne]; omega
      have h3 : decide ((c : Int) = 10) = false := decide_eq_false (by omega)
      have h4 : ¬ (c : Int) = 10 := by omega
      go_wp2_with fail
      go_roundw
      case rel => exact ⟨F, i + 1, ⟨pa, mi, td⟩, rfl, rfl, rfl, rfl, by go_num, by omega, by omega, by omega, HN2.out, HRE.out, HBR.out⟩
      case measure => simp [intOf]; omega
    have hnl : i < s.size → byteN s i = 10 := fun h => by
      by_cases e : byteN s i = 10
      · exact e
      · exact absurd ⟨h, e⟩ hgo
    have HPC := Lib.hid (HTP.out F i hFi his HNO.out hnl)
    obtain ⟨ln, hln⟩ : ∃ ln, s.extract F i = ln := ⟨_, rfl⟩
    have hlz : ln.size ≤ 1000 := by rw [← hln, ByteArray.size_extract]; omega
    rw [hln] at HPC
    have hW := fun w1 => refwords_v ln w1 (by omega)
    obtain ⟨ws, hws⟩ : ∃ ws, lineR ln.data.toList = ws := ⟨_, rfl⟩
    rw [show refW [] (noteL ln.data.toList) = ws from hws] at hW
    rw [hws] at HPC
    have HWZ : Hid (∀ x ∈ ws, x.length ≤ 1000) := Lib.hid (by rw [← hws]; intro x hx; have := line_size _ x hx; have h3 : ln.data.toList.length = ln.size := Array.length_toList; omega)
    clear hws
    have HRE2 : Hid (R = endR (foldR (ws :: tailR s (i + 1)) ⟨pa, mi, td⟩)) := Lib.hid (by rw [HRE.out, HPC.out])
    have HNX : Hid (∀ k, i + 1 ≤ k → k < i + 1 → byteN s k ≠ 10) := Lib.hid (fun k h1 h2 => by omega)
    have hwr := HBR.out.size
    have hway : (i < s.size ∧ byteN s i = 10) ∨ ¬ i < s.size := by
      by_cases h : i < s.size
      · exact .inl ⟨h, hnl h⟩
      · exact .inr h
    clear hnl hgo
    rcases hway with ⟨hlt, h10⟩ | hlt
    · have hlti : (i : Int) < (s.size : Int) := by omega
      have hltd : decide ((i : Int) < (s.size : Int)) = true := decide_eq_true hlti
      have hb := HB.out i hlt
      rw [h10] at hb
      clear h10
      as_aux_lemma =>
        go_wp2_with fail
        go_at_call 27
        with_reducible refine Calls.mono (hW _) ?_
        rintro e w2 ⟨v, rfl, hown, hb2⟩
        have HOW := Lib.hid hown
        have HBW : Hid (Below w.heap.size w w2) := Lib.hid (HBR.out.trans (hb2.mono HBR.out.size))
        clear hown hb2
        obtain ⟨p, cap, hv⟩ := own_open HOW.out
        by_cases hn0 : ws.length = 0
        · have HN : Hid (R = endR (foldR (tailR s (i + 1)) ⟨pa, mi, td⟩)) := Lib.hid (by rw [HRE2.out, foldR, if_pos hn0])
          rw [hn0] at hv
          subst hv
          clear hn0
          go_wp2_with fail
          go_roundw
          case rel => exact ⟨i + 1, i + 1, ⟨pa, mi, td⟩, rfl, rfl, rfl, by go_num, by go_num, by omega, by omega, by omega, HNX.out, HN.out, HBW.out⟩
          case measure => simp [intOf]; omega
        by_cases hn2 : ws.length = 2
        case neg =>
          have HN : Hid (R = none) := Lib.hid (by
            rw [HRE2.out, foldR, if_neg hn0]
            have : stepR ⟨pa, mi, td⟩ ws = none := by
              match ws, hn2 with
              | [], _ => rfl
              | [_], _ => rfl
              | [_, _], h => exact absurd rfl h
              | _ :: _ :: _ :: _, _ => rfl
            rw [this]; rfl)
          subst hv
          generalize ws.length = n at *
          have z1 : ((n : Int) == 0) = false := by rw [beq_eq_false_iff_ne]; omega
          have z2 : decide ((n : Int) = 0) = false := decide_eq_false (by omega)
          have z3 : ((n : Int) == 2) = false := by rw [beq_eq_false_iff_ne]; omega
          have z4 : ((n : Int) != 2) = true := by rw [bne_iff_ne]; omega
          have z5 : decide ((n : Int) = 2) = false := decide_eq_false (by omega)
          go_wp2_with fail
          go_ret3
          exact ⟨rd_none HN.out, HBW.out⟩
        clear hv
        obtain ⟨k, x, rfl⟩ : ∃ k x, ws = [k, x] := by
          match ws, hn2 with
          | [k, x], _ => exact ⟨k, x, rfl⟩
        clear hn0 hn2
        obtain ⟨g, cp, rfl, hc0, hc1⟩ := own_two (show w2.ownsRow _ _ 1 v 2 [.string (baL k), .string (baL x)] from HOW.out)
        have hxz : (baL x).size ≤ 1000 := by
          have := HWZ.out x (by simp)
          have h2 : (baL x).size = x.length := List.size_toArray
          omega
        have hP := fun w1 => refpath_v (baL x) w1 (by omega)
        have hM := fun w1 => refminor_v (baL x) w1 (by omega)
        by_cases k1 : k = modL
        · have q1 := ba_eq k modL k1
          have q1' : ((baL k).toList == [109, 111, 100, 117, 108, 101]) = true := q1
          have HS : Hid (R = endR (match (if pa.size ≠ 0 ∨ pathF (baL x) = false then none else some (⟨baL x, mi, td⟩ : Rst)) with | none => none | some u => foldR (tailR s (i + 1)) u)) := Lib.hid (by
            rw [HRE2.out, foldR, if_neg (by simp)]
            rw [show stepR ⟨pa, mi, td⟩ [k, x] = if pa.size ≠ 0 ∨ pathF (baL x) = false then none else some ⟨baL x, mi, td⟩ from if_pos k1]
            rfl)
          clear k1 HRE2 HPC HRE
          generalize baL k = kb at *
          by_cases hz : pa.size = 0
          · have hq := empty_list pa hz
            have hq2 : (pa.toList != []) = false := by rw [bne, hq]; rfl
            cases hp : pathF (baL x) with
            | false =>
              rw [hp] at hP
              have HN : Hid (R = none) := Lib.hid (by rw [HS.out, hp]; rw [if_pos (.inr rfl)]; rfl)
              clear hp HS
              generalize baL x = xb at *
              go_wp2_with (go_at_call 8; with_reducible refine Calls.mono (hP _) ?_; rintro e wy ⟨rfl, hwy⟩; replace hwy := hwy.symm; subst hwy)
              go_ret3
              exact ⟨rd_none HN.out, HBW.out⟩
            | true =>
              rw [hp] at hP
              have HN : Hid (R = endR (foldR (tailR s (i + 1)) ⟨baL x, mi, td⟩)) := Lib.hid (by rw [HS.out, hp, if_neg (by simp [hz])])
              clear hp HS
              generalize baL x = xb at *
              go_wp2_with (go_at_call 8; with_reducible refine Calls.mono (hP _) ?_; rintro e wy ⟨rfl, hwy⟩; replace hwy := hwy.symm; subst hwy)
              go_roundw
              case rel => exact ⟨i + 1, i + 1, ⟨xb, mi, td⟩, rfl, rfl, rfl, by go_num, by go_num, by omega, by omega, by omega, HNX.out, HN.out, HBW.out⟩
              case measure => simp [intOf]; omega
          · have hq := full_list pa hz
            have hq2 : (pa.toList != []) = true := by rw [bne, hq]; rfl
            have HN : Hid (R = none) := Lib.hid (by rw [HS.out, if_pos (.inl hz)]; rfl)
            clear HS hz
            generalize baL x = xb at *
            go_wp2_with fail
            go_ret3
            exact ⟨rd_none HN.out, HBW.out⟩
        have r1' : ((baL k).toList == [109, 111, 100, 117, 108, 101]) = false := ba_ne k modL k1
        by_cases k2 : k = goL
        · have q1' : ((baL k).toList == [103, 111]) = true := ba_eq k goL k2
          have HS : Hid (R = endR (match (if minorE (baL x) ≠ 0 ∨ td = true then none else some (⟨pa, minorI (baL x), true⟩ : Rst)) with | none => none | some u => foldR (tailR s (i + 1)) u)) := Lib.hid (by
            rw [HRE2.out, foldR, if_neg (by simp)]
            rw [show stepR ⟨pa, mi, td⟩ [k, x] = if minorE (baL x) ≠ 0 ∨ td = true then none else some ⟨pa, minorI (baL x), true⟩ from by show (if k = modL then _ else if k = goL then _ else _) = _; rw [if_neg k1, if_pos k2]]
            rfl)
          clear k1 k2 HRE2 HPC HRE
          generalize baL k = kb at *
          by_cases hz : minorE (baL x) = 0
          · rw [hz] at hM
            cases td with
            | true =>
              have HN : Hid (R = none) := Lib.hid (by rw [HS.out, if_pos (.inr rfl)]; rfl)
              clear HS hz
              generalize minorI (baL x) = nn at *
              generalize baL x = xb at *
              go_wp2_with (go_at_call 6; with_reducible refine Calls.mono (hM _) ?_; rintro e wy ⟨rfl, hwy⟩; replace hwy := hwy.symm; subst hwy)
              go_ret3
              exact ⟨rd_none HN.out, HBW.out⟩
            | false =>
              have HN : Hid (R = endR (foldR (tailR s (i + 1)) ⟨pa, minorI (baL x), true⟩)) := Lib.hid (by rw [HS.out, if_neg (by simp [hz])])
              clear HS hz
              generalize minorI (baL x) = nn at *
              generalize baL x = xb at *
              go_wp2_with (go_at_call 6; with_reducible refine Calls.mono (hM _) ?_; rintro e wy ⟨rfl, hwy⟩; replace hwy := hwy.symm; subst hwy)
              go_roundw
              case rel => exact ⟨i + 1, i + 1, ⟨pa, nn, true⟩, rfl, rfl, rfl, by go_num, by go_num, by omega, by omega, by omega, HNX.out, HN.out, HBW.out⟩
              case measure => simp [intOf]; omega
          · have HN : Hid (R = none) := Lib.hid (by rw [HS.out, if_pos (.inl hz)]; rfl)
            clear HS
            obtain ⟨ee, hee⟩ : ∃ ee, minorE (baL x) = ee := ⟨_, rfl⟩
            rw [hee] at hM hz
            clear hee
            generalize minorI (baL x) = nn at *
            generalize baL x = xb at *
            have e1 : (ee == 0) = false := by rw [beq_eq_false_iff_ne]; exact hz
            have e2 : (ee != 0) = true := by rw [bne_iff_ne]; exact hz
            have e3 : decide (ee = 0) = false := decide_eq_false hz
            go_wp2_with (go_at_call 6; with_reducible refine Calls.mono (hM _) ?_; rintro e wy ⟨rfl, hwy⟩; replace hwy := hwy.symm; subst hwy)
            go_ret3
            exact ⟨rd_none HN.out, HBW.out⟩
        have r2' : ((baL k).toList == [103, 111]) = false := ba_ne k goL k2
        by_cases k3 : k = toolL
        · have q1' : ((baL k).toList == [116, 111, 111, 108, 99, 104, 97, 105, 110]) = true := ba_eq k toolL k3
          have HN : Hid (R = endR (foldR (tailR s (i + 1)) ⟨pa, mi, td⟩)) := Lib.hid (by
            rw [HRE2.out, foldR, if_neg (by simp)]
            rw [show stepR ⟨pa, mi, td⟩ [k, x] = some ⟨pa, mi, td⟩ from by show (if k = modL then _ else if k = goL then _ else if k = toolL then _ else _) = _; rw [if_neg k1, if_neg k2, if_pos k3]])
          clear k1 k2 k3 HRE2 HPC HRE
          generalize baL k = kb at *
          generalize baL x = xb at *
          go_wp2_with fail
          go_roundw
          case rel => exact ⟨i + 1, i + 1, ⟨pa, mi, td⟩, rfl, rfl, rfl, by go_num, by go_num, by omega, by omega, by omega, HNX.out, HN.out, HBW.out⟩
          case measure => simp [intOf]; omega
        have r3' : ((baL k).toList == [116, 111, 111, 108, 99, 104, 97, 105, 110]) = false := ba_ne k toolL k3
        have HN : Hid (R = none) := Lib.hid (by
          rw [HRE2.out, foldR, if_neg (by simp)]
          rw [show stepR ⟨pa, mi, td⟩ [k, x] = none from by show (if k = modL then _ else if k = goL then _ else if k = toolL then _ else _) = _; rw [if_neg k1, if_neg k2, if_neg k3]]
          rfl)
        clear k1 k2 k3 HRE2 HPC HRE
        generalize baL k = kb at *
        generalize baL x = xb at *
        go_wp2_with fail
        go_ret3
        exact ⟨rd_none HN.out, HBW.out⟩
    · have hlti : ¬ (i : Int) < (s.size : Int) := by omega
      have hltd : decide ((i : Int) < (s.size : Int)) = false := decide_eq_false hlti
      as_aux_lemma =>
        go_wp2_with fail
        go_at_call 27
        with_reducible refine Calls.mono (hW _) ?_
        rintro e w2 ⟨v, rfl, hown, hb2⟩
        have HOW := Lib.hid hown
        have HBW : Hid (Below w.heap.size w w2) := Lib.hid (HBR.out.trans (hb2.mono HBR.out.size))
        clear hown hb2
        obtain ⟨p, cap, hv⟩ := own_open HOW.out
        by_cases hn0 : ws.length = 0
        · have HN : Hid (R = endR (foldR (tailR s (i + 1)) ⟨pa, mi, td⟩)) := Lib.hid (by rw [HRE2.out, foldR, if_pos hn0])
          rw [hn0] at hv
          subst hv
          clear hn0
          go_wp2_with fail
          go_roundw
          case rel => exact ⟨i + 1, i + 1, ⟨pa, mi, td⟩, rfl, rfl, rfl, by go_num, by go_num, by omega, by omega, by omega, HNX.out, HN.out, HBW.out⟩
          case measure => simp [intOf]; omega
        by_cases hn2 : ws.length = 2
        case neg =>
          have HN : Hid (R = none) := Lib.hid (by
            rw [HRE2.out, foldR, if_neg hn0]
            have : stepR ⟨pa, mi, td⟩ ws = none := by
              match ws, hn2 with
              | [], _ => rfl
              | [_], _ => rfl
              | [_, _], h => exact absurd rfl h
              | _ :: _ :: _ :: _, _ => rfl
            rw [this]; rfl)
          subst hv
          generalize ws.length = n at *
          have z1 : ((n : Int) == 0) = false := by rw [beq_eq_false_iff_ne]; omega
          have z2 : decide ((n : Int) = 0) = false := decide_eq_false (by omega)
          have z3 : ((n : Int) == 2) = false := by rw [beq_eq_false_iff_ne]; omega
          have z4 : ((n : Int) != 2) = true := by rw [bne_iff_ne]; omega
          have z5 : decide ((n : Int) = 2) = false := decide_eq_false (by omega)
          go_wp2_with fail
          go_ret3
          exact ⟨rd_none HN.out, HBW.out⟩
        clear hv
        obtain ⟨k, x, rfl⟩ : ∃ k x, ws = [k, x] := by
          match ws, hn2 with
          | [k, x], _ => exact ⟨k, x, rfl⟩
        clear hn0 hn2
        obtain ⟨g, cp, rfl, hc0, hc1⟩ := own_two (show w2.ownsRow _ _ 1 v 2 [.string (baL k), .string (baL x)] from HOW.out)
        have hxz : (baL x).size ≤ 1000 := by
          have := HWZ.out x (by simp)
          have h2 : (baL x).size = x.length := List.size_toArray
          omega
        have hP := fun w1 => refpath_v (baL x) w1 (by omega)
        have hM := fun w1 => refminor_v (baL x) w1 (by omega)
        by_cases k1 : k = modL
        · have q1 := ba_eq k modL k1
          have q1' : ((baL k).toList == [109, 111, 100, 117, 108, 101]) = true := q1
          have HS : Hid (R = endR (match (if pa.size ≠ 0 ∨ pathF (baL x) = false then none else some (⟨baL x, mi, td⟩ : Rst)) with | none => none | some u => foldR (tailR s (i + 1)) u)) := Lib.hid (by
            rw [HRE2.out, foldR, if_neg (by simp)]
            rw [show stepR ⟨pa, mi, td⟩ [k, x] = if pa.size ≠ 0 ∨ pathF (baL x) = false then none else some ⟨baL x, mi, td⟩ from if_pos k1]
            rfl)
          clear k1 HRE2 HPC HRE
          generalize baL k = kb at *
          by_cases hz : pa.size = 0
          · have hq := empty_list pa hz
            have hq2 : (pa.toList != []) = false := by rw [bne, hq]; rfl
            cases hp : pathF (baL x) with
            | false =>
              rw [hp] at hP
              have HN : Hid (R = none) := Lib.hid (by rw [HS.out, hp]; rw [if_pos (.inr rfl)]; rfl)
              clear hp HS
              generalize baL x = xb at *
              go_wp2_with (go_at_call 8; with_reducible refine Calls.mono (hP _) ?_; rintro e wy ⟨rfl, hwy⟩; replace hwy := hwy.symm; subst hwy)
              go_ret3
              exact ⟨rd_none HN.out, HBW.out⟩
            | true =>
              rw [hp] at hP
              have HN : Hid (R = endR (foldR (tailR s (i + 1)) ⟨baL x, mi, td⟩)) := Lib.hid (by rw [HS.out, hp, if_neg (by simp [hz])])
              clear hp HS
              generalize baL x = xb at *
              go_wp2_with (go_at_call 8; with_reducible refine Calls.mono (hP _) ?_; rintro e wy ⟨rfl, hwy⟩; replace hwy := hwy.symm; subst hwy)
              go_roundw
              case rel => exact ⟨i + 1, i + 1, ⟨xb, mi, td⟩, rfl, rfl, rfl, by go_num, by go_num, by omega, by omega, by omega, HNX.out, HN.out, HBW.out⟩
              case measure => simp [intOf]; omega
          · have hq := full_list pa hz
            have hq2 : (pa.toList != []) = true := by rw [bne, hq]; rfl
            have HN : Hid (R = none) := Lib.hid (by rw [HS.out, if_pos (.inl hz)]; rfl)
            clear HS hz
            generalize baL x = xb at *
            go_wp2_with fail
            go_ret3
            exact ⟨rd_none HN.out, HBW.out⟩
        have r1' : ((baL k).toList == [109, 111, 100, 117, 108, 101]) = false := ba_ne k modL k1
        by_cases k2 : k = goL
        · have q1' : ((baL k).toList == [103, 111]) = true := ba_eq k goL k2
          have HS : Hid (R = endR (match (if minorE (baL x) ≠ 0 ∨ td = true then none else some (⟨pa, minorI (baL x), true⟩ : Rst)) with | none => none | some u => foldR (tailR s (i + 1)) u)) := Lib.hid (by
            rw [HRE2.out, foldR, if_neg (by simp)]
            rw [show stepR ⟨pa, mi, td⟩ [k, x] = if minorE (baL x) ≠ 0 ∨ td = true then none else some ⟨pa, minorI (baL x), true⟩ from by show (if k = modL then _ else if k = goL then _ else _) = _; rw [if_neg k1, if_pos k2]]
            rfl)
          clear k1 k2 HRE2 HPC HRE
          generalize baL k = kb at *
          by_cases hz : minorE (baL x) = 0
          · rw [hz] at hM
            cases td with
            | true =>
              have HN : Hid (R = none) := Lib.hid (by rw [HS.out, if_pos (.inr rfl)]; rfl)
              clear HS hz
              generalize minorI (baL x) = nn at *
              generalize baL x = xb at *
              go_wp2_with (go_at_call 6; with_reducible refine Calls.mono (hM _) ?_; rintro e wy ⟨rfl, hwy⟩; replace hwy := hwy.symm; subst hwy)
              go_ret3
              exact ⟨rd_none HN.out, HBW.out⟩
            | false =>
              have HN : Hid (R = endR (foldR (tailR s (i + 1)) ⟨pa, minorI (baL x), true⟩)) := Lib.hid (by rw [HS.out, if_neg (by simp [hz])])
              clear HS hz
              generalize minorI (baL x) = nn at *
              generalize baL x = xb at *
              go_wp2_with (go_at_call 6; with_reducible refine Calls.mono (hM _) ?_; rintro e wy ⟨rfl, hwy⟩; replace hwy := hwy.symm; subst hwy)
              go_roundw
              case rel => exact ⟨i + 1, i + 1, ⟨pa, nn, true⟩, rfl, rfl, rfl, by go_num, by go_num, by omega, by omega, by omega, HNX.out, HN.out, HBW.out⟩
              case measure => simp [intOf]; omega
          · have HN : Hid (R = none) := Lib.hid (by rw [HS.out, if_pos (.inl hz)]; rfl)
            clear HS
            obtain ⟨ee, hee⟩ : ∃ ee, minorE (baL x) = ee := ⟨_, rfl⟩
            rw [hee] at hM hz
            clear hee
            generalize minorI (baL x) = nn at *
            generalize baL x = xb at *
            have e1 : (ee == 0) = false := by rw [beq_eq_false_iff_ne]; exact hz
            have e2 : (ee != 0) = true := by rw [bne_iff_ne]; exact hz
            have e3 : decide (ee = 0) = false := decide_eq_false hz
            go_wp2_with (go_at_call 6; with_reducible refine Calls.mono (hM _) ?_; rintro e wy ⟨rfl, hwy⟩; replace hwy := hwy.symm; subst hwy)
            go_ret3
            exact ⟨rd_none HN.out, HBW.out⟩
        have r2' : ((baL k).toList == [103, 111]) = false := ba_ne k goL k2
        by_cases k3 : k = toolL
        · have q1' : ((baL k).toList == [116, 111, 111, 108, 99, 104, 97, 105, 110]) = true := ba_eq k toolL k3
          have HN : Hid (R = endR (foldR (tailR s (i + 1)) ⟨pa, mi, td⟩)) := Lib.hid (by
            rw [HRE2.out, foldR, if_neg (by simp)]
            rw [show stepR ⟨pa, mi, td⟩ [k, x] = some ⟨pa, mi, td⟩ from by show (if k = modL then _ else if k = goL then _ else if k = toolL then _ else _) = _; rw [if_neg k1, if_neg k2, if_pos k3]])
          clear k1 k2 k3 HRE2 HPC HRE
          generalize baL k = kb at *
          generalize baL x = xb at *
          go_wp2_with fail
          go_roundw
          case rel => exact ⟨i + 1, i + 1, ⟨pa, mi, td⟩, rfl, rfl, rfl, by go_num, by go_num, by omega, by omega, by omega, HNX.out, HN.out, HBW.out⟩
          case measure => simp [intOf]; omega
        have r3' : ((baL k).toList == [116, 111, 111, 108, 99, 104, 97, 105, 110]) = false := ba_ne k toolL k3
        have HN : Hid (R = none) := Lib.hid (by
          rw [HRE2.out, foldR, if_neg (by simp)]
          rw [show stepR ⟨pa, mi, td⟩ [k, x] = none from by show (if k = modL then _ else if k = goL then _ else if k = toolL then _ else _) = _; rw [if_neg k1, if_neg k2, if_neg k3]]
          rfl)
        clear k1 k2 k3 HRE2 HPC HRE
        generalize baL k = kb at *
        generalize baL x = xb at *
        go_wp2_with fail
        go_ret3
        exact ⟨rd_none HN.out, HBW.out⟩
end Go.Proofs.YtlgolagedgllbaaDoor
