import Derived.Test.YtgoaakdopbielaaDoorMd
namespace Go.Proofs.YtgoaakdopbielaaDoor
open Go.RowKit Go.Shelf
set_option linter.unusedSimpArgs false
set_option linter.unusedVariables false
set_option linter.unusedSectionVars false

/-! Layer 9, the document's own: the quotient and the rest of amounts. -/
def bs (l : List UInt8) : ByteArray := ⟨l.toArray⟩
theorem bs_size (l : List UInt8) : (bs l).size = l.length := by simp [bs, ByteArray.size]
theorem bs_list (l : List UInt8) : (bs l).data.toList = l := rfl
theorem bs_app (l m : List UInt8) : bs l ++ bs m = bs (l ++ m) := by
  apply ByteArray.ext
  apply Array.toList_inj.1
  rw [ByteArray.data_append]
  simp [bs]
theorem digB_bs (n : Nat) : digB n = bs (Lib.decDigits n) := rfl
theorem bs_cut (l : List UInt8) (i : Nat) (x : UInt8) (h : l[i]? = some x) : (bs l).extract i (i + 1) = bs [x] := by
  apply ByteArray.ext
  apply Array.toList_inj.1
  have hl := (List.getElem?_eq_some_iff.mp h)
  have h1 : (l.drop i).take 1 = [x] := by
    rw [List.drop_eq_getElem_cons hl.1, hl.2]; rfl
  simp [ByteArray.extract, ByteArray.copySlice, bs, List.extract]
  first | exact h1 | simpa [List.take_drop] using h1
theorem bs_tail (x : UInt8) (t : List UInt8) : (bs (x :: t)).extract 1 (bs (x :: t)).size = bs t := by
  rw [bs_size]
  apply ByteArray.ext
  apply Array.toList_inj.1
  simp [ByteArray.extract, ByteArray.copySlice, bs]
theorem bs_first (x : UInt8) (t : List UInt8) : byteN (bs (x :: t)) 0 = x.toNat := rfl
theorem ten_cut (n : Nat) (h : n < 10) : (⟨#[48, 49, 50, 51, 52, 53, 54, 55, 56, 57]⟩ : ByteArray).extract n (n + 1) = bs [UInt8.ofNat (48 + n)] := by
  refine bs_cut [48, 49, 50, 51, 52, 53, 54, 55, 56, 57] n _ ?_
  have : n = 0 ∨ n = 1 ∨ n = 2 ∨ n = 3 ∨ n = 4 ∨ n = 5 ∨ n = 6 ∨ n = 7 ∨ n = 8 ∨ n = 9 := by omega
  rcases this with rfl | rfl | rfl | rfl | rfl | rfl | rfl | rfl | rfl | rfl <;> rfl
/-- One figure more. -/
theorem dec_more (r d : Nat) (x : UInt8) (hr : 0 < r) (hx : isF x = true) (hd : x.toNat - 48 = d) : digB r ++ bs [x] = digB (10 * r + d) := by
  rw [digB_bs, digB_bs, bs_app]
  congr 1
  have hp : plainD (Lib.decDigits r ++ [x]) := by
    refine ⟨by simp, ?_, ?_⟩
    · rw [List.all_append, (dec_plain r).2.1]; simp [hx]
    · intro h
      exfalso
      refine dec_head r r (Nat.le_refl _) hr ?_
      cases hl : Lib.decDigits r with
      | nil => exact absurd hl (dec_ne r)
      | cons y t => rw [hl] at h; simpa using h
  have := plain_dec _ hp
  rw [undec_snoc, undec_dec, hd] at this
  exact this.symm
theorem dec_one (d : Nat) (x : UInt8) (hx : isF x = true) (hd : x.toNat - 48 = d) : (⟨#[]⟩ : ByteArray) ++ bs [x] = digB d := by
  have h0 : (⟨#[]⟩ : ByteArray) = bs [] := rfl
  rw [h0, bs_app, List.nil_append, digB_bs]
  congr 1
  have hp : plainD [x] := ⟨by simp, by simp [hx], fun h => by simpa using h⟩
  have := plain_dec _ hp
  rw [show undec [x] = x.toNat - 48 by simp [undec], hd] at this
  exact this.symm
theorem div_step {P b d : Nat} (hb : 0 < b) : (10 * P + d) / b = 10 * (P / b) + (10 * (P % b) + d) / b ∧ (10 * P + d) % b = (10 * (P % b) + d) % b := by
  have e : 10 * P + d = (10 * (P % b) + d) + b * (10 * (P / b)) := by
    have h := Nat.mod_add_div P b
    have h2 : b * (10 * (P / b)) = 10 * (b * (P / b)) := by rw [← Nat.mul_assoc, Nat.mul_comm b 10, Nat.mul_assoc]
    omega
  constructor
  · rw [e, Nat.add_mul_div_left _ _ hb]; omega
  · rw [e, Nat.add_mul_mod_self_left]
theorem div_fin {s n b R : Nat} (h : s + n * b = R) (hs : s < b) : R / b = n ∧ R % b = s := by
  have hb : 0 < b := by omega
  rw [← h]
  constructor
  · rw [Nat.add_mul_div_right _ _ hb, Nat.div_eq_of_lt hs]; omega
  · rw [Nat.add_mul_mod_self_right, Nat.mod_eq_of_lt hs]
/-- The quotient so far, and the rest. -/
def divI (a b i : Nat) (Q : List UInt8) (r : Nat) : Prop := Q.length = i ∧ Q.all isF = true ∧ undec Q = undec ((Lib.decDigits a).take i) / b ∧ r = undec ((Lib.decDigits a).take i) % b
theorem divI_step {a b i r : Nat} {Q : List UInt8} {x : UInt8} (hb : 0 < b) (h : divI a b i Q r) (hx : (Lib.decDigits a)[i]? = some x) {n s : Nat} (hs : s + n * b = 10 * r + (x.toNat - 48)) (hsb : s < b) :
    divI a b (i + 1) (Q ++ [UInt8.ofNat (48 + n)]) s ∧ n < 10 := by
  obtain ⟨h1, h2, h3, h4⟩ := h
  have hf : isF x = true := List.all_eq_true.mp (dec_plain a).2.1 x (List.mem_of_getElem? hx)
  have hx10 := (fig_back x hf).2.1
  have hrb : r < b := by rw [h4]; exact Nat.mod_lt _ hb
  have hn : n < 10 := by
    refine Nat.lt_of_not_le fun hge => ?_
    have : 10 * b ≤ n * b := Nat.mul_le_mul_right _ hge
    omega
  have hsn := List.take_add_one (l := Lib.decDigits a) (i := i)
  rw [hx] at hsn
  have hu : undec ((Lib.decDigits a).take (i + 1)) = 10 * undec ((Lib.decDigits a).take i) + (x.toNat - 48) := by
    rw [hsn, show (some x).toList = [x] from rfl, undec_snoc]
  obtain ⟨d1, d2⟩ := div_step (P := undec ((Lib.decDigits a).take i)) (d := x.toNat - 48) hb
  rw [← h4, ← h3] at d1
  rw [← h4] at d2
  obtain ⟨f1, f2⟩ := div_fin hs hsb
  refine ⟨⟨by simp [h1], ?_, ?_, ?_⟩, hn⟩
  · rw [List.all_append, h2]
    simp only [List.all_cons, List.all_nil, Bool.and_true, Bool.true_and]
    unfold isF
    rw [dig_nat hn]
    simp; omega
  · rw [undec_snoc, dig_nat hn, hu, d1, f1]; omega
  · rw [hu, d2, f2]
set_option maxRecDepth 100000 in
set_option maxHeartbeats 3200000 in
theorem rdivide_v (a b : Nat) (w : World) (ha : (digB a).size ≤ 300) (hb : (digB b).size ≤ 300) (h0 : 0 < b) :
    Calls Tryd.prog 57 #[.string (digB a), .string (digB b)] w fun e w' => e = .returned (.tuple #[.string (digB (a / b)), .string (digB (a % b))]) ∧ Below w.heap.size w w' := by
  obtain ⟨n, hn⟩ : ∃ n, (digB a).size = n := ⟨_, rfl⟩
  have hnl : (Lib.decDigits a).length = n := by rw [← hn, digB_size]
  have hn1 := digB_pos a
  have HX : Hid (∀ i, i < n → ∃ x, (Lib.decDigits a)[i]? = some x ∧ isF x = true ∧ x.toNat - 48 < 10 ∧ (digB a).extract i (i + 1) = bs [x]) := Lib.hid (fun i hi => by
    have hx : (Lib.decDigits a)[i]? = some ((Lib.decDigits a)[i]'(by omega)) := List.getElem?_eq_getElem _
    have hf := List.all_eq_true.mp (dec_plain a).2.1 _ (List.mem_of_getElem? hx)
    exact ⟨_, hx, hf, (fig_back _ hf).2.1, bs_cut _ i _ hx⟩)
  have HFIN : Hid (∀ Q r, divI a b n Q r → digB (undec Q) = digB (a / b) ∧ digB r = digB (a % b) ∧ Q ≠ [] ∧ Q.all isF = true) := Lib.hid (fun Q r h => by
    obtain ⟨h1, h2, h3, h4⟩ := h
    rw [← hnl, List.take_length, undec_dec] at h3 h4
    refine ⟨by rw [h3], by rw [h4], ?_, h2⟩
    intro h; rw [h] at h1; simp at h1; omega)
  have HBW := Lib.hid (fun s w => rbelow_nn s b w)
  have HTK := Lib.hid (fun s (h : b ≤ s) (h2 : s < 10 * b) w => rtake_v s b w (by
    have h3 := digB_lt b
    have h4 : s < 10 ^ ((digB b).size + 1) := by rw [Nat.pow_succ]; omega
    have := digB_le h4
    omega) (by omega) h)
  have HSTEP : Hid (∀ i r Q x n s, divI a b i Q r → (Lib.decDigits a)[i]? = some x → s + n * b = 10 * r + (x.toNat - 48) → s < b → divI a b (i + 1) (Q ++ [UInt8.ofNat (48 + n)]) s ∧ n < 10) := Lib.hid (fun i r Q x n s h hx hs hsb => divI_step h0 h hx hs hsb)
  have HLT : Hid (∀ i r Q, divI a b i Q r → r < b) := Lib.hid (fun i r Q h => by rw [h.2.2.2]; exact Nat.mod_lt _ h0)
  have HLEN : Hid (∀ i r Q, divI a b i Q r → i ≤ n → Q.length ≤ 300) := Lib.hid (fun i r Q h hi => by rw [h.1]; omega)
  have HSZ : Hid (∀ r, r < b → (digB r).size ≤ 301) := Lib.hid (fun r hr => by
    have h3 := digB_lt b
    have h4 : r < 10 ^ ((digB b).size + 1) := by rw [Nat.pow_succ]; omega
    have := digB_le h4
    omega)
  have hz := Lib.hid dec_zero_iff
  have hz0 : Hid ((⟨#[48]⟩ : ByteArray) = digB 0) := Lib.hid (by decide +kernel)
  have H0 : Hid (divI a b 0 [] 0) := Lib.hid ⟨rfl, rfl, by simp [undec], by simp [undec, Nat.zero_mod]⟩
  have hn3 : n ≤ 300 := by omega
  generalize digB (a / b) = T at *
  generalize digB (a % b) = T2 at *
  generalize hA : digB a = A at *
  generalize hB : digB b = B at *
  have hni : (A.size : Int) = (n : Int) := by omega
  clear hn hnl hA hB ha hb
  go_enter Tryd.func57, Tryd.ntmps57
  go_wp2_with fail
  go_loopw [6, 7, 8] (fun qv rv iv wr => ∃ (i r : Nat) (Q : List UInt8), iv = .int .i64 i ∧ i ≤ n ∧ qv = .string (bs Q) ∧ rv = .string (digB r) ∧ divI a b i Q r ∧ Below w.heap.size w wr) (fun _ _ iv _ => n - (intOf iv).toNat)
  case atStart => exact ⟨0, 0, [], rfl, by omega, rfl, by rw [← hz0.out], H0.out, Below.refl _ _⟩
  case round =>
    obtain ⟨i, r, Q, rfl, hi, rfl, rfl, hI, hbl⟩ := hrel
    have HI := Lib.hid hI
    have HW := Lib.hid hbl
    clear hI hbl
    by_cases hlt : i < n
    · have hlti : (i : Int) < (n : Int) := by omega
      have i1 : (i : Int) + 1 ≤ (n : Int) := by omega
      have i2 : (i : Int) ≤ (i : Int) + 1 := by omega
      have i4 : ((i : Int) + 1).toNat = i + 1 := by omega
      obtain ⟨x, hx, hxf, hx10, hcut⟩ := HX.out i hlt
      have hrb := HLT.out i r Q HI.out
      have hQl := HLEN.out i r Q HI.out hi
      have hrs := HSZ.out r hrb
      obtain ⟨d, hd⟩ : ∃ d, x.toNat - 48 = d := ⟨_, rfl⟩
      have HSX := Lib.hid (fun m s (hs : s + m * b = 10 * r + d) (hsb : s < b) => HSTEP.out i r Q x m s HI.out hx (by rw [hd]; exact hs) hsb)
      have hzr := hz.out r
      have hQs : (bs Q).size ≤ 300 := by rw [bs_size]; exact hQl
      rw [hd] at hx10
      by_cases hr : r = 0
      · subst hr
        have hcat := dec_one d x hxf hd
        have hs1 : (digB d).size = 1 := by
          have h1 := digB_pos d
          have h2 := digB_le (n := d) (k := 0) (by omega)
          omega
        have hR : ∃ R, R = d ∧ R < 10 * b := ⟨d, rfl, by omega⟩
        obtain ⟨R, hRd, hRb⟩ := hR
        rw [decide_eq_true rfl] at hzr
        have hs1i : ¬ (1 : Int) < ((digB d).size : Int) := by omega
        have hxs : (bs [x]).size = 1 := rfl
        have hc0 : ¬ 9223372036854775807 < 0 + (bs [x]).size := by rw [hxs]; decide
        rw [Nat.mul_zero, Nat.zero_add, ← hRd] at HSX
        rw [← hRd] at hcat hs1 hs1i
        clear hx hxf hd hRd
        generalize bs [x] = X at *
        generalize digB 0 = R0 at *
        generalize hR2 : digB R = RR at *
        have HRR := Lib.hid hR2
        clear hR2
        go_wp2_with fail
        go_loopw [7, 9] (fun rv nv wr2 => ∃ (s m : Nat), nv = .int .i64 m ∧ rv = .string (digB s) ∧ s + m * b = R ∧ m ≤ 10 ∧ Below w.heap.size w wr2) (fun rv nv _ => 20 - (intOf nv).toNat)
        case atStart => exact ⟨R, 0, rfl, by rw [HRR.out], by omega, by decide, HW.out⟩
        case round =>
          obtain ⟨s, m, rfl, rfl, hs, hm, hbl⟩ := hrel
          have HS := Lib.hid hs
          have HW2 := Lib.hid hbl
          clear hbl
          have hbw := fun w => HBW.out s w
          by_cases hsb : s < b
          · obtain ⟨g1, g2⟩ := HSX.out m s HS.out hsb
            have HG := Lib.hid g1
            have hdig := ten_cut m g2
            have m1 : (m : Int) + 1 ≤ 10 := by omega
            have m2 : (m : Int) ≤ (m : Int) + 1 := by omega
            have m4 : ((m : Int) + 1).toNat = m + 1 := by omega
            have happ := bs_app Q [UInt8.ofNat (48 + m)]
            have hxs2 : (bs [UInt8.ofNat (48 + m)]).size = 1 := rfl
            have hc2 : ¬ 9223372036854775807 < (bs Q).size + (bs [UInt8.ofNat (48 + m)]).size := by rw [hxs2]; omega
            rw [decide_eq_true hsb] at hbw
            have HBX := Lib.hid hbw
            clear hbw g1 hs
            generalize Q ++ [UInt8.ofNat (48 + m)] = Q2 at *
            generalize bs [UInt8.ofNat (48 + m)] = D at *
            generalize hS : digB s = S at *
            generalize hQ2 : bs Q2 = QB2 at *
            generalize bs Q = QB at *
            have HSB := Lib.hid hS
            have HQB := Lib.hid hQ2
            clear hS hQ2
            go_wp2_with (go_at_call 39; with_reducible refine Calls.mono (HBX.out _) ?_; rintro e w2 ⟨rfl, hw2⟩; replace hw2 := hw2.symm; subst hw2)
            go_roundw
            case rel => exact ⟨i + 1, s, Q2, by go_num, by omega, by rw [HQB.out], by rw [HSB.out], HG.out, HW2.out⟩
            case measure => simp [intOf]; omega
          · obtain ⟨g1, g2⟩ : ∃ s2, s2 + b = s := ⟨s - b, by omega⟩
            have htk := fun w => HTK.out s (by omega) (by
              have : 0 ≤ m * b := Nat.zero_le _
              omega) w
            rw [show s - b = g1 by omega] at htk
            rw [decide_eq_false hsb] at hbw
            have HBX := Lib.hid hbw
            have HTX := Lib.hid htk
            have HN : Hid (g1 + (m + 1) * b = R) := Lib.hid (by rw [Nat.add_mul]; omega)
            have hm9 : m + 1 ≤ 10 := by
              refine Nat.le_of_not_lt fun hge => ?_
              have : 10 * b ≤ m * b := Nat.mul_le_mul_right _ (by omega)
              omega
            clear hbw htk hs
            generalize digB s = S at *
            generalize hS2 : digB g1 = S2 at *
            have HS2 := Lib.hid hS2
            clear hS2
            go_wp2_with (first
              | (go_at_call 39; with_reducible refine Calls.mono (HBX.out _) ?_; rintro e w2 ⟨rfl, hw2⟩; replace hw2 := hw2.symm; subst hw2)
              | (go_at_call 55; with_reducible refine Calls.mono (HTX.out _) ?_; rintro e w3 ⟨rfl, hb3⟩; have HB3 := Lib.hid (HW2.out.trans (hb3.mono HW2.out.size)); clear hb3))
            go_roundw
            case rel => exact ⟨g1, m + 1, by go_num, by rw [HS2.out], HN.out, hm9, HB3.out⟩
            case measure => simp [intOf]; omega
      · have hcat := dec_more r d x (by omega) hxf hd
        have hR : ∃ R, R = 10 * r + d ∧ R < 10 * b := ⟨10 * r + d, rfl, by omega⟩
        obtain ⟨R, hRd, hRb⟩ := hR
        rw [decide_eq_false hr] at hzr
        have hR10 : 10 ≤ R := by omega
        rw [← hRd] at HSX hcat
        obtain ⟨RR, hR2⟩ : ∃ RR, RR = digB R := ⟨_, rfl⟩
        have h48 : 1 < RR.size ∧ ∃ y, byteN RR 0 = y ∧ y ≠ 48 := by
          rw [hR2]
          constructor
          · refine Nat.lt_of_not_le fun hle => ?_
            have h3 := digB_lt R
            have : 10 ^ (digB R).size ≤ 10 ^ 1 := Nat.pow_le_pow_right (by decide) hle
            omega
          · refine ⟨_, rfl, ?_⟩
            intro h
            refine dec_head R R (Nat.le_refl _) (by omega) ?_
            cases hl : Lib.decDigits R with
            | nil => exact absurd hl (dec_ne R)
            | cons y t =>
              have : y.toNat = 48 := by
                have h2 := h
                unfold byteN at h2
                rw [digB_list, hl] at h2
                exact h2
              rw [List.head?_cons]
              congr 1
              exact UInt8.toNat_inj.mp this
        obtain ⟨h481, y, hy, hy48⟩ := h48
        have hbyte := str_byte RR 0 (by omega)
        rw [hy] at hbyte
        have e1 : ¬ (y : Int) = 48 := by omega
        have e2 : ((y : Int) == 48) = false := by rw [beq_eq_false_iff_ne]; exact e1
        have hs1i : (1 : Int) < (RR.size : Int) := by omega
        have hs1j : (0 : Int) < (RR.size : Int) := by omega
        have hxs : (bs [x]).size = 1 := rfl
        have hc0 : ¬ 9223372036854775807 < (digB r).size + (bs [x]).size := by rw [hxs]; omega
        clear hx hxf hd hRd hy hR10 hr
        generalize bs [x] = X at *
        generalize digB r = R0 at *
        rw [← hR2] at hcat
        have HRR := Lib.hid hR2.symm
        clear hR2
        go_wp2_with fail
        go_loopw [7, 9] (fun rv nv wr2 => ∃ (s m : Nat), nv = .int .i64 m ∧ rv = .string (digB s) ∧ s + m * b = R ∧ m ≤ 10 ∧ Below w.heap.size w wr2) (fun rv nv _ => 20 - (intOf nv).toNat)
        case atStart => exact ⟨R, 0, rfl, by rw [HRR.out], by omega, by decide, HW.out⟩
        case round =>
          obtain ⟨s, m, rfl, rfl, hs, hm, hbl⟩ := hrel
          have HS := Lib.hid hs
          have HW2 := Lib.hid hbl
          clear hbl
          have hbw := fun w => HBW.out s w
          by_cases hsb : s < b
          · obtain ⟨g1, g2⟩ := HSX.out m s HS.out hsb
            have HG := Lib.hid g1
            have hdig := ten_cut m g2
            have m1 : (m : Int) + 1 ≤ 10 := by omega
            have m2 : (m : Int) ≤ (m : Int) + 1 := by omega
            have m4 : ((m : Int) + 1).toNat = m + 1 := by omega
            have happ := bs_app Q [UInt8.ofNat (48 + m)]
            have hxs2 : (bs [UInt8.ofNat (48 + m)]).size = 1 := rfl
            have hc2 : ¬ 9223372036854775807 < (bs Q).size + (bs [UInt8.ofNat (48 + m)]).size := by rw [hxs2]; omega
            rw [decide_eq_true hsb] at hbw
            have HBX := Lib.hid hbw
            clear hbw g1 hs
            generalize Q ++ [UInt8.ofNat (48 + m)] = Q2 at *
            generalize bs [UInt8.ofNat (48 + m)] = D at *
            generalize hS : digB s = S at *
            generalize hQ2 : bs Q2 = QB2 at *
            generalize bs Q = QB at *
            have HSB := Lib.hid hS
            have HQB := Lib.hid hQ2
            clear hS hQ2
            go_wp2_with (go_at_call 39; with_reducible refine Calls.mono (HBX.out _) ?_; rintro e w2 ⟨rfl, hw2⟩; replace hw2 := hw2.symm; subst hw2)
            go_roundw
            case rel => exact ⟨i + 1, s, Q2, by go_num, by omega, by rw [HQB.out], by rw [HSB.out], HG.out, HW2.out⟩
            case measure => simp [intOf]; omega
          · obtain ⟨g1, g2⟩ : ∃ s2, s2 + b = s := ⟨s - b, by omega⟩
            have htk := fun w => HTK.out s (by omega) (by
              have : 0 ≤ m * b := Nat.zero_le _
              omega) w
            rw [show s - b = g1 by omega] at htk
            rw [decide_eq_false hsb] at hbw
            have HBX := Lib.hid hbw
            have HTX := Lib.hid htk
            have HN : Hid (g1 + (m + 1) * b = R) := Lib.hid (by rw [Nat.add_mul]; omega)
            have hm9 : m + 1 ≤ 10 := by
              refine Nat.le_of_not_lt fun hge => ?_
              have : 10 * b ≤ m * b := Nat.mul_le_mul_right _ (by omega)
              omega
            clear hbw htk hs
            generalize digB s = S at *
            generalize hS2 : digB g1 = S2 at *
            have HS2 := Lib.hid hS2
            clear hS2
            go_wp2_with (first
              | (go_at_call 39; with_reducible refine Calls.mono (HBX.out _) ?_; rintro e w2 ⟨rfl, hw2⟩; replace hw2 := hw2.symm; subst hw2)
              | (go_at_call 55; with_reducible refine Calls.mono (HTX.out _) ?_; rintro e w3 ⟨rfl, hb3⟩; have HB3 := Lib.hid (HW2.out.trans (hb3.mono HW2.out.size)); clear hb3))
            go_roundw
            case rel => exact ⟨g1, m + 1, by go_num, by rw [HS2.out], HN.out, hm9, HB3.out⟩
            case measure => simp [intOf]; omega
    · have hie : i = n := by omega
      have hlti : ¬ (i : Int) < (n : Int) := by omega
      have hI := HI.out
      rw [hie] at hI
      obtain ⟨f1, f2, f3, f4⟩ := HFIN.out Q r hI
      rw [f2]
      have HT2 := Lib.hid f1
      have HF := Lib.hid (And.intro f3 f4)
      have hQl := HLEN.out n r Q hI (Nat.le_refl _)
      clear hI f1 f2 f3 f4 HI HSTEP HLT HFIN HX
      have hplain : Hid (∀ q, q ≠ [] → q.all isF = true → (q.head? = some 48 → q = [48]) → bs q = digB (undec q)) := Lib.hid (fun q h1 h2 h3 => by rw [digB_bs, plain_dec q ⟨h1, h2, h3⟩])
      go_wp2_with fail
      go_loopw [6] (fun qv wr2 => ∃ q : List UInt8, qv = .string (bs q) ∧ q ≠ [] ∧ q.all isF = true ∧ undec q = undec Q ∧ q.length ≤ 300 ∧ wr2 = wr) (fun qv _ => match qv with | .string s => s.size | _ => 0)
      case atStart => exact ⟨Q, rfl, HF.out.1, HF.out.2, rfl, hQl, rfl⟩
      case round =>
        obtain ⟨q, rfl, hq1, hq2, hq3, hq4, hwr⟩ := hrel
        generalize wr = WW at *
        subst hwr
        cases q with
        | nil => exact absurd rfl hq1
        | cons x t =>
          rw [List.length_cons] at hq4
          have hsz : ((bs (x :: t)).size : Int) = ((t.length + 1 : Nat) : Int) := by rw [bs_size]; rfl
          have hpl := hplain.out (x :: t) hq1 hq2
          cases t with
          | nil =>
            have hpp : bs [x] = T := by rw [hpl (fun h => by simpa using h), hq3, HT2.out]
            have hs1i : ¬ (1 : Int) < ((bs [x]).size : Int) := by rw [hsz]; decide
            rw [hpp] at hs1i hsz ⊢
            clear hpp hpl hq1 hq2 hq3
            go_wp2_with fail
            go_ret2
            exact ⟨by first | rfl | simp, HW.out⟩
          | cons y t =>
            obtain ⟨P, hP⟩ : ∃ P, P = bs (x :: y :: t) := ⟨_, rfl⟩
            have hPs : P.size = t.length + 2 := by rw [hP, bs_size]; rfl
            have hs1i : (1 : Int) < (P.size : Int) := by omega
            have hs1j : (0 : Int) < (P.size : Int) := by omega
            have hs1k : (1 : Int) ≤ (P.size : Int) := by omega
            have hbyte := str_byte P 0 (by omega)
            have hb0 : byteN P 0 = x.toNat := by rw [hP]; rfl
            rw [hb0] at hbyte
            rw [← hP]
            clear hb0 hsz
            by_cases h48 : x.toNat = 48
            · have htl : P.extract 1 (t.length + 2) = bs (y :: t) := by rw [← hPs, hP]; exact bs_tail x (y :: t)
              rw [h48] at hbyte
              have HN1 : Hid (undec (y :: t) = undec Q) := Lib.hid (by rw [← hq3, undec_cons x, h48, Nat.sub_self, Nat.zero_mul, Nat.zero_add])
              have HN2 : Hid ((y :: t).all isF = true) := Lib.hid (by rw [List.all_cons, Bool.and_eq_true] at hq2; exact hq2.2)
              have HN3 : Hid ((bs (y :: t)).size < P.size) := Lib.hid (by rw [bs_size, hPs]; simp)
              have HN4 : Hid ((y :: t).length ≤ 300) := Lib.hid (by omega)
              clear hpl hq1 hq2 hq3 h48 hP
              generalize hP2 : bs (y :: t) = P2 at *
              have HP2 := Lib.hid hP2
              clear hP2
              go_wp2_with fail
              go_roundw
              case rel => exact ⟨y :: t, by rw [HP2.out], by simp, HN2.out, HN1.out, HN4.out, by first | rfl | trivial⟩
              case measure => exact HN3.out
            · have hpp : P = T := by
                rw [hP, hpl (fun h => by
                  exfalso; apply h48
                  rw [List.head?_cons, Option.some.injEq] at h
                  rw [h]; rfl), hq3, HT2.out]
              generalize x.toNat = c at *
              have e1 : ¬ (c : Int) = 48 := by omega
              have e2 : ((c : Int) == 48) = false := by rw [beq_eq_false_iff_ne]; exact e1
              subst hpp
              clear hpl hq1 hq2 hq3 h48 hP
              go_wp2_with fail
              go_ret2
              exact ⟨by first | rfl | simp, HW.out⟩
end Go.Proofs.YtgoaakdopbielaaDoor
