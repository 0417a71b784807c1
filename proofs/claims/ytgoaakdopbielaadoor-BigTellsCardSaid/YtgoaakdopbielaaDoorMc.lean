import Derived.Test.YtgoaakdopbielaaDoorBgZg
import Derived.Deep.OwnRows
import Derived.OwnWalk
import Derived.Deep.AppendLies
namespace Go.Proofs.YtgoaakdopbielaaDoor
open Go.RowKit Go.Shelf
set_option linter.unusedSimpArgs false
set_option linter.unusedVariables false
set_option linter.unusedSectionVars false

/-! Layer 9, the document's own: a figure of a place, which amount is below. -/
theorem rat_past (s : ByteArray) (i : Nat) (w : World) (h : s.size ≤ i) : Calls Tryd.prog 75 #[.string s, .int .i64 i] w fun e w' => e = .returned (.int .i64 0) ∧ w' = w := by
  have i1 : (s.size : Int) ≤ (i : Int) := by omega
  go_enter Tryd.func75, Tryd.ntmps75
  go_wp2_with fail
  go_ret
  exact ⟨by first | rfl | simp, rfl⟩
set_option maxHeartbeats 800000 in
theorem rat_in (s : ByteArray) (i j : Nat) (w : World) (h : i + j + 1 = s.size) (hs : s.size ≤ 1000) (hf : 48 ≤ byteN s j) : Calls Tryd.prog 75 #[.string s, .int .i64 i] w fun e w' => e = .returned (.int .i64 ((byteN s j - 48 : Nat) : Int)) ∧ w' = w := by
  have j1 : j < s.size := by omega
  have hb := str_byte s j j1
  have hlt := byteN_lt s j
  obtain ⟨n, hn⟩ : ∃ n, s.size = n := ⟨_, rfl⟩
  have n1 : ¬ (s.size : Int) ≤ (i : Int) := by omega
  have n2 : (i : Int) < (s.size : Int) := by omega
  have q0 : (s.size : Int) - 1 - (i : Int) = (j : Int) := by omega
  have q1 : IntKind.i64.wrap ((s.size : Int) - 1) = (s.size : Int) - 1 := IntWalk.i64_in _ (by omega)
  have q2 : IntKind.i64.wrap (j : Int) = (j : Int) := IntWalk.i64_in _ (by omega)
  have q3 : IntKind.i64.wrap (byteN s j : Int) = (byteN s j : Int) := IntWalk.i64_in _ (by omega)
  have q4 : (byteN s j : Int) - 48 = ((byteN s j - 48 : Nat) : Int) := by omega
  have q5 : IntKind.i64.wrap ((byteN s j - 48 : Nat) : Int) = ((byteN s j - 48 : Nat) : Int) := IntWalk.i64_in _ (by omega)
  have j2 : (j : Int) < (s.size : Int) := by omega
  clear hn h
  generalize byteN s j = c at *
  go_enter Tryd.func75, Tryd.ntmps75
  go_wp2_with fail
  go_ret
  exact ⟨by first | rfl | simp, rfl⟩
/-- Is an amount below another one, by its text? -/
def belowB (l m : List UInt8) : Bool := if l.length ≠ m.length then decide (l.length < m.length) else Op.bytesLess l m
set_option maxHeartbeats 800000 in
theorem rbelow_v (s t : ByteArray) (w : World) : Calls Tryd.prog 39 #[.string s, .string t] w fun e w' => e = .returned (.bool (belowB s.data.toList t.data.toList)) ∧ w' = w := by
  have h1 : s.data.toList.length = s.size := by simp
  have h2 : t.data.toList.length = t.size := by simp
  unfold belowB
  rw [h1, h2]
  by_cases h : s.size = t.size
  · rw [if_neg (by simpa using h), ← Lib.toList_data, ← Lib.toList_data]
    have i1 : (s.size : Int) = (t.size : Int) := by omega
    clear h h1 h2
    go_enter Tryd.func39, Tryd.ntmps39
    go_wp2_with fail
    go_ret
    exact ⟨by first | rfl | simp, rfl⟩
  · rw [if_pos h]
    have i1 : ¬ (s.size : Int) = (t.size : Int) := by omega
    have i2 : ((s.size : Int) == (t.size : Int)) = false := by rw [beq_eq_false_iff_ne]; exact i1
    have hd : decide ((s.size : Int) < (t.size : Int)) = decide (s.size < t.size) := by rw [decide_eq_decide]; omega
    have HD := Lib.hid hd
    clear h h1 h2 hd
    go_enter Tryd.func39, Tryd.ntmps39
    go_wp2_with fail
    go_ret
    exact ⟨by first | rfl | (rw [← HD.out]; rfl) | (simp [HD.out]), rfl⟩
theorem undec_ge2 (l : List UInt8) (h : plainD l) (h2 : 2 ≤ l.length) : 10 ^ (l.length - 1) ≤ undec l := by
  obtain ⟨hne, hf, hz⟩ := h
  cases l with
  | nil => exact absurd rfl hne
  | cons x r =>
    rw [undec_cons, List.length_cons, Nat.add_sub_cancel]
    rw [List.length_cons] at h2
    rw [List.all_cons, Bool.and_eq_true] at hf
    have hx := hf.1
    unfold isF at hx
    simp only [Bool.and_eq_true, decide_eq_true_eq] at hx
    have hx0 : x.toNat ≠ 48 := by
      intro hh
      have hx48 : x = 48 := UInt8.toNat_inj.mp hh
      have := hz (by rw [hx48]; rfl)
      rw [List.cons.injEq] at this
      rw [this.2] at h2
      simp at h2
    have : 1 * 10 ^ r.length ≤ (x.toNat - 48) * 10 ^ r.length := Nat.mul_le_mul_right _ (by omega)
    omega
theorem undec_len {l m : List UInt8} (hl : plainD l) (hm : plainD m) (h : l.length < m.length) : undec l < undec m := by
  have h1 := undec_lt l hl.2.1
  have hl1 : 1 ≤ l.length := List.length_pos_iff.mpr hl.1
  have h2 := undec_ge2 m hm (by omega)
  have h3 : 10 ^ l.length ≤ 10 ^ (m.length - 1) := Nat.pow_le_pow_right (by decide) (by omega)
  omega
theorem belowB_iff (l m : List UInt8) (hl : plainD l) (hm : plainD m) : belowB l m = true ↔ undec l < undec m := by
  unfold belowB
  by_cases h : l.length = m.length
  · rw [if_neg (by simpa using h)]
    have hL := lex_undec l m h hl.2.1 hm.2.1
    rcases lex_less l m with ⟨h1, h2⟩ | ⟨h1, _, h2⟩ | ⟨h1, _, h2⟩
    · rw [h1]; rw [h2] at hL; exact ⟨fun _ => hL.1.1 (by decide), fun _ => rfl⟩
    · rw [h1]; rw [h2] at hL
      refine ⟨fun hh => (by cases hh), fun hh => ?_⟩
      have := hL.2.1.1 rfl; omega
    · rw [h1]; rw [h2] at hL
      refine ⟨fun hh => (by cases hh), fun hh => ?_⟩
      have := hL.2.2.1 (by decide); omega
  · rw [if_pos h, decide_eq_true_iff]
    constructor
    · exact undec_len hl hm
    · intro hh
      refine Nat.lt_of_not_le fun hge => ?_
      have := undec_len hm hl (by omega)
      omega
end Go.Proofs.YtgoaakdopbielaaDoor
namespace Go.Proofs.YtgoaakdopbielaaDoor
open Go.RowKit
set_option linter.unusedSimpArgs false
set_option linter.unusedVariables false
set_option linter.unusedSectionVars false

/-! Layer 9: the document's Plain. -/
theorem size_list (s : ByteArray) (h : 1 < s.size) : (s.toList == [48]) = false := by
  rw [beq_eq_false_iff_ne]
  intro he
  rw [Lib.toList_data] at he
  have := congrArg List.length he
  simp at this; omega
theorem list_one (s : ByteArray) (h : s.size = 1) (h0 : byteN s 0 = 48) : (s.toList == [48]) = true := by
  rw [beq_iff_eq, Lib.toList_data]
  have hL : s.data.toList.length = 1 := by simpa using h
  match hs : s.data.toList, hL with
  | [x], _ =>
    simp only [byteN, hs, List.getD_cons_zero] at h0
    simp only [List.cons.injEq, and_true]
    apply UInt8.toNat_inj.1
    simpa using h0
def allD (s : ByteArray) : Nat → Nat → Bool
  | 0, _ => true
  | f + 1, i => if i < s.size then (if 48 ≤ byteN s i ∧ byteN s i ≤ 57 then allD s f (i + 1) else false) else true
theorem plainG_allD (s : ByteArray) : ∀ (f i : Nat), plainG s f i = allD s f i
  | 0, _ => rfl
  | f + 1, i => by
    unfold plainG allD
    by_cases hi : i < s.size
    · rw [if_pos hi, if_pos hi]
      by_cases hc : byteN s i < 128
      · rw [bz_ascii s i hi hc]
        simp only
        rw [plainG_allD s f]
      · have hr := bz_byte s i hi
        have hr2 : 128 ≤ (Utf8.decode s i).1 := by rcases hr with ⟨_, _, h⟩ | ⟨h, _⟩ <;> omega
        rw [if_neg (by omega), if_neg (by omega)]
    · rw [if_neg hi, if_neg hi]

set_option maxHeartbeats 3200000 in
theorem refPlain_in (s : ByteArray) (w : World) (h0 : 0 < s.size) (h2 : s.size ≤ 200) (h3 : ¬ (1 < s.size ∧ byteN s 0 = 48)) :
    Calls Tryd.prog 60 #[.string s] w fun e w' => e = .returned (.bool (allD s (s.size + 1) 0)) ∧ w' = w := by
  have hz : ((s.size : Int) == 0) = false := by rw [beq_eq_false_iff_ne]; omega
  have hd2 : decide ((200 : Int) < (s.size : Int)) = false := by simp; omega
  have hx0 := str_byte s 0 h0
  have body : ∀ (b1 b2 : Bool), decide ((1 : Int) < (s.size : Int)) = b1 → ((s[0].toNat : Int) == 48) = b2 → (b1 && b2) = false →
      Calls Tryd.prog 60 #[.string s] w fun e w' => e = .returned (.bool (allD s (s.size + 1) 0)) ∧ w' = w := by
    intro b1 b2 e1 e2 e3
    clear h3 hx0
    generalize hX : allD s (s.size + 1) 0 = X
    have HX := Lib.hid hX
    clear hX
    cases b1 <;> cases b2 <;> simp only [Bool.and_self, Bool.and_false, Bool.and_true, Bool.true_and, Bool.false_and, reduceCtorEq] at e3
    all_goals
      go_enter Tryd.func60, Tryd.ntmps60
      go_wp2_with fail
      go_loopw [3] (fun iv wr => ∃ (f i : Nat), iv = .int .i64 i ∧ i ≤ s.size ∧ s.size < f + i ∧ X = allD s f i ∧ wr = w) (fun iv _ => s.size - (intOf iv).toNat)
      case atStart => exact ⟨s.size + 1, 0, rfl, by omega, by omega, HX.out.symm, rfl⟩
      case round =>
        obtain ⟨f, i, rfl, hi, hf, he, rfl⟩ := hrel
        obtain ⟨f, rfl⟩ : ∃ g, f = g + 1 := ⟨f - 1, by omega⟩
        have HE := Lib.hid he
        clear he HX e1 e2
        by_cases hlt : i < s.size
        · have hb := str_byte s i hlt
          have hst : allD s (f + 1) i = (if 48 ≤ byteN s i ∧ byteN s i ≤ 57 then allD s f (i + 1) else false) := by rw [allD, if_pos hlt]
          generalize byteN s i = c at *
          by_cases c1 : 48 ≤ c
          · by_cases c2 : c ≤ 57
            · have HN : Hid (X = allD s f (i + 1)) := Lib.hid (by rw [HE.out, hst, if_pos ⟨c1, c2⟩])
              have k1 : decide ((c : Int) < 48) = false := by simp; omega
              have k2 : decide ((57 : Int) < (c : Int)) = false := by simp; omega
              clear hst
              go_wp2_with fail
              go_roundw
              case rel => exact ⟨f, i + 1, by go_num, by omega, by omega, HN.out, by first | rfl | trivial⟩
              case measure => simp [intOf]; omega
            · have HN : Hid (X = false) := Lib.hid (by rw [HE.out, hst, if_neg (fun h => c2 h.2)])
              have k1 : decide ((c : Int) < 48) = false := by simp; omega
              have k2 : decide ((57 : Int) < (c : Int)) = true := by simp; omega
              clear hst
              go_wp2_with fail
              go_ret
              exact ⟨by rw [HN.out]; rfl, rfl⟩
          · have HN : Hid (X = false) := Lib.hid (by rw [HE.out, hst, if_neg (fun h => c1 h.1)])
            have k1 : decide ((c : Int) < 48) = true := by simp; omega
            clear hst
            go_wp2_with fail
            go_ret
            exact ⟨by rw [HN.out]; rfl, rfl⟩
        · have HN : Hid (X = true) := Lib.hid (by rw [HE.out, allD, if_neg hlt])
          go_wp2_with fail
          go_ret
          exact ⟨by rw [HN.out]; rfl, rfl⟩
  refine body _ _ rfl rfl ?_
  rw [hx0]
  simp only [Bool.and_eq_false_iff, decide_eq_false_iff_not, beq_eq_false_iff_ne]
  omega

set_option maxHeartbeats 1600000 in
theorem refPlain_any (s : ByteArray) (w : World) (hs : s.size ≤ 4611686018427387904) :
    Calls Tryd.prog 60 #[.string s] w fun e w' => e = .returned (.bool (plainF s)) ∧ w' = w := by
  by_cases hz : s.size = 0
  · have hF : plainF s = false := by unfold plainF; rw [if_pos (.inl hz)]
    rw [hF]
    have hz2 : ((s.size : Int) == 0) = true := by rw [hz]; rfl
    clear hF
    go_enter Tryd.func60, Tryd.ntmps60
    go_wp2_with fail
    go_ret
    exact ⟨rfl, rfl⟩
  have hz2 : ((s.size : Int) == 0) = false := by rw [beq_eq_false_iff_ne]; omega
  by_cases h2 : 200 < s.size
  · have hF : plainF s = false := by unfold plainF; rw [if_pos (.inr (.inl h2))]
    rw [hF]
    have hd2 : decide ((200 : Int) < (s.size : Int)) = true := by simp; omega
    clear hF
    go_enter Tryd.func60, Tryd.ntmps60
    go_wp2_with fail
    go_ret
    exact ⟨rfl, rfl⟩
  by_cases h3 : 1 < s.size ∧ byteN s 0 = 48
  · have hF : plainF s = false := by
      unfold plainF
      rw [if_pos]
      refine .inr (.inr ⟨h3.2, ?_⟩)
      have := size_list s h3.1
      simpa using this
    rw [hF]
    have hd2 : decide ((200 : Int) < (s.size : Int)) = false := by simp; omega
    have hd1 : decide ((1 : Int) < (s.size : Int)) = true := by simp; omega
    have hx0 := str_byte s 0 (by omega)
    rw [h3.2] at hx0
    have hl0 : (0 : Int) < s.size := by omega
    have hl1 : 0 < s.size := by omega
    clear hF
    go_enter Tryd.func60, Tryd.ntmps60
    go_wp2_with fail
    go_ret
    exact ⟨rfl, rfl⟩
  · have hF : plainF s = allD s (s.size + 1) 0 := by
      unfold plainF
      rw [if_neg, plainG_allD]
      rintro (h | h | ⟨h, h'⟩)
      · exact hz h
      · exact h2 h
      · have h1 : s.size = 1 := by omega
        have := list_one s h1 h
        exact h' (by simpa using this)
    rw [hF]
    exact refPlain_in s w (by omega) (by omega) h3
end Go.Proofs.YtgoaakdopbielaaDoor
namespace Go.Proofs.YtgoaakdopbielaaDoor
open Go.RowKit Go.Shelf
set_option linter.unusedSimpArgs false
set_option linter.unusedVariables false
set_option linter.unusedSectionVars false

/-! Layer 9, the document's own: a number's figures. -/
/-- Is it a number, wide or not? -/
def numB (s : ByteArray) : Bool := plainF (amtB s) && (decide ((amtB s).size ≤ 160) && !(signL s.data.toList && ((amtB s).toList == [48])))
theorem amt_neg (s : ByteArray) (h0 : 0 < s.size) (h45 : byteN s 0 = 45) : s.extract 1 s.size = amtB s ∧ signL s.data.toList = true := by
  rcases amt_cases s.data.toList with ⟨r, hr, h, hs⟩ | ⟨hh, h, _⟩
  · refine ⟨?_, hs⟩
    apply ByteArray.ext
    apply Array.toList_inj.1
    unfold amtB
    rw [h]
    have hsz : s.size = r.length + 1 := by
      have : s.data.toList.length = s.size := by simp
      rw [← this, hr]; rfl
    simp [ByteArray.extract, ByteArray.copySlice, hr, hsz]
  · exfalso
    apply hh
    unfold byteN at h45
    cases hl : s.data.toList with
    | nil => have : s.data.toList.length = s.size := by simp
             rw [hl] at this; simp at this; omega
    | cons x r =>
      rw [hl] at h45
      rw [List.head?_cons, Option.some.injEq]
      exact UInt8.toNat_inj.mp h45
theorem amt_pos (s : ByteArray) (h45 : s.size = 0 ∨ byteN s 0 ≠ 45) : s = amtB s ∧ signL s.data.toList = false := by
  rcases amt_cases s.data.toList with ⟨r, hr, h, hs⟩ | ⟨hh, h, hs⟩
  · exfalso
    have hsz : s.data.toList.length = s.size := by simp
    unfold byteN at h45
    rw [hr] at h45 hsz
    simp only [List.length_cons] at hsz
    rcases h45 with h45 | h45
    · omega
    · exact h45 rfl
  · refine ⟨?_, hs⟩
    apply ByteArray.ext
    apply Array.toList_inj.1
    unfold amtB
    rw [h]
set_option maxHeartbeats 3200000 in
theorem ramount_v (s : ByteArray) (w : World) (hs : s.size ≤ 1000) :
    Calls Tryd.prog 38 #[.string s] w fun e w' => e = .returned (.tuple #[.string (if numB s = true then amtB s else ⟨#[]⟩), .bool (numB s && signL s.data.toList), .bool (numB s)]) ∧ w' = w := by
  have hsz : (amtB s).size ≤ s.size := by
    have h1 : (amtB s).size = (amtL s.data.toList).length := by simp [amtB, ByteArray.size]
    have : s.data.toList.length = s.size := by simp
    rcases amt_cases s.data.toList with ⟨r, hr, h, _⟩ | ⟨_, h, _⟩
    · rw [h1, h]; rw [hr] at this; simp only [List.length_cons] at this; omega
    · rw [h1, h]; omega
  have hpl := fun w => refPlain_any (amtB s) w (by omega)
  by_cases h45 : 0 < s.size ∧ byteN s 0 = 45
  · obtain ⟨h0, h45⟩ := h45
    obtain ⟨a1, a2⟩ := amt_neg s h0 h45
    have hb := str_byte s 0 h0
    rw [h45] at hb
    have i0 : (0 : Int) < (s.size : Int) := by omega
    have i1 : (1 : Int) ≤ (s.size : Int) := by omega
    unfold numB
    rw [a2]
    generalize plainF (amtB s) = P at *
    generalize amtB s = F at *
    clear h45 a2
    have HP := Lib.hid hpl
    clear hpl
    by_cases hL : 160 < F.size
    · have d1 : (160 : Int) < (F.size : Int) := by omega
      have hd : decide (F.size ≤ 160) = false := by simp; omega
      rw [hd]
      clear hd hL
      cases P <;> cases hz : (F.toList == [48]) <;>
      · go_enter Tryd.func38, Tryd.ntmps38
        go_wp2_with (go_at_call 60; with_reducible refine Calls.mono (HP.out _) ?_; rintro e w2 ⟨rfl, hw2⟩; replace hw2 := hw2.symm; subst hw2)
        all_goals go_ret3
        all_goals exact ⟨by first | rfl | simp, rfl⟩
    · have d1 : ¬ (160 : Int) < (F.size : Int) := by omega
      have hd : decide (F.size ≤ 160) = true := by simp; omega
      rw [hd]
      clear hd hL
      cases P <;> cases hz : (F.toList == [48]) <;>
      · go_enter Tryd.func38, Tryd.ntmps38
        go_wp2_with (go_at_call 60; with_reducible refine Calls.mono (HP.out _) ?_; rintro e w2 ⟨rfl, hw2⟩; replace hw2 := hw2.symm; subst hw2)
        all_goals go_ret3
        all_goals exact ⟨by first | rfl | simp, rfl⟩
  · have h46 : s.size = 0 ∨ byteN s 0 ≠ 45 := by
      by_cases h0 : s.size = 0
      · exact .inl h0
      · exact .inr (fun h => h45 ⟨by omega, h⟩)
    obtain ⟨a1, a2⟩ := amt_pos s h46
    unfold numB
    rw [a2]
    clear a2 h45 hsz
    generalize amtB s = F at *
    subst a1
    generalize plainF s = P at *
    rcases h46 with h0 | h0
    · have i0 : (s.size : Int) = 0 := by omega
      have i00 : ¬ (0 : Int) < (s.size : Int) := by omega
      clear h0
      rename ByteArray => F
      have HP := Lib.hid hpl
      clear hpl
      by_cases hL : 160 < F.size
      · have d1 : (160 : Int) < (F.size : Int) := by omega
        have hd : decide (F.size ≤ 160) = false := by simp; omega
        rw [hd]
        clear hd hL
        cases P <;> cases hz : (F.toList == [48]) <;>
        · go_enter Tryd.func38, Tryd.ntmps38
          go_wp2_with (go_at_call 60; with_reducible refine Calls.mono (HP.out _) ?_; rintro e w2 ⟨rfl, hw2⟩; replace hw2 := hw2.symm; subst hw2)
          all_goals go_ret3
          all_goals exact ⟨by first | rfl | simp, rfl⟩
      · have d1 : ¬ (160 : Int) < (F.size : Int) := by omega
        have hd : decide (F.size ≤ 160) = true := by simp; omega
        rw [hd]
        clear hd hL
        cases P <;> cases hz : (F.toList == [48]) <;>
        · go_enter Tryd.func38, Tryd.ntmps38
          go_wp2_with (go_at_call 60; with_reducible refine Calls.mono (HP.out _) ?_; rintro e w2 ⟨rfl, hw2⟩; replace hw2 := hw2.symm; subst hw2)
          all_goals go_ret3
          all_goals exact ⟨by first | rfl | simp, rfl⟩
    · by_cases hs0 : s.size = 0
      · have i0 : (s.size : Int) = 0 := by omega
        have i00 : ¬ (0 : Int) < (s.size : Int) := by omega
        clear h0
        rename ByteArray => F
        have HP := Lib.hid hpl
        clear hpl
        by_cases hL : 160 < F.size
        · have d1 : (160 : Int) < (F.size : Int) := by omega
          have hd : decide (F.size ≤ 160) = false := by simp; omega
          rw [hd]
          clear hd hL
          cases P <;> cases hz : (F.toList == [48]) <;>
          · go_enter Tryd.func38, Tryd.ntmps38
            go_wp2_with (go_at_call 60; with_reducible refine Calls.mono (HP.out _) ?_; rintro e w2 ⟨rfl, hw2⟩; replace hw2 := hw2.symm; subst hw2)
            all_goals go_ret3
            all_goals exact ⟨by first | rfl | simp, rfl⟩
        · have d1 : ¬ (160 : Int) < (F.size : Int) := by omega
          have hd : decide (F.size ≤ 160) = true := by simp; omega
          rw [hd]
          clear hd hL
          cases P <;> cases hz : (F.toList == [48]) <;>
          · go_enter Tryd.func38, Tryd.ntmps38
            go_wp2_with (go_at_call 60; with_reducible refine Calls.mono (HP.out _) ?_; rintro e w2 ⟨rfl, hw2⟩; replace hw2 := hw2.symm; subst hw2)
            all_goals go_ret3
            all_goals exact ⟨by first | rfl | simp, rfl⟩
      · have hs1 : 0 < s.size := by omega
        have hb := str_byte s 0 hs1
        have i0 : (0 : Int) < (s.size : Int) := by omega
        generalize byteN s 0 = c at *
        have e1 : ¬ (c : Int) = 45 := by omega
        have e2 : ((c : Int) == 45) = false := by rw [beq_eq_false_iff_ne]; exact e1
        clear h0 hs0
        rename ByteArray => F
        have HP := Lib.hid hpl
        clear hpl
        by_cases hL : 160 < F.size
        · have d1 : (160 : Int) < (F.size : Int) := by omega
          have hd : decide (F.size ≤ 160) = false := by simp; omega
          rw [hd]
          clear hd hL
          cases P <;> cases hz : (F.toList == [48]) <;>
          · go_enter Tryd.func38, Tryd.ntmps38
            go_wp2_with (go_at_call 60; with_reducible refine Calls.mono (HP.out _) ?_; rintro e w2 ⟨rfl, hw2⟩; replace hw2 := hw2.symm; subst hw2)
            all_goals go_ret3
            all_goals exact ⟨by first | rfl | simp, rfl⟩
        · have d1 : ¬ (160 : Int) < (F.size : Int) := by omega
          have hd : decide (F.size ≤ 160) = true := by simp; omega
          rw [hd]
          clear hd hL
          cases P <;> cases hz : (F.toList == [48]) <;>
          · go_enter Tryd.func38, Tryd.ntmps38
            go_wp2_with (go_at_call 60; with_reducible refine Calls.mono (HP.out _) ?_; rintro e w2 ⟨rfl, hw2⟩; replace hw2 := hw2.symm; subst hw2)
            all_goals go_ret3
            all_goals exact ⟨by first | rfl | simp, rfl⟩
end Go.Proofs.YtgoaakdopbielaaDoor
namespace Go.Proofs.YtgoaakdopbielaaDoor
open Go.RowKit Go.Shelf
set_option linter.unusedSimpArgs false
set_option linter.unusedVariables false
set_option linter.unusedSectionVars false

/-! Layer 9, the document's own: rows that grow. -/
def u8s (l : List Nat) : List Value := l.map fun (x : Nat) => Value.int .u8 (x : Int)
theorem u8s_len (l : List Nat) : (u8s l).length = l.length := by simp [u8s]
theorem u8s_app (a b : List Nat) : u8s (a ++ b) = u8s a ++ u8s b := by simp [u8s]
theorem info8 : (Tryd.prog.info? 5).map (fun i => (i.zero, i.size, i.bytes)) = some (some (.int .u8 0), 1, 1) := by kernel_rfl

theorem row_some {w : World} {base e size n : Nat} {v : Value} {xs : List Value} (h : w.ownsRow base e size v n xs) (hx : xs ≠ []) : ∃ g cap, v = .slice (some ⟨g, 0, none⟩) n cap := by
  rcases h.2 with ⟨rfl, h2⟩ | ⟨g, cap, cur, rfl, _⟩
  · subst h2
    exact absurd (List.eq_nil_of_length_eq_zero (by simpa using h.1)) hx
  · exact ⟨_, _, rfl⟩
theorem row_slice {w : World} {base e size n : Nat} {v : Value} {xs : List Value} (h : w.ownsRow base e size v n xs) : ∃ a c, v = .slice a n c := by
  rcases h.2 with ⟨rfl, rfl⟩ | ⟨g, cap, cur, rfl, _⟩
  · exact ⟨_, _, rfl⟩
  · exact ⟨_, _, rfl⟩
theorem append8_below {B : Nat} {w w1 w2 : World} {v : Value} {n : Nat} {xs : List Value} {o : Obj} (h : Below B w w1) (hown : w1.ownsRow B 5 1 v n xs) (hB : B ≤ w1.heap.size) (hg : (w1.alloc o).grownBy w2 v.ownBlock) : Below B w w2 := by
  refine (h.alloc (by have := h.size; omega) o).grown hg (by simp; omega) ?_
  intro k hk
  exact (hown.lt k hk).1

def i64s (l : List Nat) : List Value := l.map fun (x : Nat) => Value.int .i64 (x : Int)
theorem i64s_len (l : List Nat) : (i64s l).length = l.length := by simp [i64s]
theorem i64s_mid (a b : List Nat) (f r : Nat) : (i64s (a ++ f :: b)).set a.length (.int .i64 r) = i64s ((a ++ [r]) ++ b) := by
  simp only [i64s, List.map_append, List.map_cons, List.map_nil]
  rw [List.set_append_right _ _ (by simp)]
  simp
theorem i64s_at (a b : List Nat) (f : Nat) : (i64s (a ++ f :: b))[a.length]? = some (.int .i64 (f : Int)) := by
  simp only [i64s, List.map_append, List.map_cons]
  rw [List.getElem?_append_right (by simp)]
  simp
theorem i64s_get (l : List Nat) (k : Nat) (h : k < l.length) : (i64s l)[k]? = some (.int .i64 (l[k] : Int)) := by
  simp [i64s, List.getElem?_map, List.getElem?_eq_getElem h]
theorem info64 : (Tryd.prog.info? 3).map (fun i => (i.zero, i.size, i.bytes)) = some (some (.int .i64 0), 1, 8) := by kernel_rfl
theorem append64_below {B : Nat} {w w1 w2 : World} {v : Value} {n : Nat} {xs : List Value} {o : Obj} (h : Below B w w1) (hown : w1.ownsRow B 3 1 v n xs) (hB : B ≤ w1.heap.size) (hg : (w1.alloc o).grownBy w2 v.ownBlock) : Below B w w2 := by
  refine (h.alloc (by have := h.size; omega) o).grown hg (by simp; omega) ?_
  intro k hk
  exact (hown.lt k hk).1
theorem row_read {w w' : World} {B0 : Nat} {a : Option Addr} {c : Nat} {ds : List Nat} (h : w.ownsRow B0 3 1 (.slice a ds.length c) ds.length (i64s ds)) (hb : Below w.heap.size w w') (k : Nat) (hk : k < ds.length) :
    ∃ g cap, a = some ⟨g, 0, none⟩ ∧ c = cap ∧ w'.cell? ⟨g, k, none⟩ = some (.int .i64 (ds[k] : Int)) := by
  obtain ⟨g, cap, hs⟩ := row_some h (by intro h0; have := congrArg List.length h0; rw [i64s_len] at this; simp at this; subst this; simp at hk)
  simp only [Value.slice.injEq, true_and] at hs
  obtain ⟨rfl, rfl⟩ := hs
  refine ⟨g, c, rfl, rfl, ?_⟩
  rw [hb.cell (p := ⟨g, k, none⟩) (h.lt g rfl).2, h.cellAt k (by omega), i64s_get _ _ hk]

def bytesOf (l : List Nat) : ByteArray := ⟨(l.map UInt8.ofNat).toArray⟩
theorem bytesOf_size (l : List Nat) : (bytesOf l).size = l.length := by simp [bytesOf, ByteArray.size]
theorem bytesOf_byte (l : List Nat) (hl : ∀ x ∈ l, x < 256) (i : Nat) (hi : i < l.length) : (u8s l)[i]? = some (.int .u8 (byteN (bytesOf l) i)) := by
  have hg : l[i]? = some l[i] := List.getElem?_eq_getElem _
  have hm : l[i] < 256 := hl _ (List.getElem_mem _)
  simp only [u8s, byteN, bytesOf, List.getElem?_map, hg, Option.map_some, List.getD_eq_getElem?_getD, Option.getD_some]
  congr 2
  generalize l[i] = d at hm
  show (d : Int) = ((UInt8.ofNat d).toNat : Int)
  rw [UInt8.toNat_ofNat']
  omega
theorem row_bsl {w : World} {B : Nat} {a : Option Addr} {c : Nat} {l : List Nat} (h : w.ownsRow B 5 1 (.slice a l.length c) l.length (u8s l)) (hl : ∀ x ∈ l, x < 256) : BSl w a (bytesOf l) := by
  by_cases h0 : l = []
  · subst h0; exact .inl rfl
  obtain ⟨g, cap, hs⟩ := row_some h (by simp [u8s, h0])
  simp only [Value.slice.injEq, true_and] at hs
  obtain ⟨rfl, rfl⟩ := hs
  refine .inr ⟨g, 0, rfl, ?_, (h.lt g rfl).2⟩
  intro i hi
  rw [bytesOf_size] at hi
  rw [Nat.zero_add, h.cellAt i (by omega)]
  exact bytesOf_byte l hl i hi
theorem newsN {w : World} {vs : List Value} {t : TypeId} : ∀ j u, vs[j]? = some u → (w.alloc (.cells vs.toArray t)).cell? ((⟨w.heap.size, 0, none⟩ : Addr).add j) = some u :=
  World.news_of_block (cs := vs.toArray) (heap_alloc_new w _)

end Go.Proofs.YtgoaakdopbielaaDoor
