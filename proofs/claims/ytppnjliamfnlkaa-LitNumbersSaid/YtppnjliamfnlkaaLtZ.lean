import Derived.Test.YtppnjliamfnlkaaLtY
import Derived.Test.YtppnjliamfnlkaaLtAb
namespace Go.Proofs.Ytppnjliamfnlkaa
open Go.RowKit
set_option linter.unusedSimpArgs false
set_option linter.unusedVariables false
set_option linter.unusedSectionVars false

/-! The document's Number. -/
def RefP (base : Nat) : Option (List Nat) → Ending → Prop
  | some ds, e => e = .returned (.tuple #[.string (decF (foldD base [] ds)), .int .i64 0])
  | none, e => e = .returned (.tuple #[.string ⟨#[]⟩, .int .i64 4])

set_option maxHeartbeats 6400000 in
theorem refnum_ten (s : ByteArray) (w : World) (hs : s.size ≤ 200) (h : 0 < s.size) (h0 : 49 ≤ byteN s 0) (h1 : byteN s 0 ≤ 57) :
    Calls Try.prog 9 #[.string s] w fun e w' => RefP 10 (refG s 10 (s.size + 1) 0 []) e ∧ Below w.heap.size w w' := by
  obtain ⟨i0, hi0, hz0, hz1, hz2⟩ := info_parts info64
  have hx0 := str_byte s 0 (by omega)
  have hl0 : ¬ s.toList = [] := by
    intro h
    rw [Lib.toList_data] at h
    have := congrArg List.length h
    have h2 : s.size = 0 := by simpa using this
    omega
  have hem : s.toList.isEmpty = false := by simp [hl0]
  have hz : ((s.size : Int) == 0) = false := by rw [beq_eq_false_iff_ne]; omega
  generalize byteN s 0 = c0 at *
  have k0 : ((c0 : Int) == 48) = false := by simp; omega
  have k1 : decide ((c0 : Int) < 48) = false := by simp; omega
  have k2 : decide ((57 : Int) < (c0 : Int)) = false := by simp; omega
  generalize hX : refG s 10 (s.size + 1) 0 [] = X
  have HX := Lib.hid hX
  clear hX
  go_enter Try.func9, Try.ntmps9
  go_wp2_with fail
  go_loopw [6, 7] (fun lv iv wr => ∃ (f i : Nat) (ds : List Nat), iv = .int .i64 i ∧ i ≤ s.size ∧ s.size < f + i ∧ X = refG s 10 f i ds ∧ (∀ d ∈ ds, d < 10) ∧ ds.length ≤ i ∧ wr.ownsRow w.heap.size 3 1 lv ds.length (i64s ds) ∧ Below w.heap.size w wr) (fun _ iv _ => s.size - (intOf iv).toNat)
  case atStart => exact ⟨s.size + 1, 0, [], rfl, by omega, by omega, HX.out.symm, by simp, by simp, World.ownsRow_nil _ _ _ _, Below.refl _ _⟩
  case round =>
    obtain ⟨f, i, ds, rfl, hi, hf, he, hds, hdl, hown, hbl⟩ := hrel
    obtain ⟨f, rfl⟩ : ∃ g, f = g + 1 := ⟨f - 1, by omega⟩
    have HE := Lib.hid he
    have HO := Lib.hid hown
    have HBL := Lib.hid hbl
    have HDS := Lib.hid hds
    clear he hown hbl hds HX
    by_cases hlt : i < s.size
    · have hb := str_byte s i hlt
      have hst : refG s 10 (f + 1) i ds = (if byteN s i = 95 then (if i + 1 = s.size ∨ byteN s (i + 1) = 95 then none else refG s 10 f (i + 1) ds)
         else if digitW (byteN s i) < 10 then refG s 10 f (i + 1) (ds ++ [digitW (byteN s i)]) else none) := by rw [refG, if_pos hlt]
      have hc := byteN_lt s i
      generalize byteN s i = c at *
      by_cases h95 : c = 95
      · subst h95
        rw [if_pos rfl] at hst
        by_cases hend : i + 1 = s.size
        · rw [if_pos (.inl hend)] at hst
          have HN : Hid (X = none) := Lib.hid (by rw [HE.out, hst])
          have hee : ((i : Int) + 1 == (s.size : Int)) = true := by simp; omega
          have hee2 : (((i + 1 : Nat) : Int) == (s.size : Int)) = true := by simp; omega
          clear hst hend
          go_wp2_with fail
          go_ret2
          exact ⟨by rw [HN.out]; rfl, HBL.out⟩
        · have hee : ((i : Int) + 1 == (s.size : Int)) = false := by simp; omega
          have hil : i + 1 < s.size := by omega
          have hil2 : (i : Int) + 1 < s.size := by omega
          have hb2 := str_byte s (i + 1) hil
          generalize byteN s (i + 1) = c2 at *
          by_cases h952 : c2 = 95
          · subst h952
            rw [if_pos (.inr rfl)] at hst
            have HN : Hid (X = none) := Lib.hid (by rw [HE.out, hst])
            clear hst hend
            go_wp2_with fail
            go_ret2
            exact ⟨by rw [HN.out]; rfl, HBL.out⟩
          · rw [if_neg (by omega)] at hst
            have HN : Hid (X = refG s 10 f (i + 1) ds) := Lib.hid (by rw [HE.out, hst])
            have hne : ((c2 : Int) == 95) = false := by simp; omega
            clear hst hend
            go_wp2_with fail
            go_roundw
            case rel => exact ⟨f, i + 1, ds, by go_num, by omega, by omega, HN.out, HDS.out, by omega, HO.out, HBL.out⟩
            case measure => simp [intOf]; omega
      · rw [if_neg h95] at hst
        have hne : ((c : Int) == 95) = false := by simp; omega
        have hdg := fun w => rdigit_any c hc w
        by_cases hdb : digitW c < 10
        · rw [if_pos hdb] at hst
          have HN : Hid (X = refG s 10 f (i + 1) (ds ++ [digitW c])) := Lib.hid (by rw [HE.out, hst])
          clear hst
          generalize digitW c = dw at *
          go_wp2_with (first
            | (go_at_call 21; with_reducible refine Calls.mono (hdg _) ?_; rintro e w2 ⟨rfl, hw2⟩; replace hw2 := hw2.symm; subst hw2)
            | (at_builtin; refine wpList_append_own _ rfl _ _ 37 rfl w.heap.size 3 i0 (.int .i64 0) 1 8 Try.underlying37 hi0 hz0 hz1 hz2 rfl (by decide) _ _ _ rfl (HO.out.alloc _) ⟨wr.heap.size, 0, none⟩ 1 1 [.int .i64 (dw : Int)] rfl rfl newsN ?c2 ?c3 ?c4 ?c5 ?_))
          case c2 => intro u hu; simp at hu; subst hu; rfl
          case c3 => unfold maxLen; omega
          case c4 => omega
          case c5 => have := HBL.out.size; simp; omega
          intro v' w1 hown' hgrow _
          have HO4 : Hid (w1.ownsRow w.heap.size 3 1 v' (ds ++ [dw]).length (i64s (ds ++ [dw]))) := Lib.hid (by simpa [i64s] using hown')
          have HB4 : Hid (Below w.heap.size w w1) := Lib.hid (append64_below HBL.out HO.out (by have := HBL.out.size; omega) hgrow)
          clear hown' hgrow
          go_wp2_with fail
          go_roundw
          case rel =>
            refine ⟨f, i + 1, ds ++ [dw], by go_num, by omega, by omega, HN.out, ?_, by simp; omega, HO4.out, HB4.out⟩
            intro x hx
            rcases List.mem_append.1 hx with h | h
            · exact HDS.out x h
            · simp at h; omega
          case measure => simp [intOf]; omega
        · rw [if_neg hdb] at hst
          have HN : Hid (X = none) := Lib.hid (by rw [HE.out, hst])
          clear hst
          have hdb2 : decide (10 ≤ digitW c) = true := by simp; omega
          have hdb3 : decide ((10 : Int) ≤ (digitW c : Int)) = true := by simp; omega
          generalize digitW c = dw at *
          go_wp2_with (first
            | (go_at_call 21; with_reducible refine Calls.mono (hdg _) ?_; rintro e w2 ⟨rfl, hw2⟩; replace hw2 := hw2.symm; subst hw2))
          go_ret2
          exact ⟨by rw [HN.out]; rfl, HBL.out⟩
    · have hie : i = s.size := by omega
      have hst : refG s 10 (f + 1) i ds = if ds = [] then none else some ds := by rw [refG, if_neg hlt]
      obtain ⟨ra, rc, rfl⟩ := row_slice HO.out
      by_cases hnil : ds = []
      · subst hnil
        have HN : Hid (X = none) := Lib.hid (by rw [HE.out, hst]; rfl)
        clear hst
        go_wp2_with fail
        go_ret2
        exact ⟨by rw [HN.out]; rfl, HBL.out⟩
      · have HN : Hid (X = some ds) := Lib.hid (by rw [HE.out, hst, if_neg hnil])
        have hdc := decimal_ref _ _ ds 10 wr HO.out HDS.out (by omega) (by omega) (by omega)
        have hln : ((ds.length : Int) == 0) = false := by simp [hnil]
        have hlp : 0 < ds.length := List.length_pos_iff.2 hnil
        rw [show ((10 : Nat) : Int) = 10 from rfl] at hdc
        clear hst hie
        go_wp2_with (go_at_call 22; with_reducible refine Calls.mono hdc ?_; rintro e w2 ⟨rfl, hb2⟩; have HB2 := Lib.hid hb2; clear hb2 hdc)
        go_ret2
        exact ⟨by rw [HN.out]; rfl, HBL.out.trans (HB2.out.mono HBL.out.size)⟩

set_option maxHeartbeats 6400000 in
theorem refnum_one (s : ByteArray) (w : World) (hs : s.size ≤ 200) (h : s.size = 1) (h0 : byteN s 0 = 48) :
    Calls Try.prog 9 #[.string s] w fun e w' => RefP 10 (refG s 10 (s.size + 1) 0 []) e ∧ Below w.heap.size w w' := by
  obtain ⟨i0, hi0, hz0, hz1, hz2⟩ := info_parts info64
  have hx0 := str_byte s 0 (by omega)
  have hl0 : ¬ s.toList = [] := by
    intro h
    rw [Lib.toList_data] at h
    have := congrArg List.length h
    have h2 : s.size = 0 := by simpa using this
    omega
  have hem : s.toList.isEmpty = false := by simp [hl0]
  have hz : ((s.size : Int) == 0) = false := by rw [beq_eq_false_iff_ne]; omega
  rw [h0] at hx0
  have hd1 : decide ((1 : Int) < (s.size : Int)) = false := by simp; omega
  generalize hX : refG s 10 (s.size + 1) 0 [] = X
  have HX := Lib.hid hX
  clear hX
  go_enter Try.func9, Try.ntmps9
  go_wp2_with fail
  go_loopw [6, 7] (fun lv iv wr => ∃ (f i : Nat) (ds : List Nat), iv = .int .i64 i ∧ i ≤ s.size ∧ s.size < f + i ∧ X = refG s 10 f i ds ∧ (∀ d ∈ ds, d < 10) ∧ ds.length ≤ i ∧ wr.ownsRow w.heap.size 3 1 lv ds.length (i64s ds) ∧ Below w.heap.size w wr) (fun _ iv _ => s.size - (intOf iv).toNat)
  case atStart => exact ⟨s.size + 1, 0, [], rfl, by omega, by omega, HX.out.symm, by simp, by simp, World.ownsRow_nil _ _ _ _, Below.refl _ _⟩
  case round =>
    obtain ⟨f, i, ds, rfl, hi, hf, he, hds, hdl, hown, hbl⟩ := hrel
    obtain ⟨f, rfl⟩ : ∃ g, f = g + 1 := ⟨f - 1, by omega⟩
    have HE := Lib.hid he
    have HO := Lib.hid hown
    have HBL := Lib.hid hbl
    have HDS := Lib.hid hds
    clear he hown hbl hds HX
    by_cases hlt : i < s.size
    · have hb := str_byte s i hlt
      have hst : refG s 10 (f + 1) i ds = (if byteN s i = 95 then (if i + 1 = s.size ∨ byteN s (i + 1) = 95 then none else refG s 10 f (i + 1) ds)
         else if digitW (byteN s i) < 10 then refG s 10 f (i + 1) (ds ++ [digitW (byteN s i)]) else none) := by rw [refG, if_pos hlt]
      have hc := byteN_lt s i
      generalize byteN s i = c at *
      by_cases h95 : c = 95
      · subst h95
        rw [if_pos rfl] at hst
        by_cases hend : i + 1 = s.size
        · rw [if_pos (.inl hend)] at hst
          have HN : Hid (X = none) := Lib.hid (by rw [HE.out, hst])
          have hee : ((i : Int) + 1 == (s.size : Int)) = true := by simp; omega
          have hee2 : (((i + 1 : Nat) : Int) == (s.size : Int)) = true := by simp; omega
          clear hst hend
          go_wp2_with fail
          go_ret2
          exact ⟨by rw [HN.out]; rfl, HBL.out⟩
        · exfalso; omega
      · rw [if_neg h95] at hst
        have hne : ((c : Int) == 95) = false := by simp; omega
        have hdg := fun w => rdigit_any c hc w
        by_cases hdb : digitW c < 10
        · rw [if_pos hdb] at hst
          have HN : Hid (X = refG s 10 f (i + 1) (ds ++ [digitW c])) := Lib.hid (by rw [HE.out, hst])
          clear hst
          generalize digitW c = dw at *
          go_wp2_with (first
            | (go_at_call 21; with_reducible refine Calls.mono (hdg _) ?_; rintro e w2 ⟨rfl, hw2⟩; replace hw2 := hw2.symm; subst hw2)
            | (at_builtin; refine wpList_append_own _ rfl _ _ 37 rfl w.heap.size 3 i0 (.int .i64 0) 1 8 Try.underlying37 hi0 hz0 hz1 hz2 rfl (by decide) _ _ _ rfl (HO.out.alloc _) ⟨wr.heap.size, 0, none⟩ 1 1 [.int .i64 (dw : Int)] rfl rfl newsN ?c2 ?c3 ?c4 ?c5 ?_))
          case c2 => intro u hu; simp at hu; subst hu; rfl
          case c3 => unfold maxLen; omega
          case c4 => omega
          case c5 => have := HBL.out.size; simp; omega
          intro v' w1 hown' hgrow _
          have HO4 : Hid (w1.ownsRow w.heap.size 3 1 v' (ds ++ [dw]).length (i64s (ds ++ [dw]))) := Lib.hid (by simpa [i64s] using hown')
          have HB4 : Hid (Below w.heap.size w w1) := Lib.hid (append64_below HBL.out HO.out (by have := HBL.out.size; omega) hgrow)
          clear hown' hgrow
          go_wp2_with fail
          go_roundw
          case rel =>
            refine ⟨f, i + 1, ds ++ [dw], by go_num, by omega, by omega, HN.out, ?_, by simp; omega, HO4.out, HB4.out⟩
            intro x hx
            rcases List.mem_append.1 hx with h | h
            · exact HDS.out x h
            · simp at h; omega
          case measure => simp [intOf]; omega
        · rw [if_neg hdb] at hst
          have HN : Hid (X = none) := Lib.hid (by rw [HE.out, hst])
          clear hst
          have hdb2 : decide (10 ≤ digitW c) = true := by simp; omega
          have hdb3 : decide ((10 : Int) ≤ (digitW c : Int)) = true := by simp; omega
          generalize digitW c = dw at *
          go_wp2_with (first
            | (go_at_call 21; with_reducible refine Calls.mono (hdg _) ?_; rintro e w2 ⟨rfl, hw2⟩; replace hw2 := hw2.symm; subst hw2))
          go_ret2
          exact ⟨by rw [HN.out]; rfl, HBL.out⟩
    · have hie : i = s.size := by omega
      have hst : refG s 10 (f + 1) i ds = if ds = [] then none else some ds := by rw [refG, if_neg hlt]
      obtain ⟨ra, rc, rfl⟩ := row_slice HO.out
      by_cases hnil : ds = []
      · subst hnil
        have HN : Hid (X = none) := Lib.hid (by rw [HE.out, hst]; rfl)
        clear hst
        go_wp2_with fail
        go_ret2
        exact ⟨by rw [HN.out]; rfl, HBL.out⟩
      · have HN : Hid (X = some ds) := Lib.hid (by rw [HE.out, hst, if_neg hnil])
        have hdc := decimal_ref _ _ ds 10 wr HO.out HDS.out (by omega) (by omega) (by omega)
        have hln : ((ds.length : Int) == 0) = false := by simp [hnil]
        have hlp : 0 < ds.length := List.length_pos_iff.2 hnil
        rw [show ((10 : Nat) : Int) = 10 from rfl] at hdc
        clear hst hie
        go_wp2_with (go_at_call 22; with_reducible refine Calls.mono hdc ?_; rintro e w2 ⟨rfl, hb2⟩; have HB2 := Lib.hid hb2; clear hb2 hdc)
        go_ret2
        exact ⟨by rw [HN.out]; rfl, HBL.out.trans (HB2.out.mono HBL.out.size)⟩

set_option maxHeartbeats 6400000 in
theorem refnum_120 (s : ByteArray) (w : World) (hs : s.size ≤ 200) (h : 1 < s.size) (h0 : byteN s 0 = 48) (h1 : byteN s 1 = 120) :
    Calls Try.prog 9 #[.string s] w fun e w' => RefP 16 (refG s 16 (s.size + 1) 2 []) e ∧ Below w.heap.size w w' := by
  obtain ⟨i0, hi0, hz0, hz1, hz2⟩ := info_parts info64
  have hx0 := str_byte s 0 (by omega)
  have hl0 : ¬ s.toList = [] := by
    intro h
    rw [Lib.toList_data] at h
    have := congrArg List.length h
    have h2 : s.size = 0 := by simpa using this
    omega
  have hem : s.toList.isEmpty = false := by simp [hl0]
  have hz : ((s.size : Int) == 0) = false := by rw [beq_eq_false_iff_ne]; omega
  have hx1 := str_byte s 1 (by omega)
  have hd1 : decide ((1 : Int) < (s.size : Int)) = true := by simp; omega
  have hl1 : (1 : Int) < s.size := by omega
  rw [h0] at hx0
  rw [h1] at hx1
  generalize hX : refG s 16 (s.size + 1) 2 [] = X
  have HX := Lib.hid hX
  clear hX
  go_enter Try.func9, Try.ntmps9
  go_wp2_with fail
  go_loopw [6, 7] (fun lv iv wr => ∃ (f i : Nat) (ds : List Nat), iv = .int .i64 i ∧ i ≤ s.size ∧ s.size < f + i ∧ X = refG s 16 f i ds ∧ (∀ d ∈ ds, d < 16) ∧ ds.length ≤ i ∧ wr.ownsRow w.heap.size 3 1 lv ds.length (i64s ds) ∧ Below w.heap.size w wr) (fun _ iv _ => s.size - (intOf iv).toNat)
  case atStart => exact ⟨s.size + 1, 2, [], rfl, by omega, by omega, HX.out.symm, by simp, by simp, World.ownsRow_nil _ _ _ _, Below.refl _ _⟩
  case round =>
    obtain ⟨f, i, ds, rfl, hi, hf, he, hds, hdl, hown, hbl⟩ := hrel
    obtain ⟨f, rfl⟩ : ∃ g, f = g + 1 := ⟨f - 1, by omega⟩
    have HE := Lib.hid he
    have HO := Lib.hid hown
    have HBL := Lib.hid hbl
    have HDS := Lib.hid hds
    clear he hown hbl hds HX
    by_cases hlt : i < s.size
    · have hb := str_byte s i hlt
      have hst : refG s 16 (f + 1) i ds = (if byteN s i = 95 then (if i + 1 = s.size ∨ byteN s (i + 1) = 95 then none else refG s 16 f (i + 1) ds)
         else if digitW (byteN s i) < 16 then refG s 16 f (i + 1) (ds ++ [digitW (byteN s i)]) else none) := by rw [refG, if_pos hlt]
      have hc := byteN_lt s i
      generalize byteN s i = c at *
      by_cases h95 : c = 95
      · subst h95
        rw [if_pos rfl] at hst
        by_cases hend : i + 1 = s.size
        · rw [if_pos (.inl hend)] at hst
          have HN : Hid (X = none) := Lib.hid (by rw [HE.out, hst])
          have hee : ((i : Int) + 1 == (s.size : Int)) = true := by simp; omega
          have hee2 : (((i + 1 : Nat) : Int) == (s.size : Int)) = true := by simp; omega
          clear hst hend
          go_wp2_with fail
          go_ret2
          exact ⟨by rw [HN.out]; rfl, HBL.out⟩
        · have hee : ((i : Int) + 1 == (s.size : Int)) = false := by simp; omega
          have hil : i + 1 < s.size := by omega
          have hil2 : (i : Int) + 1 < s.size := by omega
          have hb2 := str_byte s (i + 1) hil
          generalize byteN s (i + 1) = c2 at *
          by_cases h952 : c2 = 95
          · subst h952
            rw [if_pos (.inr rfl)] at hst
            have HN : Hid (X = none) := Lib.hid (by rw [HE.out, hst])
            clear hst hend
            go_wp2_with fail
            go_ret2
            exact ⟨by rw [HN.out]; rfl, HBL.out⟩
          · rw [if_neg (by omega)] at hst
            have HN : Hid (X = refG s 16 f (i + 1) ds) := Lib.hid (by rw [HE.out, hst])
            have hne : ((c2 : Int) == 95) = false := by simp; omega
            clear hst hend
            go_wp2_with fail
            go_roundw
            case rel => exact ⟨f, i + 1, ds, by go_num, by omega, by omega, HN.out, HDS.out, by omega, HO.out, HBL.out⟩
            case measure => simp [intOf]; omega
      · rw [if_neg h95] at hst
        have hne : ((c : Int) == 95) = false := by simp; omega
        have hdg := fun w => rdigit_any c hc w
        by_cases hdb : digitW c < 16
        · rw [if_pos hdb] at hst
          have HN : Hid (X = refG s 16 f (i + 1) (ds ++ [digitW c])) := Lib.hid (by rw [HE.out, hst])
          clear hst
          generalize digitW c = dw at *
          go_wp2_with (first
            | (go_at_call 21; with_reducible refine Calls.mono (hdg _) ?_; rintro e w2 ⟨rfl, hw2⟩; replace hw2 := hw2.symm; subst hw2)
            | (at_builtin; refine wpList_append_own _ rfl _ _ 37 rfl w.heap.size 3 i0 (.int .i64 0) 1 8 Try.underlying37 hi0 hz0 hz1 hz2 rfl (by decide) _ _ _ rfl (HO.out.alloc _) ⟨wr.heap.size, 0, none⟩ 1 1 [.int .i64 (dw : Int)] rfl rfl newsN ?c2 ?c3 ?c4 ?c5 ?_))
          case c2 => intro u hu; simp at hu; subst hu; rfl
          case c3 => unfold maxLen; omega
          case c4 => omega
          case c5 => have := HBL.out.size; simp; omega
          intro v' w1 hown' hgrow _
          have HO4 : Hid (w1.ownsRow w.heap.size 3 1 v' (ds ++ [dw]).length (i64s (ds ++ [dw]))) := Lib.hid (by simpa [i64s] using hown')
          have HB4 : Hid (Below w.heap.size w w1) := Lib.hid (append64_below HBL.out HO.out (by have := HBL.out.size; omega) hgrow)
          clear hown' hgrow
          go_wp2_with fail
          go_roundw
          case rel =>
            refine ⟨f, i + 1, ds ++ [dw], by go_num, by omega, by omega, HN.out, ?_, by simp; omega, HO4.out, HB4.out⟩
            intro x hx
            rcases List.mem_append.1 hx with h | h
            · exact HDS.out x h
            · simp at h; omega
          case measure => simp [intOf]; omega
        · rw [if_neg hdb] at hst
          have HN : Hid (X = none) := Lib.hid (by rw [HE.out, hst])
          clear hst
          have hdb2 : decide (16 ≤ digitW c) = true := by simp; omega
          have hdb3 : decide ((16 : Int) ≤ (digitW c : Int)) = true := by simp; omega
          generalize digitW c = dw at *
          go_wp2_with (first
            | (go_at_call 21; with_reducible refine Calls.mono (hdg _) ?_; rintro e w2 ⟨rfl, hw2⟩; replace hw2 := hw2.symm; subst hw2))
          go_ret2
          exact ⟨by rw [HN.out]; rfl, HBL.out⟩
    · have hie : i = s.size := by omega
      have hst : refG s 16 (f + 1) i ds = if ds = [] then none else some ds := by rw [refG, if_neg hlt]
      obtain ⟨ra, rc, rfl⟩ := row_slice HO.out
      by_cases hnil : ds = []
      · subst hnil
        have HN : Hid (X = none) := Lib.hid (by rw [HE.out, hst]; rfl)
        clear hst
        go_wp2_with fail
        go_ret2
        exact ⟨by rw [HN.out]; rfl, HBL.out⟩
      · have HN : Hid (X = some ds) := Lib.hid (by rw [HE.out, hst, if_neg hnil])
        have hdc := decimal_ref _ _ ds 16 wr HO.out HDS.out (by omega) (by omega) (by omega)
        have hln : ((ds.length : Int) == 0) = false := by simp [hnil]
        have hlp : 0 < ds.length := List.length_pos_iff.2 hnil
        rw [show ((16 : Nat) : Int) = 16 from rfl] at hdc
        clear hst hie
        go_wp2_with (go_at_call 22; with_reducible refine Calls.mono hdc ?_; rintro e w2 ⟨rfl, hb2⟩; have HB2 := Lib.hid hb2; clear hb2 hdc)
        go_ret2
        exact ⟨by rw [HN.out]; rfl, HBL.out.trans (HB2.out.mono HBL.out.size)⟩

set_option maxHeartbeats 6400000 in
theorem refnum_88 (s : ByteArray) (w : World) (hs : s.size ≤ 200) (h : 1 < s.size) (h0 : byteN s 0 = 48) (h1 : byteN s 1 = 88) :
    Calls Try.prog 9 #[.string s] w fun e w' => RefP 16 (refG s 16 (s.size + 1) 2 []) e ∧ Below w.heap.size w w' := by
  obtain ⟨i0, hi0, hz0, hz1, hz2⟩ := info_parts info64
  have hx0 := str_byte s 0 (by omega)
  have hl0 : ¬ s.toList = [] := by
    intro h
    rw [Lib.toList_data] at h
    have := congrArg List.length h
    have h2 : s.size = 0 := by simpa using this
    omega
  have hem : s.toList.isEmpty = false := by simp [hl0]
  have hz : ((s.size : Int) == 0) = false := by rw [beq_eq_false_iff_ne]; omega
  have hx1 := str_byte s 1 (by omega)
  have hd1 : decide ((1 : Int) < (s.size : Int)) = true := by simp; omega
  have hl1 : (1 : Int) < s.size := by omega
  rw [h0] at hx0
  rw [h1] at hx1
  generalize hX : refG s 16 (s.size + 1) 2 [] = X
  have HX := Lib.hid hX
  clear hX
  go_enter Try.func9, Try.ntmps9
  go_wp2_with fail
  go_loopw [6, 7] (fun lv iv wr => ∃ (f i : Nat) (ds : List Nat), iv = .int .i64 i ∧ i ≤ s.size ∧ s.size < f + i ∧ X = refG s 16 f i ds ∧ (∀ d ∈ ds, d < 16) ∧ ds.length ≤ i ∧ wr.ownsRow w.heap.size 3 1 lv ds.length (i64s ds) ∧ Below w.heap.size w wr) (fun _ iv _ => s.size - (intOf iv).toNat)
  case atStart => exact ⟨s.size + 1, 2, [], rfl, by omega, by omega, HX.out.symm, by simp, by simp, World.ownsRow_nil _ _ _ _, Below.refl _ _⟩
  case round =>
    obtain ⟨f, i, ds, rfl, hi, hf, he, hds, hdl, hown, hbl⟩ := hrel
    obtain ⟨f, rfl⟩ : ∃ g, f = g + 1 := ⟨f - 1, by omega⟩
    have HE := Lib.hid he
    have HO := Lib.hid hown
    have HBL := Lib.hid hbl
    have HDS := Lib.hid hds
    clear he hown hbl hds HX
    by_cases hlt : i < s.size
    · have hb := str_byte s i hlt
      have hst : refG s 16 (f + 1) i ds = (if byteN s i = 95 then (if i + 1 = s.size ∨ byteN s (i + 1) = 95 then none else refG s 16 f (i + 1) ds)
         else if digitW (byteN s i) < 16 then refG s 16 f (i + 1) (ds ++ [digitW (byteN s i)]) else none) := by rw [refG, if_pos hlt]
      have hc := byteN_lt s i
      generalize byteN s i = c at *
      by_cases h95 : c = 95
      · subst h95
        rw [if_pos rfl] at hst
        by_cases hend : i + 1 = s.size
        · rw [if_pos (.inl hend)] at hst
          have HN : Hid (X = none) := Lib.hid (by rw [HE.out, hst])
          have hee : ((i : Int) + 1 == (s.size : Int)) = true := by simp; omega
          have hee2 : (((i + 1 : Nat) : Int) == (s.size : Int)) = true := by simp; omega
          clear hst hend
          go_wp2_with fail
          go_ret2
          exact ⟨by rw [HN.out]; rfl, HBL.out⟩
        · have hee : ((i : Int) + 1 == (s.size : Int)) = false := by simp; omega
          have hil : i + 1 < s.size := by omega
          have hil2 : (i : Int) + 1 < s.size := by omega
          have hb2 := str_byte s (i + 1) hil
          generalize byteN s (i + 1) = c2 at *
          by_cases h952 : c2 = 95
          · subst h952
            rw [if_pos (.inr rfl)] at hst
            have HN : Hid (X = none) := Lib.hid (by rw [HE.out, hst])
            clear hst hend
            go_wp2_with fail
            go_ret2
            exact ⟨by rw [HN.out]; rfl, HBL.out⟩
          · rw [if_neg (by omega)] at hst
            have HN : Hid (X = refG s 16 f (i + 1) ds) := Lib.hid (by rw [HE.out, hst])
            have hne : ((c2 : Int) == 95) = false := by simp; omega
            clear hst hend
            go_wp2_with fail
            go_roundw
            case rel => exact ⟨f, i + 1, ds, by go_num, by omega, by omega, HN.out, HDS.out, by omega, HO.out, HBL.out⟩
            case measure => simp [intOf]; omega
      · rw [if_neg h95] at hst
        have hne : ((c : Int) == 95) = false := by simp; omega
        have hdg := fun w => rdigit_any c hc w
        by_cases hdb : digitW c < 16
        · rw [if_pos hdb] at hst
          have HN : Hid (X = refG s 16 f (i + 1) (ds ++ [digitW c])) := Lib.hid (by rw [HE.out, hst])
          clear hst
          generalize digitW c = dw at *
          go_wp2_with (first
            | (go_at_call 21; with_reducible refine Calls.mono (hdg _) ?_; rintro e w2 ⟨rfl, hw2⟩; replace hw2 := hw2.symm; subst hw2)
            | (at_builtin; refine wpList_append_own _ rfl _ _ 37 rfl w.heap.size 3 i0 (.int .i64 0) 1 8 Try.underlying37 hi0 hz0 hz1 hz2 rfl (by decide) _ _ _ rfl (HO.out.alloc _) ⟨wr.heap.size, 0, none⟩ 1 1 [.int .i64 (dw : Int)] rfl rfl newsN ?c2 ?c3 ?c4 ?c5 ?_))
          case c2 => intro u hu; simp at hu; subst hu; rfl
          case c3 => unfold maxLen; omega
          case c4 => omega
          case c5 => have := HBL.out.size; simp; omega
          intro v' w1 hown' hgrow _
          have HO4 : Hid (w1.ownsRow w.heap.size 3 1 v' (ds ++ [dw]).length (i64s (ds ++ [dw]))) := Lib.hid (by simpa [i64s] using hown')
          have HB4 : Hid (Below w.heap.size w w1) := Lib.hid (append64_below HBL.out HO.out (by have := HBL.out.size; omega) hgrow)
          clear hown' hgrow
          go_wp2_with fail
          go_roundw
          case rel =>
            refine ⟨f, i + 1, ds ++ [dw], by go_num, by omega, by omega, HN.out, ?_, by simp; omega, HO4.out, HB4.out⟩
            intro x hx
            rcases List.mem_append.1 hx with h | h
            · exact HDS.out x h
            · simp at h; omega
          case measure => simp [intOf]; omega
        · rw [if_neg hdb] at hst
          have HN : Hid (X = none) := Lib.hid (by rw [HE.out, hst])
          clear hst
          have hdb2 : decide (16 ≤ digitW c) = true := by simp; omega
          have hdb3 : decide ((16 : Int) ≤ (digitW c : Int)) = true := by simp; omega
          generalize digitW c = dw at *
          go_wp2_with (first
            | (go_at_call 21; with_reducible refine Calls.mono (hdg _) ?_; rintro e w2 ⟨rfl, hw2⟩; replace hw2 := hw2.symm; subst hw2))
          go_ret2
          exact ⟨by rw [HN.out]; rfl, HBL.out⟩
    · have hie : i = s.size := by omega
      have hst : refG s 16 (f + 1) i ds = if ds = [] then none else some ds := by rw [refG, if_neg hlt]
      obtain ⟨ra, rc, rfl⟩ := row_slice HO.out
      by_cases hnil : ds = []
      · subst hnil
        have HN : Hid (X = none) := Lib.hid (by rw [HE.out, hst]; rfl)
        clear hst
        go_wp2_with fail
        go_ret2
        exact ⟨by rw [HN.out]; rfl, HBL.out⟩
      · have HN : Hid (X = some ds) := Lib.hid (by rw [HE.out, hst, if_neg hnil])
        have hdc := decimal_ref _ _ ds 16 wr HO.out HDS.out (by omega) (by omega) (by omega)
        have hln : ((ds.length : Int) == 0) = false := by simp [hnil]
        have hlp : 0 < ds.length := List.length_pos_iff.2 hnil
        rw [show ((16 : Nat) : Int) = 16 from rfl] at hdc
        clear hst hie
        go_wp2_with (go_at_call 22; with_reducible refine Calls.mono hdc ?_; rintro e w2 ⟨rfl, hb2⟩; have HB2 := Lib.hid hb2; clear hb2 hdc)
        go_ret2
        exact ⟨by rw [HN.out]; rfl, HBL.out.trans (HB2.out.mono HBL.out.size)⟩

set_option maxHeartbeats 6400000 in
theorem refnum_98 (s : ByteArray) (w : World) (hs : s.size ≤ 200) (h : 1 < s.size) (h0 : byteN s 0 = 48) (h1 : byteN s 1 = 98) :
    Calls Try.prog 9 #[.string s] w fun e w' => RefP 2 (refG s 2 (s.size + 1) 2 []) e ∧ Below w.heap.size w w' := by
  obtain ⟨i0, hi0, hz0, hz1, hz2⟩ := info_parts info64
  have hx0 := str_byte s 0 (by omega)
  have hl0 : ¬ s.toList = [] := by
    intro h
    rw [Lib.toList_data] at h
    have := congrArg List.length h
    have h2 : s.size = 0 := by simpa using this
    omega
  have hem : s.toList.isEmpty = false := by simp [hl0]
  have hz : ((s.size : Int) == 0) = false := by rw [beq_eq_false_iff_ne]; omega
  have hx1 := str_byte s 1 (by omega)
  have hd1 : decide ((1 : Int) < (s.size : Int)) = true := by simp; omega
  have hl1 : (1 : Int) < s.size := by omega
  rw [h0] at hx0
  rw [h1] at hx1
  generalize hX : refG s 2 (s.size + 1) 2 [] = X
  have HX := Lib.hid hX
  clear hX
  go_enter Try.func9, Try.ntmps9
  go_wp2_with fail
  go_loopw [6, 7] (fun lv iv wr => ∃ (f i : Nat) (ds : List Nat), iv = .int .i64 i ∧ i ≤ s.size ∧ s.size < f + i ∧ X = refG s 2 f i ds ∧ (∀ d ∈ ds, d < 2) ∧ ds.length ≤ i ∧ wr.ownsRow w.heap.size 3 1 lv ds.length (i64s ds) ∧ Below w.heap.size w wr) (fun _ iv _ => s.size - (intOf iv).toNat)
  case atStart => exact ⟨s.size + 1, 2, [], rfl, by omega, by omega, HX.out.symm, by simp, by simp, World.ownsRow_nil _ _ _ _, Below.refl _ _⟩
  case round =>
    obtain ⟨f, i, ds, rfl, hi, hf, he, hds, hdl, hown, hbl⟩ := hrel
    obtain ⟨f, rfl⟩ : ∃ g, f = g + 1 := ⟨f - 1, by omega⟩
    have HE := Lib.hid he
    have HO := Lib.hid hown
    have HBL := Lib.hid hbl
    have HDS := Lib.hid hds
    clear he hown hbl hds HX
    by_cases hlt : i < s.size
    · have hb := str_byte s i hlt
      have hst : refG s 2 (f + 1) i ds = (if byteN s i = 95 then (if i + 1 = s.size ∨ byteN s (i + 1) = 95 then none else refG s 2 f (i + 1) ds)
         else if digitW (byteN s i) < 2 then refG s 2 f (i + 1) (ds ++ [digitW (byteN s i)]) else none) := by rw [refG, if_pos hlt]
      have hc := byteN_lt s i
      generalize byteN s i = c at *
      by_cases h95 : c = 95
      · subst h95
        rw [if_pos rfl] at hst
        by_cases hend : i + 1 = s.size
        · rw [if_pos (.inl hend)] at hst
          have HN : Hid (X = none) := Lib.hid (by rw [HE.out, hst])
          have hee : ((i : Int) + 1 == (s.size : Int)) = true := by simp; omega
          have hee2 : (((i + 1 : Nat) : Int) == (s.size : Int)) = true := by simp; omega
          clear hst hend
          go_wp2_with fail
          go_ret2
          exact ⟨by rw [HN.out]; rfl, HBL.out⟩
        · have hee : ((i : Int) + 1 == (s.size : Int)) = false := by simp; omega
          have hil : i + 1 < s.size := by omega
          have hil2 : (i : Int) + 1 < s.size := by omega
          have hb2 := str_byte s (i + 1) hil
          generalize byteN s (i + 1) = c2 at *
          by_cases h952 : c2 = 95
          · subst h952
            rw [if_pos (.inr rfl)] at hst
            have HN : Hid (X = none) := Lib.hid (by rw [HE.out, hst])
            clear hst hend
            go_wp2_with fail
            go_ret2
            exact ⟨by rw [HN.out]; rfl, HBL.out⟩
          · rw [if_neg (by omega)] at hst
            have HN : Hid (X = refG s 2 f (i + 1) ds) := Lib.hid (by rw [HE.out, hst])
            have hne : ((c2 : Int) == 95) = false := by simp; omega
            clear hst hend
            go_wp2_with fail
            go_roundw
            case rel => exact ⟨f, i + 1, ds, by go_num, by omega, by omega, HN.out, HDS.out, by omega, HO.out, HBL.out⟩
            case measure => simp [intOf]; omega
      · rw [if_neg h95] at hst
        have hne : ((c : Int) == 95) = false := by simp; omega
        have hdg := fun w => rdigit_any c hc w
        by_cases hdb : digitW c < 2
        · rw [if_pos hdb] at hst
          have HN : Hid (X = refG s 2 f (i + 1) (ds ++ [digitW c])) := Lib.hid (by rw [HE.out, hst])
          clear hst
          generalize digitW c = dw at *
          go_wp2_with (first
            | (go_at_call 21; with_reducible refine Calls.mono (hdg _) ?_; rintro e w2 ⟨rfl, hw2⟩; replace hw2 := hw2.symm; subst hw2)
            | (at_builtin; refine wpList_append_own _ rfl _ _ 37 rfl w.heap.size 3 i0 (.int .i64 0) 1 8 Try.underlying37 hi0 hz0 hz1 hz2 rfl (by decide) _ _ _ rfl (HO.out.alloc _) ⟨wr.heap.size, 0, none⟩ 1 1 [.int .i64 (dw : Int)] rfl rfl newsN ?c2 ?c3 ?c4 ?c5 ?_))
          case c2 => intro u hu; simp at hu; subst hu; rfl
          case c3 => unfold maxLen; omega
          case c4 => omega
          case c5 => have := HBL.out.size; simp; omega
          intro v' w1 hown' hgrow _
          have HO4 : Hid (w1.ownsRow w.heap.size 3 1 v' (ds ++ [dw]).length (i64s (ds ++ [dw]))) := Lib.hid (by simpa [i64s] using hown')
          have HB4 : Hid (Below w.heap.size w w1) := Lib.hid (append64_below HBL.out HO.out (by have := HBL.out.size; omega) hgrow)
          clear hown' hgrow
          go_wp2_with fail
          go_roundw
          case rel =>
            refine ⟨f, i + 1, ds ++ [dw], by go_num, by omega, by omega, HN.out, ?_, by simp; omega, HO4.out, HB4.out⟩
            intro x hx
            rcases List.mem_append.1 hx with h | h
            · exact HDS.out x h
            · simp at h; omega
          case measure => simp [intOf]; omega
        · rw [if_neg hdb] at hst
          have HN : Hid (X = none) := Lib.hid (by rw [HE.out, hst])
          clear hst
          have hdb2 : decide (2 ≤ digitW c) = true := by simp; omega
          have hdb3 : decide ((2 : Int) ≤ (digitW c : Int)) = true := by simp; omega
          generalize digitW c = dw at *
          go_wp2_with (first
            | (go_at_call 21; with_reducible refine Calls.mono (hdg _) ?_; rintro e w2 ⟨rfl, hw2⟩; replace hw2 := hw2.symm; subst hw2))
          go_ret2
          exact ⟨by rw [HN.out]; rfl, HBL.out⟩
    · have hie : i = s.size := by omega
      have hst : refG s 2 (f + 1) i ds = if ds = [] then none else some ds := by rw [refG, if_neg hlt]
      obtain ⟨ra, rc, rfl⟩ := row_slice HO.out
      by_cases hnil : ds = []
      · subst hnil
        have HN : Hid (X = none) := Lib.hid (by rw [HE.out, hst]; rfl)
        clear hst
        go_wp2_with fail
        go_ret2
        exact ⟨by rw [HN.out]; rfl, HBL.out⟩
      · have HN : Hid (X = some ds) := Lib.hid (by rw [HE.out, hst, if_neg hnil])
        have hdc := decimal_ref _ _ ds 2 wr HO.out HDS.out (by omega) (by omega) (by omega)
        have hln : ((ds.length : Int) == 0) = false := by simp [hnil]
        have hlp : 0 < ds.length := List.length_pos_iff.2 hnil
        rw [show ((2 : Nat) : Int) = 2 from rfl] at hdc
        clear hst hie
        go_wp2_with (go_at_call 22; with_reducible refine Calls.mono hdc ?_; rintro e w2 ⟨rfl, hb2⟩; have HB2 := Lib.hid hb2; clear hb2 hdc)
        go_ret2
        exact ⟨by rw [HN.out]; rfl, HBL.out.trans (HB2.out.mono HBL.out.size)⟩

set_option maxHeartbeats 6400000 in
theorem refnum_66 (s : ByteArray) (w : World) (hs : s.size ≤ 200) (h : 1 < s.size) (h0 : byteN s 0 = 48) (h1 : byteN s 1 = 66) :
    Calls Try.prog 9 #[.string s] w fun e w' => RefP 2 (refG s 2 (s.size + 1) 2 []) e ∧ Below w.heap.size w w' := by
  obtain ⟨i0, hi0, hz0, hz1, hz2⟩ := info_parts info64
  have hx0 := str_byte s 0 (by omega)
  have hl0 : ¬ s.toList = [] := by
    intro h
    rw [Lib.toList_data] at h
    have := congrArg List.length h
    have h2 : s.size = 0 := by simpa using this
    omega
  have hem : s.toList.isEmpty = false := by simp [hl0]
  have hz : ((s.size : Int) == 0) = false := by rw [beq_eq_false_iff_ne]; omega
  have hx1 := str_byte s 1 (by omega)
  have hd1 : decide ((1 : Int) < (s.size : Int)) = true := by simp; omega
  have hl1 : (1 : Int) < s.size := by omega
  rw [h0] at hx0
  rw [h1] at hx1
  generalize hX : refG s 2 (s.size + 1) 2 [] = X
  have HX := Lib.hid hX
  clear hX
  go_enter Try.func9, Try.ntmps9
  go_wp2_with fail
  go_loopw [6, 7] (fun lv iv wr => ∃ (f i : Nat) (ds : List Nat), iv = .int .i64 i ∧ i ≤ s.size ∧ s.size < f + i ∧ X = refG s 2 f i ds ∧ (∀ d ∈ ds, d < 2) ∧ ds.length ≤ i ∧ wr.ownsRow w.heap.size 3 1 lv ds.length (i64s ds) ∧ Below w.heap.size w wr) (fun _ iv _ => s.size - (intOf iv).toNat)
  case atStart => exact ⟨s.size + 1, 2, [], rfl, by omega, by omega, HX.out.symm, by simp, by simp, World.ownsRow_nil _ _ _ _, Below.refl _ _⟩
  case round =>
    obtain ⟨f, i, ds, rfl, hi, hf, he, hds, hdl, hown, hbl⟩ := hrel
    obtain ⟨f, rfl⟩ : ∃ g, f = g + 1 := ⟨f - 1, by omega⟩
    have HE := Lib.hid he
    have HO := Lib.hid hown
    have HBL := Lib.hid hbl
    have HDS := Lib.hid hds
    clear he hown hbl hds HX
    by_cases hlt : i < s.size
    · have hb := str_byte s i hlt
      have hst : refG s 2 (f + 1) i ds = (if byteN s i = 95 then (if i + 1 = s.size ∨ byteN s (i + 1) = 95 then none else refG s 2 f (i + 1) ds)
         else if digitW (byteN s i) < 2 then refG s 2 f (i + 1) (ds ++ [digitW (byteN s i)]) else none) := by rw [refG, if_pos hlt]
      have hc := byteN_lt s i
      generalize byteN s i = c at *
      by_cases h95 : c = 95
      · subst h95
        rw [if_pos rfl] at hst
        by_cases hend : i + 1 = s.size
        · rw [if_pos (.inl hend)] at hst
          have HN : Hid (X = none) := Lib.hid (by rw [HE.out, hst])
          have hee : ((i : Int) + 1 == (s.size : Int)) = true := by simp; omega
          have hee2 : (((i + 1 : Nat) : Int) == (s.size : Int)) = true := by simp; omega
          clear hst hend
          go_wp2_with fail
          go_ret2
          exact ⟨by rw [HN.out]; rfl, HBL.out⟩
        · have hee : ((i : Int) + 1 == (s.size : Int)) = false := by simp; omega
          have hil : i + 1 < s.size := by omega
          have hil2 : (i : Int) + 1 < s.size := by omega
          have hb2 := str_byte s (i + 1) hil
          generalize byteN s (i + 1) = c2 at *
          by_cases h952 : c2 = 95
          · subst h952
            rw [if_pos (.inr rfl)] at hst
            have HN : Hid (X = none) := Lib.hid (by rw [HE.out, hst])
            clear hst hend
            go_wp2_with fail
            go_ret2
            exact ⟨by rw [HN.out]; rfl, HBL.out⟩
          · rw [if_neg (by omega)] at hst
            have HN : Hid (X = refG s 2 f (i + 1) ds) := Lib.hid (by rw [HE.out, hst])
            have hne : ((c2 : Int) == 95) = false := by simp; omega
            clear hst hend
            go_wp2_with fail
            go_roundw
            case rel => exact ⟨f, i + 1, ds, by go_num, by omega, by omega, HN.out, HDS.out, by omega, HO.out, HBL.out⟩
            case measure => simp [intOf]; omega
      · rw [if_neg h95] at hst
        have hne : ((c : Int) == 95) = false := by simp; omega
        have hdg := fun w => rdigit_any c hc w
        by_cases hdb : digitW c < 2
        · rw [if_pos hdb] at hst
          have HN : Hid (X = refG s 2 f (i + 1) (ds ++ [digitW c])) := Lib.hid (by rw [HE.out, hst])
          clear hst
          generalize digitW c = dw at *
          go_wp2_with (first
            | (go_at_call 21; with_reducible refine Calls.mono (hdg _) ?_; rintro e w2 ⟨rfl, hw2⟩; replace hw2 := hw2.symm; subst hw2)
            | (at_builtin; refine wpList_append_own _ rfl _ _ 37 rfl w.heap.size 3 i0 (.int .i64 0) 1 8 Try.underlying37 hi0 hz0 hz1 hz2 rfl (by decide) _ _ _ rfl (HO.out.alloc _) ⟨wr.heap.size, 0, none⟩ 1 1 [.int .i64 (dw : Int)] rfl rfl newsN ?c2 ?c3 ?c4 ?c5 ?_))
          case c2 => intro u hu; simp at hu; subst hu; rfl
          case c3 => unfold maxLen; omega
          case c4 => omega
          case c5 => have := HBL.out.size; simp; omega
          intro v' w1 hown' hgrow _
          have HO4 : Hid (w1.ownsRow w.heap.size 3 1 v' (ds ++ [dw]).length (i64s (ds ++ [dw]))) := Lib.hid (by simpa [i64s] using hown')
          have HB4 : Hid (Below w.heap.size w w1) := Lib.hid (append64_below HBL.out HO.out (by have := HBL.out.size; omega) hgrow)
          clear hown' hgrow
          go_wp2_with fail
          go_roundw
          case rel =>
            refine ⟨f, i + 1, ds ++ [dw], by go_num, by omega, by omega, HN.out, ?_, by simp; omega, HO4.out, HB4.out⟩
            intro x hx
            rcases List.mem_append.1 hx with h | h
            · exact HDS.out x h
            · simp at h; omega
          case measure => simp [intOf]; omega
        · rw [if_neg hdb] at hst
          have HN : Hid (X = none) := Lib.hid (by rw [HE.out, hst])
          clear hst
          have hdb2 : decide (2 ≤ digitW c) = true := by simp; omega
          have hdb3 : decide ((2 : Int) ≤ (digitW c : Int)) = true := by simp; omega
          generalize digitW c = dw at *
          go_wp2_with (first
            | (go_at_call 21; with_reducible refine Calls.mono (hdg _) ?_; rintro e w2 ⟨rfl, hw2⟩; replace hw2 := hw2.symm; subst hw2))
          go_ret2
          exact ⟨by rw [HN.out]; rfl, HBL.out⟩
    · have hie : i = s.size := by omega
      have hst : refG s 2 (f + 1) i ds = if ds = [] then none else some ds := by rw [refG, if_neg hlt]
      obtain ⟨ra, rc, rfl⟩ := row_slice HO.out
      by_cases hnil : ds = []
      · subst hnil
        have HN : Hid (X = none) := Lib.hid (by rw [HE.out, hst]; rfl)
        clear hst
        go_wp2_with fail
        go_ret2
        exact ⟨by rw [HN.out]; rfl, HBL.out⟩
      · have HN : Hid (X = some ds) := Lib.hid (by rw [HE.out, hst, if_neg hnil])
        have hdc := decimal_ref _ _ ds 2 wr HO.out HDS.out (by omega) (by omega) (by omega)
        have hln : ((ds.length : Int) == 0) = false := by simp [hnil]
        have hlp : 0 < ds.length := List.length_pos_iff.2 hnil
        rw [show ((2 : Nat) : Int) = 2 from rfl] at hdc
        clear hst hie
        go_wp2_with (go_at_call 22; with_reducible refine Calls.mono hdc ?_; rintro e w2 ⟨rfl, hb2⟩; have HB2 := Lib.hid hb2; clear hb2 hdc)
        go_ret2
        exact ⟨by rw [HN.out]; rfl, HBL.out.trans (HB2.out.mono HBL.out.size)⟩

set_option maxHeartbeats 6400000 in
theorem refnum_111 (s : ByteArray) (w : World) (hs : s.size ≤ 200) (h : 1 < s.size) (h0 : byteN s 0 = 48) (h1 : byteN s 1 = 111) :
    Calls Try.prog 9 #[.string s] w fun e w' => RefP 8 (refG s 8 (s.size + 1) 2 []) e ∧ Below w.heap.size w w' := by
  obtain ⟨i0, hi0, hz0, hz1, hz2⟩ := info_parts info64
  have hx0 := str_byte s 0 (by omega)
  have hl0 : ¬ s.toList = [] := by
    intro h
    rw [Lib.toList_data] at h
    have := congrArg List.length h
    have h2 : s.size = 0 := by simpa using this
    omega
  have hem : s.toList.isEmpty = false := by simp [hl0]
  have hz : ((s.size : Int) == 0) = false := by rw [beq_eq_false_iff_ne]; omega
  have hx1 := str_byte s 1 (by omega)
  have hd1 : decide ((1 : Int) < (s.size : Int)) = true := by simp; omega
  have hl1 : (1 : Int) < s.size := by omega
  rw [h0] at hx0
  rw [h1] at hx1
  generalize hX : refG s 8 (s.size + 1) 2 [] = X
  have HX := Lib.hid hX
  clear hX
  go_enter Try.func9, Try.ntmps9
  go_wp2_with fail
  go_loopw [6, 7] (fun lv iv wr => ∃ (f i : Nat) (ds : List Nat), iv = .int .i64 i ∧ i ≤ s.size ∧ s.size < f + i ∧ X = refG s 8 f i ds ∧ (∀ d ∈ ds, d < 8) ∧ ds.length ≤ i ∧ wr.ownsRow w.heap.size 3 1 lv ds.length (i64s ds) ∧ Below w.heap.size w wr) (fun _ iv _ => s.size - (intOf iv).toNat)
  case atStart => exact ⟨s.size + 1, 2, [], rfl, by omega, by omega, HX.out.symm, by simp, by simp, World.ownsRow_nil _ _ _ _, Below.refl _ _⟩
  case round =>
    obtain ⟨f, i, ds, rfl, hi, hf, he, hds, hdl, hown, hbl⟩ := hrel
    obtain ⟨f, rfl⟩ : ∃ g, f = g + 1 := ⟨f - 1, by omega⟩
    have HE := Lib.hid he
    have HO := Lib.hid hown
    have HBL := Lib.hid hbl
    have HDS := Lib.hid hds
    clear he hown hbl hds HX
    by_cases hlt : i < s.size
    · have hb := str_byte s i hlt
      have hst : refG s 8 (f + 1) i ds = (if byteN s i = 95 then (if i + 1 = s.size ∨ byteN s (i + 1) = 95 then none else refG s 8 f (i + 1) ds)
         else if digitW (byteN s i) < 8 then refG s 8 f (i + 1) (ds ++ [digitW (byteN s i)]) else none) := by rw [refG, if_pos hlt]
      have hc := byteN_lt s i
      generalize byteN s i = c at *
      by_cases h95 : c = 95
      · subst h95
        rw [if_pos rfl] at hst
        by_cases hend : i + 1 = s.size
        · rw [if_pos (.inl hend)] at hst
          have HN : Hid (X = none) := Lib.hid (by rw [HE.out, hst])
          have hee : ((i : Int) + 1 == (s.size : Int)) = true := by simp; omega
          have hee2 : (((i + 1 : Nat) : Int) == (s.size : Int)) = true := by simp; omega
          clear hst hend
          go_wp2_with fail
          go_ret2
          exact ⟨by rw [HN.out]; rfl, HBL.out⟩
        · have hee : ((i : Int) + 1 == (s.size : Int)) = false := by simp; omega
          have hil : i + 1 < s.size := by omega
          have hil2 : (i : Int) + 1 < s.size := by omega
          have hb2 := str_byte s (i + 1) hil
          generalize byteN s (i + 1) = c2 at *
          by_cases h952 : c2 = 95
          · subst h952
            rw [if_pos (.inr rfl)] at hst
            have HN : Hid (X = none) := Lib.hid (by rw [HE.out, hst])
            clear hst hend
            go_wp2_with fail
            go_ret2
            exact ⟨by rw [HN.out]; rfl, HBL.out⟩
          · rw [if_neg (by omega)] at hst
            have HN : Hid (X = refG s 8 f (i + 1) ds) := Lib.hid (by rw [HE.out, hst])
            have hne : ((c2 : Int) == 95) = false := by simp; omega
            clear hst hend
            go_wp2_with fail
            go_roundw
            case rel => exact ⟨f, i + 1, ds, by go_num, by omega, by omega, HN.out, HDS.out, by omega, HO.out, HBL.out⟩
            case measure => simp [intOf]; omega
      · rw [if_neg h95] at hst
        have hne : ((c : Int) == 95) = false := by simp; omega
        have hdg := fun w => rdigit_any c hc w
        by_cases hdb : digitW c < 8
        · rw [if_pos hdb] at hst
          have HN : Hid (X = refG s 8 f (i + 1) (ds ++ [digitW c])) := Lib.hid (by rw [HE.out, hst])
          clear hst
          generalize digitW c = dw at *
          go_wp2_with (first
            | (go_at_call 21; with_reducible refine Calls.mono (hdg _) ?_; rintro e w2 ⟨rfl, hw2⟩; replace hw2 := hw2.symm; subst hw2)
            | (at_builtin; refine wpList_append_own _ rfl _ _ 37 rfl w.heap.size 3 i0 (.int .i64 0) 1 8 Try.underlying37 hi0 hz0 hz1 hz2 rfl (by decide) _ _ _ rfl (HO.out.alloc _) ⟨wr.heap.size, 0, none⟩ 1 1 [.int .i64 (dw : Int)] rfl rfl newsN ?c2 ?c3 ?c4 ?c5 ?_))
          case c2 => intro u hu; simp at hu; subst hu; rfl
          case c3 => unfold maxLen; omega
          case c4 => omega
          case c5 => have := HBL.out.size; simp; omega
          intro v' w1 hown' hgrow _
          have HO4 : Hid (w1.ownsRow w.heap.size 3 1 v' (ds ++ [dw]).length (i64s (ds ++ [dw]))) := Lib.hid (by simpa [i64s] using hown')
          have HB4 : Hid (Below w.heap.size w w1) := Lib.hid (append64_below HBL.out HO.out (by have := HBL.out.size; omega) hgrow)
          clear hown' hgrow
          go_wp2_with fail
          go_roundw
          case rel =>
            refine ⟨f, i + 1, ds ++ [dw], by go_num, by omega, by omega, HN.out, ?_, by simp; omega, HO4.out, HB4.out⟩
            intro x hx
            rcases List.mem_append.1 hx with h | h
            · exact HDS.out x h
            · simp at h; omega
          case measure => simp [intOf]; omega
        · rw [if_neg hdb] at hst
          have HN : Hid (X = none) := Lib.hid (by rw [HE.out, hst])
          clear hst
          have hdb2 : decide (8 ≤ digitW c) = true := by simp; omega
          have hdb3 : decide ((8 : Int) ≤ (digitW c : Int)) = true := by simp; omega
          generalize digitW c = dw at *
          go_wp2_with (first
            | (go_at_call 21; with_reducible refine Calls.mono (hdg _) ?_; rintro e w2 ⟨rfl, hw2⟩; replace hw2 := hw2.symm; subst hw2))
          go_ret2
          exact ⟨by rw [HN.out]; rfl, HBL.out⟩
    · have hie : i = s.size := by omega
      have hst : refG s 8 (f + 1) i ds = if ds = [] then none else some ds := by rw [refG, if_neg hlt]
      obtain ⟨ra, rc, rfl⟩ := row_slice HO.out
      by_cases hnil : ds = []
      · subst hnil
        have HN : Hid (X = none) := Lib.hid (by rw [HE.out, hst]; rfl)
        clear hst
        go_wp2_with fail
        go_ret2
        exact ⟨by rw [HN.out]; rfl, HBL.out⟩
      · have HN : Hid (X = some ds) := Lib.hid (by rw [HE.out, hst, if_neg hnil])
        have hdc := decimal_ref _ _ ds 8 wr HO.out HDS.out (by omega) (by omega) (by omega)
        have hln : ((ds.length : Int) == 0) = false := by simp [hnil]
        have hlp : 0 < ds.length := List.length_pos_iff.2 hnil
        rw [show ((8 : Nat) : Int) = 8 from rfl] at hdc
        clear hst hie
        go_wp2_with (go_at_call 22; with_reducible refine Calls.mono hdc ?_; rintro e w2 ⟨rfl, hb2⟩; have HB2 := Lib.hid hb2; clear hb2 hdc)
        go_ret2
        exact ⟨by rw [HN.out]; rfl, HBL.out.trans (HB2.out.mono HBL.out.size)⟩

set_option maxHeartbeats 6400000 in
theorem refnum_79 (s : ByteArray) (w : World) (hs : s.size ≤ 200) (h : 1 < s.size) (h0 : byteN s 0 = 48) (h1 : byteN s 1 = 79) :
    Calls Try.prog 9 #[.string s] w fun e w' => RefP 8 (refG s 8 (s.size + 1) 2 []) e ∧ Below w.heap.size w w' := by
  obtain ⟨i0, hi0, hz0, hz1, hz2⟩ := info_parts info64
  have hx0 := str_byte s 0 (by omega)
  have hl0 : ¬ s.toList = [] := by
    intro h
    rw [Lib.toList_data] at h
    have := congrArg List.length h
    have h2 : s.size = 0 := by simpa using this
    omega
  have hem : s.toList.isEmpty = false := by simp [hl0]
  have hz : ((s.size : Int) == 0) = false := by rw [beq_eq_false_iff_ne]; omega
  have hx1 := str_byte s 1 (by omega)
  have hd1 : decide ((1 : Int) < (s.size : Int)) = true := by simp; omega
  have hl1 : (1 : Int) < s.size := by omega
  rw [h0] at hx0
  rw [h1] at hx1
  generalize hX : refG s 8 (s.size + 1) 2 [] = X
  have HX := Lib.hid hX
  clear hX
  go_enter Try.func9, Try.ntmps9
  go_wp2_with fail
  go_loopw [6, 7] (fun lv iv wr => ∃ (f i : Nat) (ds : List Nat), iv = .int .i64 i ∧ i ≤ s.size ∧ s.size < f + i ∧ X = refG s 8 f i ds ∧ (∀ d ∈ ds, d < 8) ∧ ds.length ≤ i ∧ wr.ownsRow w.heap.size 3 1 lv ds.length (i64s ds) ∧ Below w.heap.size w wr) (fun _ iv _ => s.size - (intOf iv).toNat)
  case atStart => exact ⟨s.size + 1, 2, [], rfl, by omega, by omega, HX.out.symm, by simp, by simp, World.ownsRow_nil _ _ _ _, Below.refl _ _⟩
  case round =>
    obtain ⟨f, i, ds, rfl, hi, hf, he, hds, hdl, hown, hbl⟩ := hrel
    obtain ⟨f, rfl⟩ : ∃ g, f = g + 1 := ⟨f - 1, by omega⟩
    have HE := Lib.hid he
    have HO := Lib.hid hown
    have HBL := Lib.hid hbl
    have HDS := Lib.hid hds
    clear he hown hbl hds HX
    by_cases hlt : i < s.size
    · have hb := str_byte s i hlt
      have hst : refG s 8 (f + 1) i ds = (if byteN s i = 95 then (if i + 1 = s.size ∨ byteN s (i + 1) = 95 then none else refG s 8 f (i + 1) ds)
         else if digitW (byteN s i) < 8 then refG s 8 f (i + 1) (ds ++ [digitW (byteN s i)]) else none) := by rw [refG, if_pos hlt]
      have hc := byteN_lt s i
      generalize byteN s i = c at *
      by_cases h95 : c = 95
      · subst h95
        rw [if_pos rfl] at hst
        by_cases hend : i + 1 = s.size
        · rw [if_pos (.inl hend)] at hst
          have HN : Hid (X = none) := Lib.hid (by rw [HE.out, hst])
          have hee : ((i : Int) + 1 == (s.size : Int)) = true := by simp; omega
          have hee2 : (((i + 1 : Nat) : Int) == (s.size : Int)) = true := by simp; omega
          clear hst hend
          go_wp2_with fail
          go_ret2
          exact ⟨by rw [HN.out]; rfl, HBL.out⟩
        · have hee : ((i : Int) + 1 == (s.size : Int)) = false := by simp; omega
          have hil : i + 1 < s.size := by omega
          have hil2 : (i : Int) + 1 < s.size := by omega
          have hb2 := str_byte s (i + 1) hil
          generalize byteN s (i + 1) = c2 at *
          by_cases h952 : c2 = 95
          · subst h952
            rw [if_pos (.inr rfl)] at hst
            have HN : Hid (X = none) := Lib.hid (by rw [HE.out, hst])
            clear hst hend
            go_wp2_with fail
            go_ret2
            exact ⟨by rw [HN.out]; rfl, HBL.out⟩
          · rw [if_neg (by omega)] at hst
            have HN : Hid (X = refG s 8 f (i + 1) ds) := Lib.hid (by rw [HE.out, hst])
            have hne : ((c2 : Int) == 95) = false := by simp; omega
            clear hst hend
            go_wp2_with fail
            go_roundw
            case rel => exact ⟨f, i + 1, ds, by go_num, by omega, by omega, HN.out, HDS.out, by omega, HO.out, HBL.out⟩
            case measure => simp [intOf]; omega
      · rw [if_neg h95] at hst
        have hne : ((c : Int) == 95) = false := by simp; omega
        have hdg := fun w => rdigit_any c hc w
        by_cases hdb : digitW c < 8
        · rw [if_pos hdb] at hst
          have HN : Hid (X = refG s 8 f (i + 1) (ds ++ [digitW c])) := Lib.hid (by rw [HE.out, hst])
          clear hst
          generalize digitW c = dw at *
          go_wp2_with (first
            | (go_at_call 21; with_reducible refine Calls.mono (hdg _) ?_; rintro e w2 ⟨rfl, hw2⟩; replace hw2 := hw2.symm; subst hw2)
            | (at_builtin; refine wpList_append_own _ rfl _ _ 37 rfl w.heap.size 3 i0 (.int .i64 0) 1 8 Try.underlying37 hi0 hz0 hz1 hz2 rfl (by decide) _ _ _ rfl (HO.out.alloc _) ⟨wr.heap.size, 0, none⟩ 1 1 [.int .i64 (dw : Int)] rfl rfl newsN ?c2 ?c3 ?c4 ?c5 ?_))
          case c2 => intro u hu; simp at hu; subst hu; rfl
          case c3 => unfold maxLen; omega
          case c4 => omega
          case c5 => have := HBL.out.size; simp; omega
          intro v' w1 hown' hgrow _
          have HO4 : Hid (w1.ownsRow w.heap.size 3 1 v' (ds ++ [dw]).length (i64s (ds ++ [dw]))) := Lib.hid (by simpa [i64s] using hown')
          have HB4 : Hid (Below w.heap.size w w1) := Lib.hid (append64_below HBL.out HO.out (by have := HBL.out.size; omega) hgrow)
          clear hown' hgrow
          go_wp2_with fail
          go_roundw
          case rel =>
            refine ⟨f, i + 1, ds ++ [dw], by go_num, by omega, by omega, HN.out, ?_, by simp; omega, HO4.out, HB4.out⟩
            intro x hx
            rcases List.mem_append.1 hx with h | h
            · exact HDS.out x h
            · simp at h; omega
          case measure => simp [intOf]; omega
        · rw [if_neg hdb] at hst
          have HN : Hid (X = none) := Lib.hid (by rw [HE.out, hst])
          clear hst
          have hdb2 : decide (8 ≤ digitW c) = true := by simp; omega
          have hdb3 : decide ((8 : Int) ≤ (digitW c : Int)) = true := by simp; omega
          generalize digitW c = dw at *
          go_wp2_with (first
            | (go_at_call 21; with_reducible refine Calls.mono (hdg _) ?_; rintro e w2 ⟨rfl, hw2⟩; replace hw2 := hw2.symm; subst hw2))
          go_ret2
          exact ⟨by rw [HN.out]; rfl, HBL.out⟩
    · have hie : i = s.size := by omega
      have hst : refG s 8 (f + 1) i ds = if ds = [] then none else some ds := by rw [refG, if_neg hlt]
      obtain ⟨ra, rc, rfl⟩ := row_slice HO.out
      by_cases hnil : ds = []
      · subst hnil
        have HN : Hid (X = none) := Lib.hid (by rw [HE.out, hst]; rfl)
        clear hst
        go_wp2_with fail
        go_ret2
        exact ⟨by rw [HN.out]; rfl, HBL.out⟩
      · have HN : Hid (X = some ds) := Lib.hid (by rw [HE.out, hst, if_neg hnil])
        have hdc := decimal_ref _ _ ds 8 wr HO.out HDS.out (by omega) (by omega) (by omega)
        have hln : ((ds.length : Int) == 0) = false := by simp [hnil]
        have hlp : 0 < ds.length := List.length_pos_iff.2 hnil
        rw [show ((8 : Nat) : Int) = 8 from rfl] at hdc
        clear hst hie
        go_wp2_with (go_at_call 22; with_reducible refine Calls.mono hdc ?_; rintro e w2 ⟨rfl, hb2⟩; have HB2 := Lib.hid hb2; clear hb2 hdc)
        go_ret2
        exact ⟨by rw [HN.out]; rfl, HBL.out.trans (HB2.out.mono HBL.out.size)⟩

set_option maxHeartbeats 6400000 in
theorem refnum_8 (s : ByteArray) (w : World) (hs : s.size ≤ 200) (h : 1 < s.size) (h0 : byteN s 0 = 48) (h1 : byteN s 1 ≠ 120 ∧ byteN s 1 ≠ 88 ∧ byteN s 1 ≠ 98 ∧ byteN s 1 ≠ 66 ∧ byteN s 1 ≠ 111 ∧ byteN s 1 ≠ 79) :
    Calls Try.prog 9 #[.string s] w fun e w' => RefP 8 (refG s 8 (s.size + 1) 1 []) e ∧ Below w.heap.size w w' := by
  obtain ⟨i0, hi0, hz0, hz1, hz2⟩ := info_parts info64
  have hx0 := str_byte s 0 (by omega)
  have hl0 : ¬ s.toList = [] := by
    intro h
    rw [Lib.toList_data] at h
    have := congrArg List.length h
    have h2 : s.size = 0 := by simpa using this
    omega
  have hem : s.toList.isEmpty = false := by simp [hl0]
  have hz : ((s.size : Int) == 0) = false := by rw [beq_eq_false_iff_ne]; omega
  have hx1 := str_byte s 1 (by omega)
  have hd1 : decide ((1 : Int) < (s.size : Int)) = true := by simp; omega
  have hl1 : (1 : Int) < s.size := by omega
  rw [h0] at hx0
  generalize byteN s 1 = c1 at *
  have m120 : ((c1 : Int) == 120) = false := by simp; omega
  have m88 : ((c1 : Int) == 88) = false := by simp; omega
  have m98 : ((c1 : Int) == 98) = false := by simp; omega
  have m66 : ((c1 : Int) == 66) = false := by simp; omega
  have m111 : ((c1 : Int) == 111) = false := by simp; omega
  have m79 : ((c1 : Int) == 79) = false := by simp; omega
  generalize hX : refG s 8 (s.size + 1) 1 [] = X
  have HX := Lib.hid hX
  clear hX
  go_enter Try.func9, Try.ntmps9
  go_wp2_with fail
  go_loopw [6, 7] (fun lv iv wr => ∃ (f i : Nat) (ds : List Nat), iv = .int .i64 i ∧ i ≤ s.size ∧ s.size < f + i ∧ X = refG s 8 f i ds ∧ (∀ d ∈ ds, d < 8) ∧ ds.length ≤ i ∧ wr.ownsRow w.heap.size 3 1 lv ds.length (i64s ds) ∧ Below w.heap.size w wr) (fun _ iv _ => s.size - (intOf iv).toNat)
  case atStart => exact ⟨s.size + 1, 1, [], rfl, by omega, by omega, HX.out.symm, by simp, by simp, World.ownsRow_nil _ _ _ _, Below.refl _ _⟩
  case round =>
    obtain ⟨f, i, ds, rfl, hi, hf, he, hds, hdl, hown, hbl⟩ := hrel
    obtain ⟨f, rfl⟩ : ∃ g, f = g + 1 := ⟨f - 1, by omega⟩
    have HE := Lib.hid he
    have HO := Lib.hid hown
    have HBL := Lib.hid hbl
    have HDS := Lib.hid hds
    clear he hown hbl hds HX
    by_cases hlt : i < s.size
    · have hb := str_byte s i hlt
      have hst : refG s 8 (f + 1) i ds = (if byteN s i = 95 then (if i + 1 = s.size ∨ byteN s (i + 1) = 95 then none else refG s 8 f (i + 1) ds)
         else if digitW (byteN s i) < 8 then refG s 8 f (i + 1) (ds ++ [digitW (byteN s i)]) else none) := by rw [refG, if_pos hlt]
      have hc := byteN_lt s i
      generalize byteN s i = c at *
      by_cases h95 : c = 95
      · subst h95
        rw [if_pos rfl] at hst
        by_cases hend : i + 1 = s.size
        · rw [if_pos (.inl hend)] at hst
          have HN : Hid (X = none) := Lib.hid (by rw [HE.out, hst])
          have hee : ((i : Int) + 1 == (s.size : Int)) = true := by simp; omega
          have hee2 : (((i + 1 : Nat) : Int) == (s.size : Int)) = true := by simp; omega
          clear hst hend
          go_wp2_with fail
          go_ret2
          exact ⟨by rw [HN.out]; rfl, HBL.out⟩
        · have hee : ((i : Int) + 1 == (s.size : Int)) = false := by simp; omega
          have hil : i + 1 < s.size := by omega
          have hil2 : (i : Int) + 1 < s.size := by omega
          have hb2 := str_byte s (i + 1) hil
          generalize byteN s (i + 1) = c2 at *
          by_cases h952 : c2 = 95
          · subst h952
            rw [if_pos (.inr rfl)] at hst
            have HN : Hid (X = none) := Lib.hid (by rw [HE.out, hst])
            clear hst hend
            go_wp2_with fail
            go_ret2
            exact ⟨by rw [HN.out]; rfl, HBL.out⟩
          · rw [if_neg (by omega)] at hst
            have HN : Hid (X = refG s 8 f (i + 1) ds) := Lib.hid (by rw [HE.out, hst])
            have hne : ((c2 : Int) == 95) = false := by simp; omega
            clear hst hend
            go_wp2_with fail
            go_roundw
            case rel => exact ⟨f, i + 1, ds, by go_num, by omega, by omega, HN.out, HDS.out, by omega, HO.out, HBL.out⟩
            case measure => simp [intOf]; omega
      · rw [if_neg h95] at hst
        have hne : ((c : Int) == 95) = false := by simp; omega
        have hdg := fun w => rdigit_any c hc w
        by_cases hdb : digitW c < 8
        · rw [if_pos hdb] at hst
          have HN : Hid (X = refG s 8 f (i + 1) (ds ++ [digitW c])) := Lib.hid (by rw [HE.out, hst])
          clear hst
          generalize digitW c = dw at *
          go_wp2_with (first
            | (go_at_call 21; with_reducible refine Calls.mono (hdg _) ?_; rintro e w2 ⟨rfl, hw2⟩; replace hw2 := hw2.symm; subst hw2)
            | (at_builtin; refine wpList_append_own _ rfl _ _ 37 rfl w.heap.size 3 i0 (.int .i64 0) 1 8 Try.underlying37 hi0 hz0 hz1 hz2 rfl (by decide) _ _ _ rfl (HO.out.alloc _) ⟨wr.heap.size, 0, none⟩ 1 1 [.int .i64 (dw : Int)] rfl rfl newsN ?c2 ?c3 ?c4 ?c5 ?_))
          case c2 => intro u hu; simp at hu; subst hu; rfl
          case c3 => unfold maxLen; omega
          case c4 => omega
          case c5 => have := HBL.out.size; simp; omega
          intro v' w1 hown' hgrow _
          have HO4 : Hid (w1.ownsRow w.heap.size 3 1 v' (ds ++ [dw]).length (i64s (ds ++ [dw]))) := Lib.hid (by simpa [i64s] using hown')
          have HB4 : Hid (Below w.heap.size w w1) := Lib.hid (append64_below HBL.out HO.out (by have := HBL.out.size; omega) hgrow)
          clear hown' hgrow
          go_wp2_with fail
          go_roundw
          case rel =>
            refine ⟨f, i + 1, ds ++ [dw], by go_num, by omega, by omega, HN.out, ?_, by simp; omega, HO4.out, HB4.out⟩
            intro x hx
            rcases List.mem_append.1 hx with h | h
            · exact HDS.out x h
            · simp at h; omega
          case measure => simp [intOf]; omega
        · rw [if_neg hdb] at hst
          have HN : Hid (X = none) := Lib.hid (by rw [HE.out, hst])
          clear hst
          have hdb2 : decide (8 ≤ digitW c) = true := by simp; omega
          have hdb3 : decide ((8 : Int) ≤ (digitW c : Int)) = true := by simp; omega
          generalize digitW c = dw at *
          go_wp2_with (first
            | (go_at_call 21; with_reducible refine Calls.mono (hdg _) ?_; rintro e w2 ⟨rfl, hw2⟩; replace hw2 := hw2.symm; subst hw2))
          go_ret2
          exact ⟨by rw [HN.out]; rfl, HBL.out⟩
    · have hie : i = s.size := by omega
      have hst : refG s 8 (f + 1) i ds = if ds = [] then none else some ds := by rw [refG, if_neg hlt]
      obtain ⟨ra, rc, rfl⟩ := row_slice HO.out
      by_cases hnil : ds = []
      · subst hnil
        have HN : Hid (X = none) := Lib.hid (by rw [HE.out, hst]; rfl)
        clear hst
        go_wp2_with fail
        go_ret2
        exact ⟨by rw [HN.out]; rfl, HBL.out⟩
      · have HN : Hid (X = some ds) := Lib.hid (by rw [HE.out, hst, if_neg hnil])
        have hdc := decimal_ref _ _ ds 8 wr HO.out HDS.out (by omega) (by omega) (by omega)
        have hln : ((ds.length : Int) == 0) = false := by simp [hnil]
        have hlp : 0 < ds.length := List.length_pos_iff.2 hnil
        rw [show ((8 : Nat) : Int) = 8 from rfl] at hdc
        clear hst hie
        go_wp2_with (go_at_call 22; with_reducible refine Calls.mono hdc ?_; rintro e w2 ⟨rfl, hb2⟩; have HB2 := Lib.hid hb2; clear hb2 hdc)
        go_ret2
        exact ⟨by rw [HN.out]; rfl, HBL.out.trans (HB2.out.mono HBL.out.size)⟩

end Go.Proofs.Ytppnjliamfnlkaa
