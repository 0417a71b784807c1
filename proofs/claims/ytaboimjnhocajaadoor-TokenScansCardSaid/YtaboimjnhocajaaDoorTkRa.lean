import Derived.Test.YtaboimjnhocajaaDoorTkO
namespace Go.Proofs.YtaboimjnhocajaaDoor
open Go.RowKit
set_option linter.unusedSimpArgs false
set_option linter.unusedVariables false

/-- The first line's end from k on, or the end. -/
def nlAt (s : ByteArray) : Nat → Nat → Nat
  | 0, k => k
  | f + 1, k => if k < s.size then (if byteN s k = 10 then k else nlAt s f (k + 1)) else k
/-- The end of a note of that kind. -/
def starAt (s : ByteArray) : Nat → Nat → Int
  | 0, _ => -1
  | f + 1, k => if k + 4 ≤ s.size then (if byteN s (k + 2) = 42 then (if byteN s (k + 3) = 47 then (k : Int) + 4 else starAt s f (k + 1)) else starAt s f (k + 1)) else -1
def refNoteF (s : ByteArray) (at_ : Nat) : Int :=
  if s.size < at_ + 2 then 0
  else if byteN s at_ = 47 then
    (if byteN s (at_ + 1) = 47 then ((nlAt s (s.size + 1) at_ : Nat) : Int)
     else if byteN s (at_ + 1) = 42 then starAt s (s.size + 1) at_ else 0)
  else 0

set_option maxHeartbeats 1600000 in
theorem refNote_any (b o cap : Nat) (s : ByteArray) (w : World) (hb : BytesN w b o s) (hs : s.size ≤ 65536) (at_ : Nat) (h : at_ < s.size) :
    Calls Tryd.prog 22 #[.slice (some ⟨b, o, none⟩) s.size cap, .int .i64 at_] w fun e w' => e = .returned (.int .i64 (refNoteF s at_)) ∧ w' = w := by
  have hR : refNoteF s at_ = refNoteF s at_ := rfl
  conv at hR => rhs; unfold refNoteF
  have hc0 := hb at_ h
  have hl0 := byteN_lt s at_
  have HB := Lib.hid hb; clear hb
  by_cases h1 : s.size < at_ + 2
  · rw [if_pos h1] at hR
    have HR := Lib.hid hR; clear hR hc0 hl0
    go_enter Tryd.func22, Tryd.ntmps22
    go_wp2_with fail
    go_ret
    exact ⟨by rw [HR.out]; rfl, rfl⟩
  rw [if_neg h1] at hR
  by_cases h2 : byteN s at_ = 47
  · rw [if_pos h2] at hR
    rw [h2] at hc0
    have hc1 := HB.out (at_ + 1) (by omega)
    have hl1 := byteN_lt s (at_ + 1)
    by_cases h3 : byteN s (at_ + 1) = 47
    · rw [if_pos h3] at hR
      rw [h3] at hc1
      have HR := Lib.hid hR; clear hR hl0 hl1 h2 h3
      go_enter Tryd.func22, Tryd.ntmps22
      go_wp2_with fail
      clear hc0 hc1
      go_loop [5] (fun i => ∃ (f k : Nat), i = .int .i64 k ∧ s.size < f + k ∧ k ≤ s.size ∧ nlAt s (s.size + 1) at_ = nlAt s f k) (fun i => s.size - (intOf i).toNat)
      case atStart => exact ⟨s.size + 1, at_, by go_num, by omega, by omega, rfl⟩
      case round =>
        obtain ⟨f, k, rfl, hf, hk, he⟩ := hrel
        obtain ⟨f, rfl⟩ : ∃ g, f = g + 1 := ⟨f - 1, by omega⟩
        have HE := Lib.hid he; clear he
        by_cases hlt : k < s.size
        · have hd := HB.out k hlt
          have hdl := byteN_lt s k
          have hst : nlAt s (f + 1) k = if byteN s k = 10 then k else nlAt s f (k + 1) := by rw [nlAt, if_pos hlt]
          generalize byteN s k = d at hd hdl hst
          by_cases h10 : d = 10
          · have HN : Hid (refNoteF s at_ = k) := Lib.hid (by rw [HR.out, HE.out, hst, if_pos h10])
            subst h10
            clear hst
            go_wp2_with fail
            go_ret
            exact ⟨by rw [HN.out]; rfl, rfl⟩
          · have HN : Hid (nlAt s (s.size + 1) at_ = nlAt s f (k + 1)) := Lib.hid (by rw [HE.out, hst, if_neg h10])
            clear hst
            go_wp2_with fail
            refine ⟨⟨f, k + 1, by go_num, by omega, by omega, HN.out⟩, ?_⟩
            simp [intOf]; omega
        · obtain rfl : k = s.size := by omega
          have HN : Hid (refNoteF s at_ = s.size) := Lib.hid (by rw [HR.out, HE.out, nlAt, if_neg hlt])
          go_wp2_with fail
          go_ret
          exact ⟨by rw [HN.out]; rfl, rfl⟩
    · rw [if_neg h3] at hR
      by_cases h4 : byteN s (at_ + 1) = 42
      · rw [if_pos h4] at hR
        rw [h4] at hc1
        have HR := Lib.hid hR; clear hR hl0 hl1 h2 h3 h4
        go_enter Tryd.func22, Tryd.ntmps22
        go_wp2_with fail
        clear hc0 hc1
        go_loop [6] (fun i => ∃ (f k : Nat), i = .int .i64 ((k : Int) + 4) ∧ s.size < f + k ∧ k ≤ s.size ∧ starAt s (s.size + 1) at_ = starAt s f k) (fun i => s.size + 4 - (intOf i).toNat)
        case atStart => exact ⟨s.size + 1, at_, by go_num, by omega, by omega, rfl⟩
        case round =>
          obtain ⟨f, k, rfl, hf, hk, he⟩ := hrel
          obtain ⟨f, rfl⟩ : ∃ g, f = g + 1 := ⟨f - 1, by omega⟩
          have HE := Lib.hid he; clear he
          by_cases hlt : k + 4 ≤ s.size
          · have hd := HB.out (k + 2) (by omega)
            have hd2 := HB.out (k + 3) (by omega)
            have hdl := byteN_lt s (k + 2)
            have hdl2 := byteN_lt s (k + 3)
            have hst : starAt s (f + 1) k = if byteN s (k + 2) = 42 then (if byteN s (k + 3) = 47 then (k : Int) + 4 else starAt s f (k + 1)) else starAt s f (k + 1) := by rw [starAt, if_pos hlt]
            generalize byteN s (k + 2) = d at hd hdl hst
            generalize byteN s (k + 3) = d2 at hd2 hdl2 hst
            by_cases h42 : d = 42
            · by_cases h47 : d2 = 47
              · have HN : Hid (refNoteF s at_ = (k : Int) + 4) := Lib.hid (by rw [HR.out, HE.out, hst, if_pos h42, if_pos h47])
                subst h42; subst h47
                clear hst
                go_wp2_with fail
                go_ret
                exact ⟨by rw [HN.out]; rfl, rfl⟩
              · have HN : Hid (starAt s (s.size + 1) at_ = starAt s f (k + 1)) := Lib.hid (by rw [HE.out, hst, if_pos h42, if_neg h47])
                subst h42
                clear hst
                go_wp2_with fail
                refine ⟨⟨f, k + 1, by go_num, by omega, by omega, HN.out⟩, ?_⟩
                simp [intOf]; omega
            · have HN : Hid (starAt s (s.size + 1) at_ = starAt s f (k + 1)) := Lib.hid (by rw [HE.out, hst, if_neg h42])
              clear hst
              go_wp2_with fail
              refine ⟨⟨f, k + 1, by go_num, by omega, by omega, HN.out⟩, ?_⟩
              simp [intOf]; omega
          · have HN : Hid (refNoteF s at_ = -1) := Lib.hid (by rw [HR.out, HE.out, starAt, if_neg hlt])
            go_wp2_with fail
            go_ret
            exact ⟨by rw [HN.out]; rfl, rfl⟩
      · rw [if_neg h4] at hR
        have HR := Lib.hid hR; clear hR h2
        generalize byteN s (at_ + 1) = d at hc1 hl1 h3 h4
        have h3' : ((d : Int) == 47) = false := by simp; omega
        have h4' : ((d : Int) != 42) = true := by simp; omega
        go_enter Tryd.func22, Tryd.ntmps22
        go_wp2_with fail
        go_ret
        exact ⟨by rw [HR.out]; rfl, rfl⟩
  · rw [if_neg h2] at hR
    have HR := Lib.hid hR; clear hR
    generalize byteN s at_ = d at hc0 hl0 h2
    have h2' : ((d : Int) != 47) = true := by simp; omega
    go_enter Tryd.func22, Tryd.ntmps22
    go_wp2_with fail
    go_ret
    exact ⟨by rw [HR.out]; rfl, rfl⟩

/-- The end of a text, from k on; q: the byte that it began with. -/
def refQuotedF (s : ByteArray) (q : Nat) : Nat → Nat → Int
  | 0, _ => -1
  | f + 1, k => if k < s.size then
      (if q = 34 ∧ byteN s k = 10 then -1
       else if byteN s k = q then (k : Int) + 1
       else if q = 34 ∧ byteN s k = 92 then (if k + 1 < s.size ∧ byteN s (k + 1) = 10 then -1 else refQuotedF s q f (k + 2))
       else refQuotedF s q f (k + 1))
    else -1

set_option maxHeartbeats 3200000 in
theorem refQuoted_any (b o cap : Nat) (s : ByteArray) (w : World) (hb : BytesN w b o s) (hlt0 : b < w.heap.size) (hs : s.size ≤ 65536) (at_ : Nat) (h : at_ < s.size) (hq : byteN s at_ = 34 ∨ byteN s at_ = 96) :
    Calls Tryd.prog 25 #[.slice (some ⟨b, o, none⟩) s.size cap, .int .i64 at_] w fun e w' => e = .returned (.int .i64 (refQuotedF s (byteN s at_) (s.size + 1) (at_ + 1))) ∧ Below w.heap.size w w' := by
  have hq2 : ∃ q, byteN s at_ = q := ⟨_, rfl⟩
  obtain ⟨q, hq2⟩ := hq2
  have HQ := Lib.hid hq2
  rw [hq2] at hq ⊢
  clear hq2
  have HB := Lib.hid hb; clear hb
  go_enter Tryd.func25, Tryd.ntmps25
  go_wp2_with fail
  go_loopw [5] (fun i wr => ∃ (f k : Nat), i = .int .i64 k ∧ s.size + 1 < f + k ∧ k ≤ s.size + 1 ∧ refQuotedF s q (s.size + 1) (at_ + 1) = refQuotedF s q f k ∧ Below w.heap.size w wr) (fun i _ => s.size + 1 - (intOf i).toNat)
  case atStart => exact ⟨s.size + 1, at_ + 1, by go_num, by omega, by omega, rfl, Below.refl _ _⟩
  case round =>
    obtain ⟨f, k, rfl, hf, hk, he, hbr⟩ := hrel
    have HBR := Lib.hid hbr; clear hbr
    obtain ⟨f, rfl⟩ : ∃ g, f = g + 1 := ⟨f - 1, by omega⟩
    have HE := Lib.hid he; clear he
    have hc0 : wr.cell? ⟨b, o + at_, none⟩ = some (.int .u8 q) := by
      rw [HBR.out.cell hlt0, HB.out at_ h, HQ.out]
    by_cases hlt : k < s.size
    · have hd : wr.cell? ⟨b, o + k, none⟩ = some (.int .u8 (byteN s k)) := by
        rw [HBR.out.cell hlt0]; exact HB.out k hlt
      have hdl := byteN_lt s k
      have hst : refQuotedF s q (f + 1) k = (if q = 34 ∧ byteN s k = 10 then -1
       else if byteN s k = q then (k : Int) + 1
       else if q = 34 ∧ byteN s k = 92 then (if k + 1 < s.size ∧ byteN s (k + 1) = 10 then -1 else refQuotedF s q f (k + 2))
       else refQuotedF s q f (k + 1)) := by rw [refQuotedF, if_pos hlt]
      generalize byteN s k = d at hd hdl hst
      rcases hq with rfl | rfl
      · simp only [true_and] at hst
        by_cases h10 : d = 10
        · have HN : Hid (refQuotedF s 34 (s.size + 1) (at_ + 1) = -1) := Lib.hid (by rw [HE.out, hst, if_pos h10])
          subst h10; clear hst
          go_wp2_with fail
          go_ret
          exact ⟨by rw [HN.out]; rfl, HBR.out⟩
        rw [if_neg h10] at hst
        by_cases h34 : d = 34
        · have HN : Hid (refQuotedF s 34 (s.size + 1) (at_ + 1) = (k : Int) + 1) := Lib.hid (by rw [HE.out, hst, if_pos h34])
          subst h34; clear hst
          go_wp2_with fail
          go_region
          all_goals
            go_wp2_with fail
            go_ret
            exact ⟨by rw [HN.out]; rfl, HBR.out.drew⟩
        rw [if_neg h34] at hst
        by_cases h92 : d = 92
        · rw [if_pos h92] at hst
          subst h92
          by_cases hk1 : k + 1 < s.size
          · have hd1' : wr.cell? ⟨b, o + (k + 1), none⟩ = some (.int .u8 (byteN s (k + 1))) := by
              rw [HBR.out.cell hlt0]; exact HB.out (k + 1) hk1
            have hdl1 := byteN_lt s (k + 1)
            simp only [hk1, true_and] at hst
            generalize byteN s (k + 1) = d1 at hd1' hdl1 hst
            have hd1 : wr.drew.cell? ⟨b, o + (k + 1), none⟩ = some (.int .u8 d1) := hd1'
            by_cases h11 : d1 = 10
            · have HN : Hid (refQuotedF s 34 (s.size + 1) (at_ + 1) = -1) := Lib.hid (by rw [HE.out, hst, if_pos h11])
              subst h11; clear hst
              go_wp2_with fail
              go_region
              all_goals
                go_wp2_with fail
                go_ret
                exact ⟨by rw [HN.out]; rfl, HBR.out.drew⟩
            · have HN : Hid (refQuotedF s 34 (s.size + 1) (at_ + 1) = refQuotedF s 34 f (k + 2)) := Lib.hid (by rw [HE.out, hst, if_neg h11])
              clear hst
              go_wp2_with fail
              go_region
              all_goals
                go_wp2_with fail
                refine ⟨⟨f, k + 2, by go_num, by omega, by omega, HN.out, HBR.out.drew⟩, ?_⟩
                simp [intOf]; omega
          · have HN : Hid (refQuotedF s 34 (s.size + 1) (at_ + 1) = refQuotedF s 34 f (k + 2)) := Lib.hid (by rw [HE.out, hst, if_neg (by omega)])
            clear hst
            go_wp2_with fail
            go_region
            all_goals
              go_wp2_with fail
              refine ⟨⟨f, k + 2, by go_num, by omega, by omega, HN.out, HBR.out.drew⟩, ?_⟩
              simp [intOf]; omega
        · have HN : Hid (refQuotedF s 34 (s.size + 1) (at_ + 1) = refQuotedF s 34 f (k + 1)) := Lib.hid (by rw [HE.out, hst, if_neg h92])
          clear hst
          go_wp2_with fail
          go_region
          all_goals
            go_wp2_with fail
            refine ⟨⟨f, k + 1, by go_num, by omega, by omega, HN.out, HBR.out.drew⟩, ?_⟩
            simp [intOf]; omega
      · simp only [show ¬(96 = 34) from by omega, false_and, if_false] at hst
        by_cases h96 : d = 96
        · have HN : Hid (refQuotedF s 96 (s.size + 1) (at_ + 1) = (k : Int) + 1) := Lib.hid (by rw [HE.out, hst, if_pos h96])
          subst h96; clear hst
          go_wp2_with fail
          go_region
          all_goals
            go_wp2_with fail
            go_ret
            exact ⟨by rw [HN.out]; rfl, HBR.out.drew⟩
        · have HN : Hid (refQuotedF s 96 (s.size + 1) (at_ + 1) = refQuotedF s 96 f (k + 1)) := Lib.hid (by rw [HE.out, hst, if_neg h96])
          clear hst
          go_wp2_with fail
          go_region
          all_goals
            go_wp2_with fail
            refine ⟨⟨f, k + 1, by go_num, by omega, by omega, HN.out, HBR.out.drew⟩, ?_⟩
            simp [intOf]; omega
    · have HN : Hid (refQuotedF s q (s.size + 1) (at_ + 1) = -1) := Lib.hid (by rw [HE.out, refQuotedF, if_neg hlt])
      go_wp2_with fail
      go_ret
      exact ⟨by rw [HN.out]; rfl, HBR.out⟩
end Go.Proofs.YtaboimjnhocajaaDoor
