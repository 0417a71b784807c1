import Derived.Test.YtppnjliamfnlkaaLtG
import Derived.Test.YtppnjliamfnlkaaLtB
namespace Go.Proofs.Ytppnjliamfnlkaa
open Go.RowKit
set_option linter.unusedSimpArgs false
set_option linter.unusedVariables false
set_option linter.unusedSectionVars false

/-! Layer 3: number. -/
theorem dec_max (s : ByteArray) (i : Nat) (h : i < s.size) : (Utf8.decode s i).1 ≤ 1114111 := by
  rw [decode_B s i h]
  have h0 := byteN_lt s i
  have h1 := byteN_lt s (i + 1)
  have h2 := byteN_lt s (i + 2)
  have h3 := byteN_lt s (i + 3)
  generalize byteN s i = b0 at *
  generalize byteN s (i + 1) = b1 at *
  generalize byteN s (i + 2) = b2 at *
  generalize byteN s (i + 3) = b3 at *
  unfold decB
  repeat' split
  all_goals (simp only; omega)
theorem split_base {s : ByteArray} {b n : Nat} (h : splitF s = some (b, n)) : 2 ≤ b ∧ b ≤ 16 ∧ n ≤ 2 := by
  unfold splitF at h
  repeat' split at h
  all_goals (simp only [Option.some.injEq, Prod.mk.injEq, reduceCtorEq] at h; try (obtain ⟨rfl, rfl⟩ := h; omega))
def digF (t : ByteArray) (base : Nat) : Nat → Nat → Nat → List Nat → Option (List Nat)
  | 0, _, _, _ => none
  | f + 1, pos, last, l =>
    if pos < t.size then
      (if (Utf8.decode t pos).1 = 95 then (if last = 95 then none else digF t base f (pos + (Utf8.decode t pos).2) 95 l)
       else if digitW (Utf8.decode t pos).1 < base then digF t base f (pos + (Utf8.decode t pos).2) (Utf8.decode t pos).1 (timesF base l (digitW (Utf8.decode t pos).1))
       else none)
    else if last = 0 ∨ last = 95 then none else some l
/-- What a number's token means; none: it is none. -/
def numR (s : ByteArray) : Option ByteArray :=
  match splitF s with
  | none => none
  | some (b, n) => (digF (s.extract n s.size) b ((s.extract n s.size).size + 1) 0 0 []).map decF
def NumP : Option (List Nat) → Ending → Prop
  | some l, e => e = .returned (.string (decF l))
  | none, e => e = .panicked [{ v := .iface 22 (.int .i64 4), recovered := false }]
theorem row_over {w w' : World} {base e size n : Nat} {v : Value} {xs : List Value} (h : w.ownsRow base e size v n xs) (hb : Below w.heap.size w w') : w'.ownsRow base e size v n xs :=
  h.kept (row := none) ⟨hb.os, hb.tape, hb.output, hb.size, fun k hk _ => hb.block k hk⟩ (by cases v.ownBlock <;> simp)

set_option maxHeartbeats 3200000 in
theorem number_some (s : ByteArray) (b n : Nat) (w : World) (hs : s.size ≤ 10000) (h : splitF s = some (b, n)) :
    Calls Try.prog 20 #[.string s] w fun e w' => NumP (digF (s.extract n s.size) b ((s.extract n s.size).size + 1) 0 0 []) e ∧ Below w.heap.size w w' := by
  obtain ⟨hb2, hb16, hn2⟩ := split_base h
  have hsp := split_any s w (by omega)
  rw [h] at hsp
  simp only at hsp
  have hts : (s.extract n s.size).size ≤ 10000 := by simp; omega
  clear h hn2
  generalize s.extract n s.size = t at hsp hts ⊢
  generalize hX : digF t b (t.size + 1) 0 0 [] = X
  have HX := Lib.hid hX
  clear hX
  go_enter Try.func20, Try.ntmps20
  go_wp2_with (go_at_call 28; with_reducible refine Calls.mono hsp ?_; rintro e w2 ⟨rfl, hb⟩
               have HB := Lib.hid hb
               have hsz := hb.size
               clear hb hsp)
  generalize hit : w2.heap.size = it at *
  go_loopw [5, 6] (fun v lv wr => ∃ (f pos last : Nat) (l : List Nat), lv = .int .i32 last ∧ t.size < f + pos ∧ pos ≤ t.size ∧ X = digF t b f pos last l ∧ l.length ≤ 3 * pos ∧ (∀ x ∈ l, x < 10) ∧ last ≤ 1114111 ∧
      wr.ownsRow (it + 1) 5 1 v l.length (u8s l) ∧ Below w.heap.size w wr ∧ it + 1 ≤ wr.heap.size ∧ wr.heap[it]? = some (.stringIter t pos)) (fun _ _ wr => t.size - wr.iterPos it)
  case atStart =>
    refine ⟨t.size + 1, 0, 0, [], rfl, by omega, by omega, HX.out.symm, by simp, by simp, by omega, ?_, ?_, ?_, ?_⟩
    · exact World.ownsRow_nil _ _ _ _
    · exact HB.out.alloc (by omega) _
    · show it + 1 ≤ (w2.alloc (.stringIter t 0)).heap.size
      simp; omega
    · exact iter_at hit.symm _ _
  case round =>
    obtain ⟨f, pos, last, l, rfl, hf, hpos, he, hll, hl10, hlast, hown, hbl, hsz2, hi⟩ := hrel
    obtain ⟨f, rfl⟩ : ∃ g, f = g + 1 := ⟨f - 1, by omega⟩
    have HE := Lib.hid he
    have HO := Lib.hid hown
    have HBL := Lib.hid hbl
    have HI := Lib.hid hi
    have HL := Lib.hid hl10
    clear he hown hbl hl10
    by_cases hlt : pos < t.size
    · have hn := Lib.run_next_any_at (P := Try.prog) wr it t pos 0 hi hlt
      have hst : digF t b (f + 1) pos last l = (if (Utf8.decode t pos).1 = 95 then (if last = 95 then none else digF t b f (pos + (Utf8.decode t pos).2) 95 l)
         else if digitW (Utf8.decode t pos).1 < b then digF t b f (pos + (Utf8.decode t pos).2) (Utf8.decode t pos).1 (timesF b l (digitW (Utf8.decode t pos).1)) else none) := by rw [digF, if_pos hlt]
      obtain ⟨n1, n2⟩ := dec_width t pos hlt
      have n3 := dec_max t pos hlt
      generalize hw1 : wr.iterAt it t (pos + (Utf8.decode t pos).2) = w1 at hn
      have HB1 : Hid (Below w.heap.size w w1) := by rw [← hw1]; exact Lib.below_iterAt HBL.out (by omega) _ _
      have HO1 : Hid (w1.ownsRow (it + 1) 5 1 u5 l.length (u8s l)) := by rw [← hw1]; exact ownsRow_iterAt HO.out (by omega) _ _
      have HI1 : Hid (w1.heap[it]? = some (.stringIter t (pos + (Utf8.decode t pos).2))) := by rw [← hw1]; exact Lib.iterAt_heap _ _ _ _ _ hi
      have hs1 : it + 1 ≤ w1.heap.size := by rw [← hw1, Lib.iterAt_size]; exact hsz2
      clear hw1 hi
      generalize Utf8.decode t pos = d at *
      obtain ⟨r, n⟩ := d
      simp only at n1 n2 n3 hn hst HI1
      by_cases c1 : r = 95
      · subst c1
        by_cases c2 : last = 95
        · subst c2
          have HN : Hid (X = none) := Lib.hid (by rw [HE.out, hst]; simp)
          clear hst
          go_wp2_with (first | (go_at_call 19; with_reducible refine Calls.mono (need_no _ _) ?_; rintro e w2 ⟨rfl, hw2⟩; replace hw2 := hw2.symm; subst hw2))
          refine ⟨rfl, ?_, HB1.out⟩
          rw [HN.out]; rfl
        · have HN : Hid (X = digF t b f (pos + n) 95 l) := Lib.hid (by rw [HE.out, hst]; simp [c2])
          have k1 : ((last : Int) == 95) = false := by simp; omega
          have k2 : ((last : Int) != 95) = true := by simp; omega
          clear hst
          go_wp2_with (first | (go_at_call 19; with_reducible refine Calls.mono (need_yes _ _) ?_; rintro e w2 ⟨rfl, hw2⟩; replace hw2 := hw2.symm; subst hw2))
          go_roundw
          case rel => exact ⟨f, pos + n, 95, l, rfl, by omega, by omega, HN.out, by omega, HL.out, by omega, HO1.out, HB1.out, hs1, HI1.out⟩
          case measure => rw [iterPos_of HI.out, iterPos_of HI1.out]; omega
      · have k1 : ((r : Int) == 95) = false := by simp; omega
        by_cases c2 : digitW r < b
        · have HN : Hid (X = digF t b f (pos + n) r (timesF b l (digitW r))) := Lib.hid (by rw [HE.out, hst, if_neg c1, if_pos c2])
          have hdg := digit_yes r b n3 hb16 c2 w1
          have htm := times_any (it + 1) _ b (digitW r) l w1 HO1.out HL.out hb2 hb16 c2 (by omega) hs1
          have hl2 := timesF_len b l (digitW r)
          have HL2 := Lib.hid (timesF_lt b l (digitW r))
          clear hst
          generalize timesF b l (digitW r) = l2 at *
          generalize digitW r = dw at *
          go_wp2_with (first
            | (go_at_call 30; with_reducible refine Calls.mono hdg ?_; rintro e w2 ⟨rfl, hw2⟩; replace hw2 := hw2.symm; subst hw2; clear hdg)
            | (go_at_call 29; with_reducible refine Calls.mono htm ?_; rintro e w2 ⟨v', rfl, hown2, hbl2⟩
               have HO2 := Lib.hid hown2
               have HB2 := Lib.hid hbl2
               clear hown2 hbl2 htm))
          go_roundw
          case rel => exact ⟨f, pos + n, r, l2, rfl, by omega, by omega, HN.out, by omega, HL2.out, n3, HO2.out, HB1.out.trans (HB2.out.mono (by omega)), by have := HB2.out.size; omega, (HB2.out.block it (by omega)).trans HI1.out⟩
          case measure => rw [iterPos_of HI.out, iterPos_of ((HB2.out.block it (by omega)).trans HI1.out)]; omega
        · have HN : Hid (X = none) := Lib.hid (by rw [HE.out, hst, if_neg c1, if_neg c2])
          have hdg := digit_no r b n3 hb16 c2 w1
          unfold thrown at hdg
          clear hst
          go_wp2_with (first
            | (go_at_call 30; with_reducible refine Calls.mono hdg ?_; rintro e w2 ⟨rfl, hw2⟩; replace hw2 := hw2.symm; subst hw2; clear hdg))
          refine ⟨rfl, ?_, HB1.out⟩
          rw [HN.out]; rfl
    · have hn := Lib.run_next_end_at (P := Try.prog) wr it t pos 0 hi hlt
      have hst : digF t b (f + 1) pos last l = if last = 0 ∨ last = 95 then none else some l := by rw [digF, if_neg hlt]
      clear hi
      by_cases c0 : last = 0
      · subst c0
        have HN : Hid (X = none) := Lib.hid (by rw [HE.out, hst]; simp)
        clear hst
        go_wp2_with (first | (go_at_call 19; with_reducible refine Calls.mono (need_no _ _) ?_; rintro e w2 ⟨rfl, hw2⟩; replace hw2 := hw2.symm; subst hw2))
        refine ⟨rfl, ?_, HBL.out⟩
        rw [HN.out]; rfl
      have k0 : ((last : Int) == 0) = false := by simp [c0]
      have k3 : ((last : Int) != 0) = true := by simp; omega
      by_cases c1 : last = 95
      · subst c1
        have HN : Hid (X = none) := Lib.hid (by rw [HE.out, hst]; simp)
        clear hst
        go_wp2_with (first | (go_at_call 19; with_reducible refine Calls.mono (need_no _ _) ?_; rintro e w2 ⟨rfl, hw2⟩; replace hw2 := hw2.symm; subst hw2))
        refine ⟨rfl, ?_, HBL.out⟩
        rw [HN.out]; rfl
      · have k1 : ((last : Int) == 95) = false := by simp; omega
        have k2 : ((last : Int) != 95) = true := by simp; omega
        have HN : Hid (X = some l) := Lib.hid (by rw [HE.out, hst, if_neg (by omega)])
        have hdc := decimal_any (it + 1) _ l wr HO.out HL.out (by omega) hsz2
        clear hst
        go_wp2_with (first
          | (go_at_call 19; with_reducible refine Calls.mono (need_yes _ _) ?_; rintro e w2 ⟨rfl, hw2⟩; replace hw2 := hw2.symm; subst hw2)
          | (go_at_call 31; with_reducible refine Calls.mono hdc ?_; rintro e w2 ⟨rfl, hb2⟩
             have HB2 := Lib.hid hb2
             clear hb2 hdc))
        go_ret
        refine ⟨?_, HBL.out.trans (HB2.out.mono (by omega))⟩
        rw [HN.out]; rfl
end Go.Proofs.Ytppnjliamfnlkaa
