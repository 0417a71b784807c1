import Derived.Test.YtaboimjnhocajaaDoorTkL
import Derived.Test.YtaboimjnhocajaaDoorPlO1
namespace Go.Proofs.YtaboimjnhocajaaDoor
open Go.RowKit
set_option linter.unusedSimpArgs false
set_option linter.unusedVariables false
set_option linter.unusedSectionVars false

/-- Is a name written from the byte i on? -/
def nameG (s : ByteArray) : Nat → Nat → Bool
  | 0, _ => true
  | f + 1, i => if i < s.size then (if !letterI (Utf8.decode s i).1 && (decide (i = 0) || !figureI (Utf8.decode s i).1) then false else nameG s f (i + (Utf8.decode s i).2)) else true
def nameF (s : ByteArray) : Bool := nameG s (s.size + 1) 0 && !s.toList.isEmpty && wordL s.toList == 0

set_option maxHeartbeats 800000 in
theorem name_any (s : ByteArray) (w : World) (hs : s.size ≤ 4611686018427387904) :
    Calls Tryd.prog 15 #[.string s] w fun e w' => e = .returned (.bool (nameF s)) ∧ Below w.heap.size w w' := by
  go_enter Tryd.func15, Tryd.ntmps15
  go_wp2_with fail
  go_loopw [3] (fun _ wr => ∃ (f pos : Nat), s.size < f + pos ∧ pos ≤ s.size ∧ nameG s (s.size + 1) 0 = nameG s f pos ∧ Below w.heap.size w wr ∧
     wr.heap[w.heap.size]? = some (.stringIter s pos)) (fun _ wr => s.size - wr.iterPos w.heap.size)
  case atStart => exact ⟨s.size + 1, 0, by omega, by omega, rfl, (Below.refl _ _).alloc (Nat.le_refl _) _, iter_at rfl _ _⟩
  case round =>
    obtain ⟨f, pos, hf, hpos, he, hb, hi⟩ := hrel
    obtain ⟨f, rfl⟩ : ∃ g, f = g + 1 := ⟨f - 1, by omega⟩
    have HE := Lib.hid he; clear he
    have HB := Lib.hid hb; clear hb
    have HI := Lib.hid hi
    by_cases hlt : pos < s.size
    · have hn := Lib.run_next_any_at (P := Tryd.prog) wr w.heap.size s pos 0 hi hlt
      have hst : nameG s (f + 1) pos = if !letterI (Utf8.decode s pos).1 && (decide (pos = 0) || !figureI (Utf8.decode s pos).1) then false else nameG s f (pos + (Utf8.decode s pos).2) := by rw [nameG, if_pos hlt]
      obtain ⟨n1, n2⟩ := dec_width s pos hlt
      generalize hw1 : wr.iterAt w.heap.size s (pos + (Utf8.decode s pos).2) = w1 at hn
      have HB1 : Hid (Below w.heap.size w w1) := by rw [← hw1]; exact Lib.below_iterAt HB.out (Nat.le_refl _) _ _
      have HI1 : Hid (w1.heap[w.heap.size]? = some (.stringIter s (pos + (Utf8.decode s pos).2))) := by rw [← hw1]; exact Lib.iterAt_heap _ _ _ _ _ hi
      clear hw1 hi
      have h0 : ((pos : Int) == 0) = decide (pos = 0) := by rw [Bool.eq_iff_iff]; simp
      generalize decide (pos = 0) = z at h0 hst
      generalize Utf8.decode s pos = d at *
      obtain ⟨r, n⟩ := d
      simp only at n1 n2 hn hst HI1
      have hq1 := fun w => letter_any r w
      have hq2 := fun w => figure_any r w
      generalize letterI r = l at hst hq1
      generalize figureI r = g at hst hq2
      have HST := Lib.hid hst
      clear hst
      cases l
      · cases z
        · cases g
          · have HN : Hid (nameG s (s.size + 1) 0 = false) := Lib.hid (by rw [HE.out, HST.out]; rfl)
            go_wp2_with (first | (go_at_call 27; refine (hq1 _).mono ?_; rintro e w2 ⟨rfl, rfl⟩) | (go_at_call 28; refine (hq2 _).mono ?_; rintro e w2 ⟨rfl, rfl⟩))
            go_ret
            exact ⟨by unfold nameF; rw [HN.out]; rfl, HB1.out⟩
          · have HN : Hid (nameG s (s.size + 1) 0 = nameG s f (pos + n)) := Lib.hid (by rw [HE.out, HST.out]; rfl)
            go_wp2_with (first | (go_at_call 27; refine (hq1 _).mono ?_; rintro e w2 ⟨rfl, rfl⟩) | (go_at_call 28; refine (hq2 _).mono ?_; rintro e w2 ⟨rfl, rfl⟩))
            go_roundw
            case rel => exact ⟨f, pos + n, by omega, by omega, HN.out, HB1.out, HI1.out⟩
            case measure => rw [iterPos_of HI.out, iterPos_of HI1.out]; omega
        · have HN : Hid (nameG s (s.size + 1) 0 = false) := Lib.hid (by rw [HE.out, HST.out]; rfl)
          go_wp2_with (first | (go_at_call 27; refine (hq1 _).mono ?_; rintro e w2 ⟨rfl, rfl⟩) | (go_at_call 28; refine (hq2 _).mono ?_; rintro e w2 ⟨rfl, rfl⟩))
          go_ret
          exact ⟨by unfold nameF; rw [HN.out]; rfl, HB1.out⟩
      · have HN : Hid (nameG s (s.size + 1) 0 = nameG s f (pos + n)) := Lib.hid (by rw [HE.out, HST.out]; rfl)
        go_wp2_with (first | (go_at_call 27; refine (hq1 _).mono ?_; rintro e w2 ⟨rfl, rfl⟩) | (go_at_call 28; refine (hq2 _).mono ?_; rintro e w2 ⟨rfl, rfl⟩))
        go_roundw
        case rel => exact ⟨f, pos + n, by omega, by omega, HN.out, HB1.out, HI1.out⟩
        case measure => rw [iterPos_of HI.out, iterPos_of HI1.out]; omega
    · have hn := Lib.run_next_end_at (P := Tryd.prog) wr w.heap.size s pos 0 hi hlt
      have HN : Hid (nameG s (s.size + 1) 0 = true) := Lib.hid (by rw [HE.out, nameG, if_neg hlt])
      have hnf : nameF s = (!s.toList.isEmpty && wordL s.toList == 0) := by unfold nameF; rw [HN.out, Bool.true_and]
      have HNF := Lib.hid hnf
      clear hi hnf
      have hwd := fun w => word_any s w
      generalize wordL s.toList = q at HNF hwd
      go_wp2_with (go_at_call 17; refine (hwd _).mono ?_; rintro e w2 ⟨rfl, rfl⟩)
      all_goals
        go_ret
        refine ⟨ret_bool ?_, HB.out⟩
        rw [HNF.out]
        try simp [*]

def letterN (n : Nat) : Bool := (n == 95) || (decide (97 ≤ n) && decide (n ≤ 122)) || (decide (65 ≤ n) && decide (n ≤ 90))
def figureN (n : Nat) : Bool := decide (48 ≤ n) && decide (n ≤ 57)
theorem refLetter_any (n : Nat) (hn : n < 256) (w : World) :
    Calls Tryd.prog 23 #[.int .u8 n] w fun e w' => e = .returned (.bool (letterN n)) ∧ w' = w := by
  go_enter Tryd.func23, Tryd.ntmps23
  go_wp2_with fail
  all_goals (go_ret; refine ⟨ret_bool ?_, rfl⟩; unfold letterN; rw [Bool.eq_iff_iff]; simp only [Bool.or_eq_true, Bool.and_eq_true, decide_eq_true_eq, beq_iff_eq, true_iff, false_iff, reduceCtorEq]; omega)
theorem refFigure_any (n : Nat) (hn : n < 256) (w : World) :
    Calls Tryd.prog 24 #[.int .u8 n] w fun e w' => e = .returned (.bool (figureN n)) ∧ w' = w := by
  go_enter Tryd.func24, Tryd.ntmps24
  go_wp2_with fail
  all_goals (go_ret; refine ⟨ret_bool ?_, rfl⟩; unfold figureN; rw [Bool.eq_iff_iff]; simp only [Bool.or_eq_true, Bool.and_eq_true, decide_eq_true_eq, beq_iff_eq, true_iff, false_iff, reduceCtorEq]; omega)

/-- Is s among these? -/
def inB (s : ByteArray) : List ByteArray → Bool
  | [] => false
  | x :: r => x.toList == s.toList || inB s r
theorem inB_iff (s : ByteArray) (L : List ByteArray) : inB s L = decide (s.toList ∈ L.map ByteArray.toList) := by
  induction L with
  | nil => rfl
  | cons x r ih =>
    rw [inB, ih, Bool.eq_iff_iff]
    simp only [Bool.or_eq_true, beq_iff_eq, decide_eq_true_eq, List.map_cons, List.mem_cons]
    exact ⟨fun h => h.imp Eq.symm id, fun h => h.imp Eq.symm id⟩

set_option maxHeartbeats 800000 in
theorem in_any (s : ByteArray) (L : List ByteArray) (g cap : Nat) (w : World) (hL : L.length ≤ 100) (hc : ∀ i x, L[i]? = some x → w.cell? ⟨g, i, none⟩ = some (.string x)) :
    Calls Tryd.prog 29 #[.string s, .slice (some ⟨g, 0, none⟩) L.length cap] w fun e w' => e = .returned (.bool (inB s L)) ∧ w' = w := by
  have HC := Lib.hid hc; clear hc
  go_enter Tryd.func29, Tryd.ntmps29
  go_wp2_with fail
  go_loop [5] (fun i => ∃ k : Nat, i = .int .i64 k ∧ k ≤ L.length ∧ inB s L = inB s (L.drop k)) (fun i => L.length - (intOf i).toNat)
  case atStart => exact ⟨0, rfl, by omega, rfl⟩
  case round =>
    obtain ⟨k, rfl, hk, he⟩ := hrel
    have HE := Lib.hid he; clear he
    by_cases hlt : k < L.length
    · have hcell := HC.out k _ (List.getElem?_eq_getElem hlt)
      have hst : inB s (L.drop k) = (L[k].toList == s.toList || inB s (L.drop (k + 1))) := by
        rw [List.drop_eq_getElem_cons hlt, inB]
      generalize L[k] = x at hcell hst
      have HST := Lib.hid hst; clear hst
      cases hx : (x.toList == s.toList) with
      | true =>
        have HN : Hid (inB s L = true) := Lib.hid (by rw [HE.out, HST.out, hx]; rfl)
        go_wp2_with fail
        go_ret
        exact ⟨by rw [HN.out]; rfl, rfl⟩
      | false =>
        have HN : Hid (inB s L = inB s (L.drop (k + 1))) := Lib.hid (by rw [HE.out, HST.out, hx]; rfl)
        go_wp2_with fail
        refine ⟨⟨k + 1, by go_num, by omega, HN.out⟩, ?_⟩
        simp [intOf]; omega
    · obtain rfl : k = L.length := by omega
      have HN : Hid (inB s L = false) := Lib.hid (by rw [HE.out]; simp [inB])
      go_wp2_with fail
      go_ret
      exact ⟨by rw [HN.out]; rfl, rfl⟩

def w1L : List ByteArray := words1.map fun l => ⟨l.toArray⟩
def w2L : List ByteArray := words2.map fun l => ⟨l.toArray⟩
theorem w1L_map : w1L.map ByteArray.toList = words1 := by kernel_rfl
theorem w2L_map : w2L.map ByteArray.toList = words2 := by kernel_rfl
theorem wordL_in (s : ByteArray) : wordL s.toList = if inB s w1L then 1 else if inB s w2L then 2 else 0 := by
  rw [inB_iff, inB_iff, w1L_map, w2L_map]; simp [wordL]

set_option maxHeartbeats 800000 in
theorem refWord_any (s : ByteArray) (w : World) :
    Calls Tryd.prog 18 #[.string s] w fun e w' => e = .returned (.int .i64 (wordL s.toList)) ∧ Below w.heap.size w w' := by
  have hq := wordL_in s
  have h1 := fun (w : World) hc => in_any s w1L w.heap.size 14 (w.alloc (.cells (w1L.map Value.string).toArray 9)) (by decide) hc
  have h2 := fun (w : World) hc => in_any s w2L w.heap.size 11 (w.alloc (.cells (w2L.map Value.string).toArray 9)) (by decide) hc
  generalize inB s w1L = b1 at hq h1
  generalize inB s w2L = b2 at hq h2
  have HQ := Lib.hid hq
  have H1 := Lib.hid h1
  have H2 := Lib.hid h2
  clear hq h1 h2
  generalize wordL s.toList = q at HQ ⊢
  go_enter Tryd.func18, Tryd.ntmps18
  go_wp2_with fail
  have hb1 : Below w.heap.size w (w.alloc (.cells (w1L.map Value.string).toArray 9)) := (Below.refl _ _).alloc (Nat.le_refl _) _
  have e1 := H1.out w (fun i x h => by rw [cell_of (heap_alloc_new w _)]; simp [h])
  change Calls Tryd.prog 29 _ (w.alloc (.cells (w1L.map Value.string).toArray 9)) _
  generalize w.alloc (.cells (w1L.map Value.string).toArray 9) = w1 at e1 hb1 ⊢
  go_at_call 29
  refine Calls.mono e1 ?_
  rintro e w2 ⟨rfl, hw2⟩
  replace hw2 := hw2.symm
  subst hw2
  cases b1
  · go_wp2_with fail
    have hb2 : Below w1.heap.size w1 (w1.alloc (.cells (w2L.map Value.string).toArray 9)) := (Below.refl _ _).alloc (Nat.le_refl _) _
    have e2 := H2.out w1 (fun i x h => by rw [cell_of (heap_alloc_new w1 _)]; simp [h])
    change Calls Tryd.prog 29 _ (w1.alloc (.cells (w2L.map Value.string).toArray 9)) _
    generalize w1.alloc (.cells (w2L.map Value.string).toArray 9) = w2 at e2 hb2 ⊢
    go_at_call 29
    refine Calls.mono e2 ?_
    rintro e w3 ⟨rfl, hw3⟩
    replace hw3 := hw3.symm
    subst hw3
    cases b2
    all_goals
      go_wp2_with fail
      go_ret
      exact ⟨by rw [HQ.out]; rfl, hb1.trans (hb2.mono hb1.size)⟩
  · go_wp2_with fail
    go_ret
    exact ⟨by rw [HQ.out]; rfl, hb1⟩
end Go.Proofs.YtaboimjnhocajaaDoor
