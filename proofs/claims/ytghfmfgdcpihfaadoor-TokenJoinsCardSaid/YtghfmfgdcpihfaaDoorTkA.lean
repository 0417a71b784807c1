import Derived.Test.YtghfmfgdcpihfaaDoorPlB
namespace Go.Proofs.YtghfmfgdcpihfaaDoor
open Go.RowKit

def letterI (r : Int) : Bool := (decide (97 ≤ r) && decide (r ≤ 122)) || (decide (65 ≤ r) && decide (r ≤ 90)) || (r == 95)
def figureI (r : Int) : Bool := decide (48 ≤ r) && decide (r ≤ 57)
def blankI (r : Int) : Bool := (r == 32) || (r == 9) || (r == 13) || (r == 65279)
def outsideI (r : Int) : Bool := !letterI r && !figureI r
def newlineI (r : Int) : Bool := r == 10
theorem ret_bool {a b : Bool} (h : a = b) : Ending.returned (.bool a) = Ending.returned (.bool b) := by rw [h]

set_option maxHeartbeats 400000 in
theorem letter_any (r : Int) (w : World) :
    Calls Tryd.prog 22 #[.int .i32 r] w fun e w' => e = .returned (.bool (letterI r)) ∧ w' = w := by
  go_enter Tryd.func22, Tryd.ntmps22
  go_wp2_with fail
  all_goals (go_ret; refine ⟨ret_bool ?_, rfl⟩; unfold letterI; rw [Bool.eq_iff_iff]; simp; omega)

set_option maxHeartbeats 400000 in
theorem figure_any (r : Int) (w : World) :
    Calls Tryd.prog 26 #[.int .i32 r] w fun e w' => e = .returned (.bool (figureI r)) ∧ w' = w := by
  go_enter Tryd.func26, Tryd.ntmps26
  go_wp2_with fail
  all_goals (go_ret; refine ⟨ret_bool ?_, rfl⟩; unfold figureI; rw [Bool.eq_iff_iff]; simp <;> try omega)

set_option maxHeartbeats 400000 in
theorem blank_any (r : Int) (w : World) :
    Calls Tryd.prog 16 #[.int .i32 r] w fun e w' => e = .returned (.bool (blankI r)) ∧ w' = w := by
  go_enter Tryd.func16, Tryd.ntmps16
  go_wp2_with fail
  all_goals (go_ret; refine ⟨ret_bool ?_, rfl⟩; unfold blankI; simp_all)

set_option maxHeartbeats 400000 in
theorem newline_any (r : Int) (w : World) :
    Calls Tryd.prog 20 #[.int .i32 r] w fun e w' => e = .returned (.bool (newlineI r)) ∧ w' = w := by
  go_enter Tryd.func20, Tryd.ntmps20
  go_wp2_with fail
  all_goals (go_ret; exact ⟨rfl, rfl⟩)

set_option maxHeartbeats 400000 in
theorem outside_any (r : Int) (w : World) :
    Calls Tryd.prog 23 #[.int .i32 r] w fun e w' => e = .returned (.bool (outsideI r)) ∧ w' = w := by
  have h : outsideI r = (!letterI r && !figureI r) := rfl
  have H := Lib.hid h; clear h
  go_enter Tryd.func23, Tryd.ntmps23
  go_wp2_with (first
    | (go_at_call 22; refine (letter_any r _).mono ?_; rintro e w' ⟨rfl, rfl⟩; generalize letterI r = b at H ⊢; cases b)
    | (go_at_call 26; refine (figure_any r _).mono ?_; rintro e w' ⟨rfl, rfl⟩; generalize figureI r = c at H ⊢; cases c))
  all_goals (go_ret; exact ⟨ret_bool (by rw [H.out]; rfl), rfl⟩)

/-- How many bytes the blank r has. -/
def blankN (r : Int) : Int := if r = 65279 then 3 else 1
set_option maxHeartbeats 400000 in
theorem runeLen_blank (r : Int) (h : blankI r = true) (w : World) :
    Calls Tryd.prog 17 #[.int .i32 r] w fun e w' => e = .returned (.int .i64 (blankN r)) ∧ w' = w := by
  have hr : r = 32 ∨ r = 9 ∨ r = 13 ∨ r = 65279 := by simpa [blankI, or_assoc] using h
  clear h
  rcases hr with rfl | rfl | rfl | rfl
  all_goals (go_enter Tryd.func17, Tryd.ntmps17; go_wp2_with fail; go_ret; exact ⟨rfl, rfl⟩)

/-- How many bytes stand ahead of the first sign that q holds for. -/
def beforeF (s : ByteArray) (q : Int → Bool) : Nat → Nat → Nat
  | 0, _ => s.size
  | f + 1, i => if i < s.size then (if q (Utf8.decode s i).1 then i else beforeF s q f (i + (Utf8.decode s i).2)) else s.size

set_option maxHeartbeats 400000 in
theorem before_any (q : Int → Bool) (k : Nat) (s : ByteArray) (w : World) (hs : s.size ≤ 4611686018427387904)
    (hk : ∀ args (w : World), (callFunc k args).run Tryd.prog w = .ok (.enter k args) w)
    (hq : ∀ (r : Int) (w : World), Calls Tryd.prog k #[.int .i32 r] w fun e w' => e = .returned (.bool (q r)) ∧ w' = w) :
    Calls Tryd.prog 19 #[.string s, .func (.func k) #[] #[]] w fun e w' => e = .returned (.int .i64 (beforeF s q (s.size + 1) 0)) ∧ Below w.heap.size w w' := by
  go_enter Tryd.func19, Tryd.ntmps19
  go_wp2_with fail
  go_loopw [5] (fun _ wr => ∃ (f pos : Nat), s.size < f + pos ∧ pos ≤ s.size ∧ beforeF s q (s.size + 1) 0 = beforeF s q f pos ∧ Below w.heap.size w wr ∧
     wr.heap[w.heap.size]? = some (.stringIter s pos)) (fun _ wr => s.size - wr.iterPos w.heap.size)
  case atStart => exact ⟨s.size + 1, 0, by omega, by omega, rfl, (Below.refl _ _).alloc (Nat.le_refl _) _, iter_at rfl _ _⟩
  case round =>
    obtain ⟨f, pos, hf, hpos, he, hb, hi⟩ := hrel
    obtain ⟨f, rfl⟩ : ∃ g, f = g + 1 := ⟨f - 1, by omega⟩
    have HE := Lib.hid he; clear he
    have HB := Lib.hid hb; clear hb
    have HI := Lib.hid hi
    by_cases hlt : pos < s.size
    · have hn := Lib.run_next_any_at (P := Tryd.prog) wr w.heap.size s pos 0 hi hlt
      have hst : beforeF s q (f + 1) pos = if q (Utf8.decode s pos).1 then pos else beforeF s q f (pos + (Utf8.decode s pos).2) := by rw [beforeF, if_pos hlt]
      obtain ⟨n1, n2⟩ := dec_width s pos hlt
      generalize hw1 : wr.iterAt w.heap.size s (pos + (Utf8.decode s pos).2) = w1 at hn
      have HB1 : Hid (Below w.heap.size w w1) := by rw [← hw1]; exact Lib.below_iterAt HB.out (Nat.le_refl _) _ _
      have HI1 : Hid (w1.heap[w.heap.size]? = some (.stringIter s (pos + (Utf8.decode s pos).2))) := by rw [← hw1]; exact Lib.iterAt_heap _ _ _ _ _ hi
      have HST := Lib.hid hst
      clear hw1 hi hst
      go_wp2_with fail
      refine (hq _ w1).mono ?_
      rintro e w' ⟨rfl, rfl⟩
      generalize hqq : q ((Utf8.decode s pos).1 : Int) = b at HST ⊢
      clear hqq
      cases b
      · go_wp2_with fail
        go_roundw
        case rel => exact ⟨f, pos + (Utf8.decode s pos).2, by omega, by omega, by rw [HE.out, HST.out]; rfl, HB1.out, HI1.out⟩
        case measure => rw [iterPos_of HI.out, iterPos_of HI1.out]; omega
      · go_wp2_with fail
        go_ret
        exact ⟨by rw [HE.out, HST.out]; rfl, HB1.out⟩
    · have hn := Lib.run_next_end_at (P := Tryd.prog) wr w.heap.size s pos 0 hi hlt
      have hst : beforeF s q (f + 1) pos = s.size := by rw [beforeF, if_neg hlt]
      have HST := Lib.hid hst
      clear hi hst
      go_wp2_with fail
      go_ret
      exact ⟨by rw [HE.out, HST.out]; rfl, HB.out⟩

end Go.Proofs.YtghfmfgdcpihfaaDoor
