import Derived.Test.YtlddbelpbgmljaaDoorMa
import Derived.Test.YtlddbelpbgmljaaDoorShelf
import Derived.Deep.AppendLies
import Derived.Deep.RegionWith
import Derived.Deep.RegionLaw
import Derived.Lib.IndexMore
import Derived.Defers
import Derived.Recover
import Derived.Laws.Pointers
namespace Go.Proofs.YtlddbelpbgmljaaDoor
open Go.RowKit

def letterI (r : Int) : Bool := (decide (97 ≤ r) && decide (r ≤ 122)) || (decide (65 ≤ r) && decide (r ≤ 90)) || (r == 95)
def figureI (r : Int) : Bool := decide (48 ≤ r) && decide (r ≤ 57)
def blankI (r : Int) : Bool := (r == 32) || (r == 9) || (r == 13) || (r == 65279)
def outsideI (r : Int) : Bool := !letterI r && !figureI r
def newlineI (r : Int) : Bool := r == 10
theorem ret_bool {a b : Bool} (h : a = b) : Ending.returned (.bool a) = Ending.returned (.bool b) := by rw [h]

set_option maxHeartbeats 400000 in
theorem letter_any (r : Int) (w : World) :
    Calls Tryd.prog 53 #[.int .i32 r] w fun e w' => e = .returned (.bool (letterI r)) ∧ w' = w := by
  go_enter Tryd.func53, Tryd.ntmps53
  go_wp2_with fail
  all_goals (go_ret; refine ⟨ret_bool ?_, rfl⟩; unfold letterI; rw [Bool.eq_iff_iff]; simp; omega)

set_option maxHeartbeats 400000 in
theorem figure_any (r : Int) (w : World) :
    Calls Tryd.prog 57 #[.int .i32 r] w fun e w' => e = .returned (.bool (figureI r)) ∧ w' = w := by
  go_enter Tryd.func57, Tryd.ntmps57
  go_wp2_with fail
  all_goals (go_ret; refine ⟨ret_bool ?_, rfl⟩; unfold figureI; rw [Bool.eq_iff_iff]; simp <;> try omega)

set_option maxHeartbeats 400000 in
theorem blank_any (r : Int) (w : World) :
    Calls Tryd.prog 47 #[.int .i32 r] w fun e w' => e = .returned (.bool (blankI r)) ∧ w' = w := by
  go_enter Tryd.func47, Tryd.ntmps47
  go_wp2_with fail
  all_goals (go_ret; refine ⟨ret_bool ?_, rfl⟩; unfold blankI; simp_all)

set_option maxHeartbeats 400000 in
theorem newline_any (r : Int) (w : World) :
    Calls Tryd.prog 51 #[.int .i32 r] w fun e w' => e = .returned (.bool (newlineI r)) ∧ w' = w := by
  go_enter Tryd.func51, Tryd.ntmps51
  go_wp2_with fail
  all_goals (go_ret; exact ⟨rfl, rfl⟩)

set_option maxHeartbeats 400000 in
theorem outside_any (r : Int) (w : World) :
    Calls Tryd.prog 54 #[.int .i32 r] w fun e w' => e = .returned (.bool (outsideI r)) ∧ w' = w := by
  have h : outsideI r = (!letterI r && !figureI r) := rfl
  have H := Lib.hid h; clear h
  go_enter Tryd.func54, Tryd.ntmps54
  go_wp2_with (first
    | (go_at_call 53; refine (letter_any r _).mono ?_; rintro e w' ⟨rfl, rfl⟩; generalize letterI r = b at H ⊢; cases b)
    | (go_at_call 57; refine (figure_any r _).mono ?_; rintro e w' ⟨rfl, rfl⟩; generalize figureI r = c at H ⊢; cases c))
  all_goals (go_ret; exact ⟨ret_bool (by rw [H.out]; rfl), rfl⟩)

/-- How many bytes the blank r has. -/
def blankN (r : Int) : Int := if r = 65279 then 3 else 1
set_option maxHeartbeats 400000 in
theorem runeLen_blank (r : Int) (h : blankI r = true) (w : World) :
    Calls Tryd.prog 48 #[.int .i32 r] w fun e w' => e = .returned (.int .i64 (blankN r)) ∧ w' = w := by
  have hr : r = 32 ∨ r = 9 ∨ r = 13 ∨ r = 65279 := by simpa [blankI, or_assoc] using h
  clear h
  rcases hr with rfl | rfl | rfl | rfl
  all_goals (go_enter Tryd.func48, Tryd.ntmps48; go_wp2_with fail; go_ret; exact ⟨rfl, rfl⟩)

/-- How many bytes stand ahead of the first sign that q holds for. -/
def beforeF (s : ByteArray) (q : Int → Bool) : Nat → Nat → Nat
  | 0, _ => s.size
  | f + 1, i => if i < s.size then (if q (Utf8.decode s i).1 then i else beforeF s q f (i + (Utf8.decode s i).2)) else s.size

set_option maxHeartbeats 400000 in
theorem before_any (q : Int → Bool) (k : Nat) (s : ByteArray) (w : World) (hs : s.size ≤ 4611686018427387904)
    (hk : ∀ args (w : World), (callFunc k args).run Tryd.prog w = .ok (.enter k args) w)
    (hq : ∀ (r : Int) (w : World), Calls Tryd.prog k #[.int .i32 r] w fun e w' => e = .returned (.bool (q r)) ∧ w' = w) :
    Calls Tryd.prog 50 #[.string s, .func (.func k) #[] #[]] w fun e w' => e = .returned (.int .i64 (beforeF s q (s.size + 1) 0)) ∧ Below w.heap.size w w' := by
  go_enter Tryd.func50, Tryd.ntmps50
  go_wp2_with fail
  go_loopw [5] (fun _ wr => ∃ (f pos : Nat), s.size < f + pos ∧ pos ≤ s.size ∧ beforeF s q (s.size + 1) 0 = beforeF s q f pos ∧ Below w.heap.size w wr ∧
     wr.heap[w.heap.size]? = some (.stringIter s pos)) (fun _ wr => s.size - wr.iterPos w.heap.size)
  case atStart => exact ⟨s.size + 1, 0, by omega, by omega, rfl, (Below.refl _ _).alloc (Nat.le_refl _) _, iter_at rfl _ _⟩
  case round =>
    obtain ⟨f, pos, hf, hpos, he, hb, hi⟩ := hrel
    obtain ⟨f, rfl⟩ : ∃ g, f = g + 1 := ⟨f - 1, by omega⟩
    have HE := Lib.hid he; clear he
    have HB := Lib.hid hb; clear hb
    have HI := Lib.hid hi
    by_cases hlt : pos < s.size
    · have hn := Lib.run_next_any_at (P := Tryd.prog) wr w.heap.size s pos 0 hi hlt
      have hst : beforeF s q (f + 1) pos = if q (Utf8.decode s pos).1 then pos else beforeF s q f (pos + (Utf8.decode s pos).2) := by rw [beforeF, if_pos hlt]
      obtain ⟨n1, n2⟩ := dec_width s pos hlt
      generalize hw1 : wr.iterAt w.heap.size s (pos + (Utf8.decode s pos).2) = w1 at hn
      have HB1 : Hid (Below w.heap.size w w1) := by rw [← hw1]; exact Lib.below_iterAt HB.out (Nat.le_refl _) _ _
      have HI1 : Hid (w1.heap[w.heap.size]? = some (.stringIter s (pos + (Utf8.decode s pos).2))) := by rw [← hw1]; exact Lib.iterAt_heap _ _ _ _ _ hi
      have HST := Lib.hid hst
      clear hw1 hi hst
      go_wp2_with fail
      refine (hq _ w1).mono ?_
      rintro e w' ⟨rfl, rfl⟩
      generalize hqq : q ((Utf8.decode s pos).1 : Int) = b at HST ⊢
      clear hqq
      cases b
      · go_wp2_with fail
        go_roundw
        case rel => exact ⟨f, pos + (Utf8.decode s pos).2, by omega, by omega, by rw [HE.out, HST.out]; rfl, HB1.out, HI1.out⟩
        case measure => rw [iterPos_of HI.out, iterPos_of HI1.out]; omega
      · go_wp2_with fail
        go_ret
        exact ⟨by rw [HE.out, HST.out]; rfl, HB1.out⟩
    · have hn := Lib.run_next_end_at (P := Tryd.prog) wr w.heap.size s pos 0 hi hlt
      have hst : beforeF s q (f + 1) pos = s.size := by rw [beforeF, if_neg hlt]
      have HST := Lib.hid hst
      clear hi hst
      go_wp2_with fail
      go_ret
      exact ⟨by rw [HE.out, HST.out]; rfl, HB.out⟩

end Go.Proofs.YtlddbelpbgmljaaDoor
namespace Go.Proofs.YtlddbelpbgmljaaDoor
open Go.RowKit

def words1 : List (List UInt8) := [[98, 114, 101, 97, 107], [99, 111, 110, 116, 105, 110, 117, 101], [101, 108, 115, 101], [102, 111, 114], [102, 117, 110, 99], [105, 102], [105, 109, 112, 111, 114, 116], [105, 110, 116, 101, 114, 102, 97, 99, 101], [112, 97, 99, 107, 97, 103, 101], [114, 97, 110, 103, 101], [114, 101, 116, 117, 114, 110], [115, 116, 114, 117, 99, 116], [116, 121, 112, 101], [118, 97, 114]]
def words2 : List (List UInt8) := [[99, 97, 115, 101], [99, 104, 97, 110], [99, 111, 110, 115, 116], [100, 101, 102, 97, 117, 108, 116], [100, 101, 102, 101, 114], [102, 97, 108, 108, 116, 104, 114, 111, 117, 103, 104], [103, 111], [103, 111, 116, 111], [109, 97, 112], [115, 101, 108, 101, 99, 116], [115, 119, 105, 116, 99, 104]]
/-- 1: a word of the fragment, 2: of the others, 0: none. -/
def wordL (l : List UInt8) : Int := if l ∈ words1 then 1 else if l ∈ words2 then 2 else 0

theorem ofL {s : ByteArray} {l : List UInt8} (h : s.toList = l) : s = ⟨l.toArray⟩ := by
  apply ByteArray.ext
  rw [Lib.toList_data] at h
  apply Array.toList_inj.1
  rw [h]

set_option maxHeartbeats 400000 in
theorem word_0 (w : World) : Calls Tryd.prog 74 #[.string ⟨#[98, 114, 101, 97, 107]⟩] w fun e w' => e = .returned (.int .i64 1) ∧ w' = w := by
  go_enter Tryd.func74, Tryd.ntmps74
  go_wp2_with fail
  go_ret
  exact ⟨rfl, rfl⟩
set_option maxHeartbeats 400000 in
theorem word_1 (w : World) : Calls Tryd.prog 74 #[.string ⟨#[99, 111, 110, 116, 105, 110, 117, 101]⟩] w fun e w' => e = .returned (.int .i64 1) ∧ w' = w := by
  go_enter Tryd.func74, Tryd.ntmps74
  go_wp2_with fail
  go_ret
  exact ⟨rfl, rfl⟩
set_option maxHeartbeats 400000 in
theorem word_2 (w : World) : Calls Tryd.prog 74 #[.string ⟨#[101, 108, 115, 101]⟩] w fun e w' => e = .returned (.int .i64 1) ∧ w' = w := by
  go_enter Tryd.func74, Tryd.ntmps74
  go_wp2_with fail
  go_ret
  exact ⟨rfl, rfl⟩
set_option maxHeartbeats 400000 in
theorem word_3 (w : World) : Calls Tryd.prog 74 #[.string ⟨#[102, 111, 114]⟩] w fun e w' => e = .returned (.int .i64 1) ∧ w' = w := by
  go_enter Tryd.func74, Tryd.ntmps74
  go_wp2_with fail
  go_ret
  exact ⟨rfl, rfl⟩
set_option maxHeartbeats 400000 in
theorem word_4 (w : World) : Calls Tryd.prog 74 #[.string ⟨#[102, 117, 110, 99]⟩] w fun e w' => e = .returned (.int .i64 1) ∧ w' = w := by
  go_enter Tryd.func74, Tryd.ntmps74
  go_wp2_with fail
  go_ret
  exact ⟨rfl, rfl⟩
set_option maxHeartbeats 400000 in
theorem word_5 (w : World) : Calls Tryd.prog 74 #[.string ⟨#[105, 102]⟩] w fun e w' => e = .returned (.int .i64 1) ∧ w' = w := by
  go_enter Tryd.func74, Tryd.ntmps74
  go_wp2_with fail
  go_ret
  exact ⟨rfl, rfl⟩
set_option maxHeartbeats 400000 in
theorem word_6 (w : World) : Calls Tryd.prog 74 #[.string ⟨#[105, 109, 112, 111, 114, 116]⟩] w fun e w' => e = .returned (.int .i64 1) ∧ w' = w := by
  go_enter Tryd.func74, Tryd.ntmps74
  go_wp2_with fail
  go_ret
  exact ⟨rfl, rfl⟩
set_option maxHeartbeats 400000 in
theorem word_7 (w : World) : Calls Tryd.prog 74 #[.string ⟨#[105, 110, 116, 101, 114, 102, 97, 99, 101]⟩] w fun e w' => e = .returned (.int .i64 1) ∧ w' = w := by
  go_enter Tryd.func74, Tryd.ntmps74
  go_wp2_with fail
  go_ret
  exact ⟨rfl, rfl⟩
set_option maxHeartbeats 400000 in
theorem word_8 (w : World) : Calls Tryd.prog 74 #[.string ⟨#[112, 97, 99, 107, 97, 103, 101]⟩] w fun e w' => e = .returned (.int .i64 1) ∧ w' = w := by
  go_enter Tryd.func74, Tryd.ntmps74
  go_wp2_with fail
  go_ret
  exact ⟨rfl, rfl⟩
set_option maxHeartbeats 400000 in
theorem word_9 (w : World) : Calls Tryd.prog 74 #[.string ⟨#[114, 97, 110, 103, 101]⟩] w fun e w' => e = .returned (.int .i64 1) ∧ w' = w := by
  go_enter Tryd.func74, Tryd.ntmps74
  go_wp2_with fail
  go_ret
  exact ⟨rfl, rfl⟩
set_option maxHeartbeats 400000 in
theorem word_10 (w : World) : Calls Tryd.prog 74 #[.string ⟨#[114, 101, 116, 117, 114, 110]⟩] w fun e w' => e = .returned (.int .i64 1) ∧ w' = w := by
  go_enter Tryd.func74, Tryd.ntmps74
  go_wp2_with fail
  go_ret
  exact ⟨rfl, rfl⟩
set_option maxHeartbeats 400000 in
theorem word_11 (w : World) : Calls Tryd.prog 74 #[.string ⟨#[115, 116, 114, 117, 99, 116]⟩] w fun e w' => e = .returned (.int .i64 1) ∧ w' = w := by
  go_enter Tryd.func74, Tryd.ntmps74
  go_wp2_with fail
  go_ret
  exact ⟨rfl, rfl⟩
set_option maxHeartbeats 400000 in
theorem word_12 (w : World) : Calls Tryd.prog 74 #[.string ⟨#[116, 121, 112, 101]⟩] w fun e w' => e = .returned (.int .i64 1) ∧ w' = w := by
  go_enter Tryd.func74, Tryd.ntmps74
  go_wp2_with fail
  go_ret
  exact ⟨rfl, rfl⟩
set_option maxHeartbeats 400000 in
theorem word_13 (w : World) : Calls Tryd.prog 74 #[.string ⟨#[118, 97, 114]⟩] w fun e w' => e = .returned (.int .i64 1) ∧ w' = w := by
  go_enter Tryd.func74, Tryd.ntmps74
  go_wp2_with fail
  go_ret
  exact ⟨rfl, rfl⟩
set_option maxHeartbeats 400000 in
theorem word_14 (w : World) : Calls Tryd.prog 74 #[.string ⟨#[99, 97, 115, 101]⟩] w fun e w' => e = .returned (.int .i64 2) ∧ w' = w := by
  go_enter Tryd.func74, Tryd.ntmps74
  go_wp2_with fail
  go_ret
  exact ⟨rfl, rfl⟩
set_option maxHeartbeats 400000 in
theorem word_15 (w : World) : Calls Tryd.prog 74 #[.string ⟨#[99, 104, 97, 110]⟩] w fun e w' => e = .returned (.int .i64 2) ∧ w' = w := by
  go_enter Tryd.func74, Tryd.ntmps74
  go_wp2_with fail
  go_ret
  exact ⟨rfl, rfl⟩
set_option maxHeartbeats 400000 in
theorem word_16 (w : World) : Calls Tryd.prog 74 #[.string ⟨#[99, 111, 110, 115, 116]⟩] w fun e w' => e = .returned (.int .i64 2) ∧ w' = w := by
  go_enter Tryd.func74, Tryd.ntmps74
  go_wp2_with fail
  go_ret
  exact ⟨rfl, rfl⟩
set_option maxHeartbeats 400000 in
theorem word_17 (w : World) : Calls Tryd.prog 74 #[.string ⟨#[100, 101, 102, 97, 117, 108, 116]⟩] w fun e w' => e = .returned (.int .i64 2) ∧ w' = w := by
  go_enter Tryd.func74, Tryd.ntmps74
  go_wp2_with fail
  go_ret
  exact ⟨rfl, rfl⟩
set_option maxHeartbeats 400000 in
theorem word_18 (w : World) : Calls Tryd.prog 74 #[.string ⟨#[100, 101, 102, 101, 114]⟩] w fun e w' => e = .returned (.int .i64 2) ∧ w' = w := by
  go_enter Tryd.func74, Tryd.ntmps74
  go_wp2_with fail
  go_ret
  exact ⟨rfl, rfl⟩
set_option maxHeartbeats 400000 in
theorem word_19 (w : World) : Calls Tryd.prog 74 #[.string ⟨#[102, 97, 108, 108, 116, 104, 114, 111, 117, 103, 104]⟩] w fun e w' => e = .returned (.int .i64 2) ∧ w' = w := by
  go_enter Tryd.func74, Tryd.ntmps74
  go_wp2_with fail
  go_ret
  exact ⟨rfl, rfl⟩
set_option maxHeartbeats 400000 in
theorem word_20 (w : World) : Calls Tryd.prog 74 #[.string ⟨#[103, 111]⟩] w fun e w' => e = .returned (.int .i64 2) ∧ w' = w := by
  go_enter Tryd.func74, Tryd.ntmps74
  go_wp2_with fail
  go_ret
  exact ⟨rfl, rfl⟩
set_option maxHeartbeats 400000 in
theorem word_21 (w : World) : Calls Tryd.prog 74 #[.string ⟨#[103, 111, 116, 111]⟩] w fun e w' => e = .returned (.int .i64 2) ∧ w' = w := by
  go_enter Tryd.func74, Tryd.ntmps74
  go_wp2_with fail
  go_ret
  exact ⟨rfl, rfl⟩
set_option maxHeartbeats 400000 in
theorem word_22 (w : World) : Calls Tryd.prog 74 #[.string ⟨#[109, 97, 112]⟩] w fun e w' => e = .returned (.int .i64 2) ∧ w' = w := by
  go_enter Tryd.func74, Tryd.ntmps74
  go_wp2_with fail
  go_ret
  exact ⟨rfl, rfl⟩
set_option maxHeartbeats 400000 in
theorem word_23 (w : World) : Calls Tryd.prog 74 #[.string ⟨#[115, 101, 108, 101, 99, 116]⟩] w fun e w' => e = .returned (.int .i64 2) ∧ w' = w := by
  go_enter Tryd.func74, Tryd.ntmps74
  go_wp2_with fail
  go_ret
  exact ⟨rfl, rfl⟩
set_option maxHeartbeats 400000 in
theorem word_24 (w : World) : Calls Tryd.prog 74 #[.string ⟨#[115, 119, 105, 116, 99, 104]⟩] w fun e w' => e = .returned (.int .i64 2) ∧ w' = w := by
  go_enter Tryd.func74, Tryd.ntmps74
  go_wp2_with fail
  go_ret
  exact ⟨rfl, rfl⟩

set_option maxHeartbeats 1600000 in
theorem word_any (s : ByteArray) (w : World) :
    Calls Tryd.prog 74 #[.string s] w fun e w' => e = .returned (.int .i64 (wordL s.toList)) ∧ w' = w := by
  by_cases c0 : s.toList = [98, 114, 101, 97, 107]
  · rw [show wordL s.toList = 1 from by rw [c0]; decide, ofL c0]; exact word_0 w
  by_cases c1 : s.toList = [99, 111, 110, 116, 105, 110, 117, 101]
  · rw [show wordL s.toList = 1 from by rw [c1]; decide, ofL c1]; exact word_1 w
  by_cases c2 : s.toList = [101, 108, 115, 101]
  · rw [show wordL s.toList = 1 from by rw [c2]; decide, ofL c2]; exact word_2 w
  by_cases c3 : s.toList = [102, 111, 114]
  · rw [show wordL s.toList = 1 from by rw [c3]; decide, ofL c3]; exact word_3 w
  by_cases c4 : s.toList = [102, 117, 110, 99]
  · rw [show wordL s.toList = 1 from by rw [c4]; decide, ofL c4]; exact word_4 w
  by_cases c5 : s.toList = [105, 102]
  · rw [show wordL s.toList = 1 from by rw [c5]; decide, ofL c5]; exact word_5 w
  by_cases c6 : s.toList = [105, 109, 112, 111, 114, 116]
  · rw [show wordL s.toList = 1 from by rw [c6]; decide, ofL c6]; exact word_6 w
  by_cases c7 : s.toList = [105, 110, 116, 101, 114, 102, 97, 99, 101]
  · rw [show wordL s.toList = 1 from by rw [c7]; decide, ofL c7]; exact word_7 w
  by_cases c8 : s.toList = [112, 97, 99, 107, 97, 103, 101]
  · rw [show wordL s.toList = 1 from by rw [c8]; decide, ofL c8]; exact word_8 w
  by_cases c9 : s.toList = [114, 97, 110, 103, 101]
  · rw [show wordL s.toList = 1 from by rw [c9]; decide, ofL c9]; exact word_9 w
  by_cases c10 : s.toList = [114, 101, 116, 117, 114, 110]
  · rw [show wordL s.toList = 1 from by rw [c10]; decide, ofL c10]; exact word_10 w
  by_cases c11 : s.toList = [115, 116, 114, 117, 99, 116]
  · rw [show wordL s.toList = 1 from by rw [c11]; decide, ofL c11]; exact word_11 w
  by_cases c12 : s.toList = [116, 121, 112, 101]
  · rw [show wordL s.toList = 1 from by rw [c12]; decide, ofL c12]; exact word_12 w
  by_cases c13 : s.toList = [118, 97, 114]
  · rw [show wordL s.toList = 1 from by rw [c13]; decide, ofL c13]; exact word_13 w
  by_cases c14 : s.toList = [99, 97, 115, 101]
  · rw [show wordL s.toList = 2 from by rw [c14]; decide, ofL c14]; exact word_14 w
  by_cases c15 : s.toList = [99, 104, 97, 110]
  · rw [show wordL s.toList = 2 from by rw [c15]; decide, ofL c15]; exact word_15 w
  by_cases c16 : s.toList = [99, 111, 110, 115, 116]
  · rw [show wordL s.toList = 2 from by rw [c16]; decide, ofL c16]; exact word_16 w
  by_cases c17 : s.toList = [100, 101, 102, 97, 117, 108, 116]
  · rw [show wordL s.toList = 2 from by rw [c17]; decide, ofL c17]; exact word_17 w
  by_cases c18 : s.toList = [100, 101, 102, 101, 114]
  · rw [show wordL s.toList = 2 from by rw [c18]; decide, ofL c18]; exact word_18 w
  by_cases c19 : s.toList = [102, 97, 108, 108, 116, 104, 114, 111, 117, 103, 104]
  · rw [show wordL s.toList = 2 from by rw [c19]; decide, ofL c19]; exact word_19 w
  by_cases c20 : s.toList = [103, 111]
  · rw [show wordL s.toList = 2 from by rw [c20]; decide, ofL c20]; exact word_20 w
  by_cases c21 : s.toList = [103, 111, 116, 111]
  · rw [show wordL s.toList = 2 from by rw [c21]; decide, ofL c21]; exact word_21 w
  by_cases c22 : s.toList = [109, 97, 112]
  · rw [show wordL s.toList = 2 from by rw [c22]; decide, ofL c22]; exact word_22 w
  by_cases c23 : s.toList = [115, 101, 108, 101, 99, 116]
  · rw [show wordL s.toList = 2 from by rw [c23]; decide, ofL c23]; exact word_23 w
  by_cases c24 : s.toList = [115, 119, 105, 116, 99, 104]
  · rw [show wordL s.toList = 2 from by rw [c24]; decide, ofL c24]; exact word_24 w
  have H : Hid (wordL s.toList = 0) := by show _ = _; simp [wordL, words1, words2, c0, c1, c2, c3, c4, c5, c6, c7, c8, c9, c10, c11, c12, c13, c14, c15, c16, c17, c18, c19, c20, c21, c22, c23, c24]
  replace c0 : (s.toList == [98, 114, 101, 97, 107]) = false := by simpa using c0
  replace c1 : (s.toList == [99, 111, 110, 116, 105, 110, 117, 101]) = false := by simpa using c1
  replace c2 : (s.toList == [101, 108, 115, 101]) = false := by simpa using c2
  replace c3 : (s.toList == [102, 111, 114]) = false := by simpa using c3
  replace c4 : (s.toList == [102, 117, 110, 99]) = false := by simpa using c4
  replace c5 : (s.toList == [105, 102]) = false := by simpa using c5
  replace c6 : (s.toList == [105, 109, 112, 111, 114, 116]) = false := by simpa using c6
  replace c7 : (s.toList == [105, 110, 116, 101, 114, 102, 97, 99, 101]) = false := by simpa using c7
  replace c8 : (s.toList == [112, 97, 99, 107, 97, 103, 101]) = false := by simpa using c8
  replace c9 : (s.toList == [114, 97, 110, 103, 101]) = false := by simpa using c9
  replace c10 : (s.toList == [114, 101, 116, 117, 114, 110]) = false := by simpa using c10
  replace c11 : (s.toList == [115, 116, 114, 117, 99, 116]) = false := by simpa using c11
  replace c12 : (s.toList == [116, 121, 112, 101]) = false := by simpa using c12
  replace c13 : (s.toList == [118, 97, 114]) = false := by simpa using c13
  replace c14 : (s.toList == [99, 97, 115, 101]) = false := by simpa using c14
  replace c15 : (s.toList == [99, 104, 97, 110]) = false := by simpa using c15
  replace c16 : (s.toList == [99, 111, 110, 115, 116]) = false := by simpa using c16
  replace c17 : (s.toList == [100, 101, 102, 97, 117, 108, 116]) = false := by simpa using c17
  replace c18 : (s.toList == [100, 101, 102, 101, 114]) = false := by simpa using c18
  replace c19 : (s.toList == [102, 97, 108, 108, 116, 104, 114, 111, 117, 103, 104]) = false := by simpa using c19
  replace c20 : (s.toList == [103, 111]) = false := by simpa using c20
  replace c21 : (s.toList == [103, 111, 116, 111]) = false := by simpa using c21
  replace c22 : (s.toList == [109, 97, 112]) = false := by simpa using c22
  replace c23 : (s.toList == [115, 101, 108, 101, 99, 116]) = false := by simpa using c23
  replace c24 : (s.toList == [115, 119, 105, 116, 99, 104]) = false := by simpa using c24
  go_enter Tryd.func74, Tryd.ntmps74
  go_wp2_with fail
  go_ret
  exact ⟨by rw [H.out]; rfl, rfl⟩
end Go.Proofs.YtlddbelpbgmljaaDoor
namespace Go.Proofs.YtlddbelpbgmljaaDoor
open Go.RowKit

def signsL : List ByteArray := [⟨#[60, 60, 61]⟩, ⟨#[62, 62, 61]⟩, ⟨#[38, 94, 61]⟩, ⟨#[46, 46, 46]⟩, ⟨#[38, 38]⟩, ⟨#[124, 124]⟩, ⟨#[61, 61]⟩, ⟨#[33, 61]⟩, ⟨#[60, 61]⟩, ⟨#[62, 61]⟩, ⟨#[58, 61]⟩, ⟨#[43, 43]⟩, ⟨#[45, 45]⟩, ⟨#[43, 61]⟩, ⟨#[45, 61]⟩, ⟨#[42, 61]⟩, ⟨#[47, 61]⟩, ⟨#[37, 61]⟩, ⟨#[38, 61]⟩, ⟨#[124, 61]⟩, ⟨#[94, 61]⟩, ⟨#[60, 60]⟩, ⟨#[62, 62]⟩, ⟨#[38, 94]⟩, ⟨#[60, 45]⟩, ⟨#[43]⟩, ⟨#[45]⟩, ⟨#[42]⟩, ⟨#[47]⟩, ⟨#[37]⟩, ⟨#[38]⟩, ⟨#[124]⟩, ⟨#[94]⟩, ⟨#[60]⟩, ⟨#[62]⟩, ⟨#[61]⟩, ⟨#[33]⟩, ⟨#[40]⟩, ⟨#[41]⟩, ⟨#[91]⟩, ⟨#[93]⟩, ⟨#[123]⟩, ⟨#[125]⟩, ⟨#[44]⟩, ⟨#[59]⟩, ⟨#[46]⟩, ⟨#[58]⟩, ⟨#[126]⟩]
def signsV : Array Value := #[.string ⟨#[60, 60, 61]⟩, .string ⟨#[62, 62, 61]⟩, .string ⟨#[38, 94, 61]⟩, .string ⟨#[46, 46, 46]⟩, .string ⟨#[38, 38]⟩, .string ⟨#[124, 124]⟩, .string ⟨#[61, 61]⟩, .string ⟨#[33, 61]⟩, .string ⟨#[60, 61]⟩, .string ⟨#[62, 61]⟩, .string ⟨#[58, 61]⟩, .string ⟨#[43, 43]⟩, .string ⟨#[45, 45]⟩, .string ⟨#[43, 61]⟩, .string ⟨#[45, 61]⟩, .string ⟨#[42, 61]⟩, .string ⟨#[47, 61]⟩, .string ⟨#[37, 61]⟩, .string ⟨#[38, 61]⟩, .string ⟨#[124, 61]⟩, .string ⟨#[94, 61]⟩, .string ⟨#[60, 60]⟩, .string ⟨#[62, 62]⟩, .string ⟨#[38, 94]⟩, .string ⟨#[60, 45]⟩, .string ⟨#[43]⟩, .string ⟨#[45]⟩, .string ⟨#[42]⟩, .string ⟨#[47]⟩, .string ⟨#[37]⟩, .string ⟨#[38]⟩, .string ⟨#[124]⟩, .string ⟨#[94]⟩, .string ⟨#[60]⟩, .string ⟨#[62]⟩, .string ⟨#[61]⟩, .string ⟨#[33]⟩, .string ⟨#[40]⟩, .string ⟨#[41]⟩, .string ⟨#[91]⟩, .string ⟨#[93]⟩, .string ⟨#[123]⟩, .string ⟨#[125]⟩, .string ⟨#[44]⟩, .string ⟨#[59]⟩, .string ⟨#[46]⟩, .string ⟨#[58]⟩, .string ⟨#[126]⟩]
/-- How many bytes the first of these signs has that s begins with. -/
def firstSign (s : ByteArray) : List ByteArray → Nat
  | [] => 0
  | x :: r => if pre s x then x.size else firstSign s r

theorem sign_at_0 (w : World) : (Instr.index 94 (.agg signsV) (.int .i64 0)).run Tryd.prog w = .ok (.string ⟨#[60, 60, 61]⟩) w := by kernel_rfl
theorem sign_at_1 (w : World) : (Instr.index 94 (.agg signsV) (.int .i64 1)).run Tryd.prog w = .ok (.string ⟨#[62, 62, 61]⟩) w := by kernel_rfl
theorem sign_at_2 (w : World) : (Instr.index 94 (.agg signsV) (.int .i64 2)).run Tryd.prog w = .ok (.string ⟨#[38, 94, 61]⟩) w := by kernel_rfl
theorem sign_at_3 (w : World) : (Instr.index 94 (.agg signsV) (.int .i64 3)).run Tryd.prog w = .ok (.string ⟨#[46, 46, 46]⟩) w := by kernel_rfl
theorem sign_at_4 (w : World) : (Instr.index 94 (.agg signsV) (.int .i64 4)).run Tryd.prog w = .ok (.string ⟨#[38, 38]⟩) w := by kernel_rfl
theorem sign_at_5 (w : World) : (Instr.index 94 (.agg signsV) (.int .i64 5)).run Tryd.prog w = .ok (.string ⟨#[124, 124]⟩) w := by kernel_rfl
theorem sign_at_6 (w : World) : (Instr.index 94 (.agg signsV) (.int .i64 6)).run Tryd.prog w = .ok (.string ⟨#[61, 61]⟩) w := by kernel_rfl
theorem sign_at_7 (w : World) : (Instr.index 94 (.agg signsV) (.int .i64 7)).run Tryd.prog w = .ok (.string ⟨#[33, 61]⟩) w := by kernel_rfl
theorem sign_at_8 (w : World) : (Instr.index 94 (.agg signsV) (.int .i64 8)).run Tryd.prog w = .ok (.string ⟨#[60, 61]⟩) w := by kernel_rfl
theorem sign_at_9 (w : World) : (Instr.index 94 (.agg signsV) (.int .i64 9)).run Tryd.prog w = .ok (.string ⟨#[62, 61]⟩) w := by kernel_rfl
theorem sign_at_10 (w : World) : (Instr.index 94 (.agg signsV) (.int .i64 10)).run Tryd.prog w = .ok (.string ⟨#[58, 61]⟩) w := by kernel_rfl
theorem sign_at_11 (w : World) : (Instr.index 94 (.agg signsV) (.int .i64 11)).run Tryd.prog w = .ok (.string ⟨#[43, 43]⟩) w := by kernel_rfl
theorem sign_at_12 (w : World) : (Instr.index 94 (.agg signsV) (.int .i64 12)).run Tryd.prog w = .ok (.string ⟨#[45, 45]⟩) w := by kernel_rfl
theorem sign_at_13 (w : World) : (Instr.index 94 (.agg signsV) (.int .i64 13)).run Tryd.prog w = .ok (.string ⟨#[43, 61]⟩) w := by kernel_rfl
theorem sign_at_14 (w : World) : (Instr.index 94 (.agg signsV) (.int .i64 14)).run Tryd.prog w = .ok (.string ⟨#[45, 61]⟩) w := by kernel_rfl
theorem sign_at_15 (w : World) : (Instr.index 94 (.agg signsV) (.int .i64 15)).run Tryd.prog w = .ok (.string ⟨#[42, 61]⟩) w := by kernel_rfl
theorem sign_at_16 (w : World) : (Instr.index 94 (.agg signsV) (.int .i64 16)).run Tryd.prog w = .ok (.string ⟨#[47, 61]⟩) w := by kernel_rfl
theorem sign_at_17 (w : World) : (Instr.index 94 (.agg signsV) (.int .i64 17)).run Tryd.prog w = .ok (.string ⟨#[37, 61]⟩) w := by kernel_rfl
theorem sign_at_18 (w : World) : (Instr.index 94 (.agg signsV) (.int .i64 18)).run Tryd.prog w = .ok (.string ⟨#[38, 61]⟩) w := by kernel_rfl
theorem sign_at_19 (w : World) : (Instr.index 94 (.agg signsV) (.int .i64 19)).run Tryd.prog w = .ok (.string ⟨#[124, 61]⟩) w := by kernel_rfl
theorem sign_at_20 (w : World) : (Instr.index 94 (.agg signsV) (.int .i64 20)).run Tryd.prog w = .ok (.string ⟨#[94, 61]⟩) w := by kernel_rfl
theorem sign_at_21 (w : World) : (Instr.index 94 (.agg signsV) (.int .i64 21)).run Tryd.prog w = .ok (.string ⟨#[60, 60]⟩) w := by kernel_rfl
theorem sign_at_22 (w : World) : (Instr.index 94 (.agg signsV) (.int .i64 22)).run Tryd.prog w = .ok (.string ⟨#[62, 62]⟩) w := by kernel_rfl
theorem sign_at_23 (w : World) : (Instr.index 94 (.agg signsV) (.int .i64 23)).run Tryd.prog w = .ok (.string ⟨#[38, 94]⟩) w := by kernel_rfl
theorem sign_at_24 (w : World) : (Instr.index 94 (.agg signsV) (.int .i64 24)).run Tryd.prog w = .ok (.string ⟨#[60, 45]⟩) w := by kernel_rfl
theorem sign_at_25 (w : World) : (Instr.index 94 (.agg signsV) (.int .i64 25)).run Tryd.prog w = .ok (.string ⟨#[43]⟩) w := by kernel_rfl
theorem sign_at_26 (w : World) : (Instr.index 94 (.agg signsV) (.int .i64 26)).run Tryd.prog w = .ok (.string ⟨#[45]⟩) w := by kernel_rfl
theorem sign_at_27 (w : World) : (Instr.index 94 (.agg signsV) (.int .i64 27)).run Tryd.prog w = .ok (.string ⟨#[42]⟩) w := by kernel_rfl
theorem sign_at_28 (w : World) : (Instr.index 94 (.agg signsV) (.int .i64 28)).run Tryd.prog w = .ok (.string ⟨#[47]⟩) w := by kernel_rfl
theorem sign_at_29 (w : World) : (Instr.index 94 (.agg signsV) (.int .i64 29)).run Tryd.prog w = .ok (.string ⟨#[37]⟩) w := by kernel_rfl
theorem sign_at_30 (w : World) : (Instr.index 94 (.agg signsV) (.int .i64 30)).run Tryd.prog w = .ok (.string ⟨#[38]⟩) w := by kernel_rfl
theorem sign_at_31 (w : World) : (Instr.index 94 (.agg signsV) (.int .i64 31)).run Tryd.prog w = .ok (.string ⟨#[124]⟩) w := by kernel_rfl
theorem sign_at_32 (w : World) : (Instr.index 94 (.agg signsV) (.int .i64 32)).run Tryd.prog w = .ok (.string ⟨#[94]⟩) w := by kernel_rfl
theorem sign_at_33 (w : World) : (Instr.index 94 (.agg signsV) (.int .i64 33)).run Tryd.prog w = .ok (.string ⟨#[60]⟩) w := by kernel_rfl
theorem sign_at_34 (w : World) : (Instr.index 94 (.agg signsV) (.int .i64 34)).run Tryd.prog w = .ok (.string ⟨#[62]⟩) w := by kernel_rfl
theorem sign_at_35 (w : World) : (Instr.index 94 (.agg signsV) (.int .i64 35)).run Tryd.prog w = .ok (.string ⟨#[61]⟩) w := by kernel_rfl
theorem sign_at_36 (w : World) : (Instr.index 94 (.agg signsV) (.int .i64 36)).run Tryd.prog w = .ok (.string ⟨#[33]⟩) w := by kernel_rfl
theorem sign_at_37 (w : World) : (Instr.index 94 (.agg signsV) (.int .i64 37)).run Tryd.prog w = .ok (.string ⟨#[40]⟩) w := by kernel_rfl
theorem sign_at_38 (w : World) : (Instr.index 94 (.agg signsV) (.int .i64 38)).run Tryd.prog w = .ok (.string ⟨#[41]⟩) w := by kernel_rfl
theorem sign_at_39 (w : World) : (Instr.index 94 (.agg signsV) (.int .i64 39)).run Tryd.prog w = .ok (.string ⟨#[91]⟩) w := by kernel_rfl
theorem sign_at_40 (w : World) : (Instr.index 94 (.agg signsV) (.int .i64 40)).run Tryd.prog w = .ok (.string ⟨#[93]⟩) w := by kernel_rfl
theorem sign_at_41 (w : World) : (Instr.index 94 (.agg signsV) (.int .i64 41)).run Tryd.prog w = .ok (.string ⟨#[123]⟩) w := by kernel_rfl
theorem sign_at_42 (w : World) : (Instr.index 94 (.agg signsV) (.int .i64 42)).run Tryd.prog w = .ok (.string ⟨#[125]⟩) w := by kernel_rfl
theorem sign_at_43 (w : World) : (Instr.index 94 (.agg signsV) (.int .i64 43)).run Tryd.prog w = .ok (.string ⟨#[44]⟩) w := by kernel_rfl
theorem sign_at_44 (w : World) : (Instr.index 94 (.agg signsV) (.int .i64 44)).run Tryd.prog w = .ok (.string ⟨#[59]⟩) w := by kernel_rfl
theorem sign_at_45 (w : World) : (Instr.index 94 (.agg signsV) (.int .i64 45)).run Tryd.prog w = .ok (.string ⟨#[46]⟩) w := by kernel_rfl
theorem sign_at_46 (w : World) : (Instr.index 94 (.agg signsV) (.int .i64 46)).run Tryd.prog w = .ok (.string ⟨#[58]⟩) w := by kernel_rfl
theorem sign_at_47 (w : World) : (Instr.index 94 (.agg signsV) (.int .i64 47)).run Tryd.prog w = .ok (.string ⟨#[126]⟩) w := by kernel_rfl
theorem sign_idx (k : Nat) (h : k < 48) (w : World) : (Instr.index 94 (.agg signsV) (.int .i64 k)).run Tryd.prog w = .ok (.string (signsL.getD k ByteArray.empty)) w :=
  match k, h with
  | 0, _ => sign_at_0 w
  | 1, _ => sign_at_1 w
  | 2, _ => sign_at_2 w
  | 3, _ => sign_at_3 w
  | 4, _ => sign_at_4 w
  | 5, _ => sign_at_5 w
  | 6, _ => sign_at_6 w
  | 7, _ => sign_at_7 w
  | 8, _ => sign_at_8 w
  | 9, _ => sign_at_9 w
  | 10, _ => sign_at_10 w
  | 11, _ => sign_at_11 w
  | 12, _ => sign_at_12 w
  | 13, _ => sign_at_13 w
  | 14, _ => sign_at_14 w
  | 15, _ => sign_at_15 w
  | 16, _ => sign_at_16 w
  | 17, _ => sign_at_17 w
  | 18, _ => sign_at_18 w
  | 19, _ => sign_at_19 w
  | 20, _ => sign_at_20 w
  | 21, _ => sign_at_21 w
  | 22, _ => sign_at_22 w
  | 23, _ => sign_at_23 w
  | 24, _ => sign_at_24 w
  | 25, _ => sign_at_25 w
  | 26, _ => sign_at_26 w
  | 27, _ => sign_at_27 w
  | 28, _ => sign_at_28 w
  | 29, _ => sign_at_29 w
  | 30, _ => sign_at_30 w
  | 31, _ => sign_at_31 w
  | 32, _ => sign_at_32 w
  | 33, _ => sign_at_33 w
  | 34, _ => sign_at_34 w
  | 35, _ => sign_at_35 w
  | 36, _ => sign_at_36 w
  | 37, _ => sign_at_37 w
  | 38, _ => sign_at_38 w
  | 39, _ => sign_at_39 w
  | 40, _ => sign_at_40 w
  | 41, _ => sign_at_41 w
  | 42, _ => sign_at_42 w
  | 43, _ => sign_at_43 w
  | 44, _ => sign_at_44 w
  | 45, _ => sign_at_45 w
  | 46, _ => sign_at_46 w
  | 47, _ => sign_at_47 w
  | k + 48, h => absurd h (by omega)
theorem signsL_len : signsL.length = 48 := rfl
theorem signsL_size (k : Nat) (h : k < 48) : (signsL.getD k ByteArray.empty).size ≤ 3 := by
  have : ∀ x ∈ signsL, x.size ≤ 3 := by decide
  rw [List.getD, List.getElem?_eq_getElem (by rw [signsL_len]; exact h)]
  exact this _ (List.getElem_mem _)

/-- The table of signs, as start-up lays it. -/
def SignsAt (w : World) : Prop := ∃ t fr, w.heap[1]? = some (.cells signsV t fr)

set_option maxHeartbeats 800000 in
theorem signSize_any (s : ByteArray) (w : World) (hs : s.size ≤ 4611686018427387904) (hg : SignsAt w) :
    Calls Tryd.prog 59 #[.string s] w fun e w' => e = .returned (.int .i64 (firstSign s signsL)) ∧ w' = w := by
  obtain ⟨t, fr, hg⟩ := hg
  have HG := Lib.hid hg; clear hg
  go_enter Tryd.func59, Tryd.ntmps59
  go_wp2_with (refine wpList_load_row rfl 94 (.global 1) rfl 1 rfl t signsV fr _ HG.out Tryd.underlying94 rfl (by kernel_rfl) ?_)
  have hp : ∀ x : ByteArray, pre s x = pre s x := fun _ => rfl
  go_loop [6] (fun i => ∃ k : Nat, i = .int .i64 k ∧ k ≤ 48 ∧ firstSign s signsL = firstSign s (signsL.drop k)) (fun i => 48 - (intOf i).toNat)
  case atStart => exact ⟨0, rfl, by omega, rfl⟩
  case round =>
    obtain ⟨k, rfl, hk, he⟩ := hrel
    have HE := Lib.hid he; clear he hp
    by_cases hlt : k < 48
    · have hi := sign_idx k hlt
      have hz := signsL_size k hlt
      have hst : firstSign s (signsL.drop k) = if pre s (signsL.getD k ByteArray.empty) then (signsL.getD k ByteArray.empty).size else firstSign s (signsL.drop (k + 1)) := by
        rw [List.drop_eq_getElem_cons (by rw [signsL_len]; exact hlt), firstSign]
        simp only [List.getD, List.getElem?_eq_getElem (show k < signsL.length by rw [signsL_len]; exact hlt), Option.getD_some]
      generalize signsL.getD k ByteArray.empty = x at hi hz hst
      have HST := Lib.hid hst; clear hst
      go_wp2_with fail
      refine (hp_any s x _ (by omega) (by omega)).mono ?_
      rintro e w' ⟨rfl, rfl⟩
      generalize pre s x = b at HST ⊢
      cases b
      · have HN : Hid (firstSign s signsL = firstSign s (signsL.drop (k + 1))) := by show _ = _; rw [HE.out, HST.out]; rfl
        go_wp2_with fail
        refine ⟨⟨k + 1, by go_num, by omega, HN.out⟩, ?_⟩
        simp [intOf]; omega
      · have HN : Hid (firstSign s signsL = x.size) := by show _ = _; rw [HE.out, HST.out]; rfl
        go_wp2_with fail
        go_ret
        exact ⟨by rw [HN.out]; rfl, rfl⟩
    · obtain rfl : k = 48 := by omega
      have HN : Hid (firstSign s signsL = 0) := by show _ = _; rw [HE.out]; rfl
      go_wp2_with fail
      go_ret
      exact ⟨by rw [HN.out]; rfl, rfl⟩

def namedK (l : List UInt8) : Int := 1 + wordL l
theorem wordL_cases (l : List UInt8) : wordL l = 0 ∨ wordL l = 1 ∨ wordL l = 2 := by 
  unfold wordL
  by_cases h : l ∈ words1
  · rw [if_pos h]; omega
  · rw [if_neg h]; split <;> omega

set_option maxHeartbeats 400000 in
theorem named_any (s : ByteArray) (w : World) :
    Calls Tryd.prog 56 #[.string s] w fun e w' => e = .returned (.int .i64 (namedK s.toList)) ∧ w' = w := by
  rcases wordL_cases s.toList with h | h | h
  all_goals
    have H : Hid (namedK s.toList = 1 + wordL s.toList) := rfl
    have HW := Lib.hid h
    clear h
    go_enter Tryd.func56, Tryd.ntmps56
    go_wp2_with (go_at_call 74; refine (word_any s _).mono ?_; rintro e w' ⟨rfl, rfl⟩; rw [HW.out])
    go_ret
    exact ⟨by rw [H.out, HW.out]; rfl, rfl⟩

/-- How many bytes there are through the next closing behind the opening: 0 without. -/
def throughF (s o c : ByteArray) : Int :=
  let i := Lib.index (s.data.toList.drop o.size) c.data.toList
  if i < 0 then 0 else o.size + i + c.size

theorem index_le (l sub : List UInt8) : Lib.index l sub ≤ l.length := by
  induction l with
  | nil => rw [Lib.index]; split <;> simp
  | cons b l ih => rw [Lib.index]; split
                   · simp; omega
                   · split
                     · simp; omega
                     · simp; omega

set_option maxHeartbeats 400000 in
theorem through_any (s o c : ByteArray) (m : Int) (w : World) (hs : s.size < 4294967281) (ho : o.size ≤ s.size) (hc : c.size ≤ 100) (hm : w.cell? ⟨0, 0, none⟩ = some (.int .i64 m)) :
    Calls Tryd.prog 52 #[.string s, .string o, .string c] w fun e w' => e = .returned (.int .i64 (throughF s o c)) ∧ w' = w := by
  have hd : (s.extract o.size s.size).data.toList = s.data.toList.drop o.size := by
    rw [Lib.extract_data]; exact List.take_of_length_le (by simp)
  have h1 := Lib.index_ge (s.data.toList.drop o.size) c.data.toList
  have h2 := index_le (s.data.toList.drop o.size) c.data.toList
  have h3 : (s.data.toList.drop o.size).length = s.size - o.size := by simp
  have ht : throughF s o c = if Lib.index (s.data.toList.drop o.size) c.data.toList < 0 then 0 else o.size + Lib.index (s.data.toList.drop o.size) c.data.toList + c.size := rfl
  have hcon := Tryd.strings_Index (s.extract o.size s.size) c m w (by simp; omega) hm
  rw [hd] at hcon
  generalize Lib.index (s.data.toList.drop o.size) c.data.toList = i at *
  have HC := Lib.hid hcon
  have HT := Lib.hid ht
  clear hd hcon ht hm
  by_cases hi : i < 0
  · go_enter Tryd.func52, Tryd.ntmps52
    go_wp2_with (go_at_call 33; refine HC.out.mono ?_; rintro e w' ⟨rfl, rfl⟩)
    go_ret
    exact ⟨by rw [HT.out, if_pos hi]; rfl, rfl⟩
  · go_enter Tryd.func52, Tryd.ntmps52
    go_wp2_with (go_at_call 33; refine HC.out.mono ?_; rintro e w' ⟨rfl, rfl⟩)
    go_ret
    exact ⟨by rw [HT.out, if_neg (by omega)]; rfl, rfl⟩

end Go.Proofs.YtlddbelpbgmljaaDoor
namespace Go.Proofs.YtlddbelpbgmljaaDoor
open Go.RowKit

theorem ret_int {k : IntKind} {a b : Int} (h : a = b) : Ending.returned (.int k a) = Ending.returned (.int k b) := by rw [h]

/-- A token or a note. -/
structure Tok where
  kind : Int
  text : ByteArray
  at_ : Nat

def closers : List (List UInt8) := [[98, 114, 101, 97, 107], [99, 111, 110, 116, 105, 110, 117, 101], [114, 101, 116, 117, 114, 110], [102, 97, 108, 108, 116, 104, 114, 111, 117, 103, 104], [43, 43], [45, 45], [41], [93], [125]]
def closesB (k : Int) (l : List UInt8) : Bool := (k == 1) || (k == 4) || (k == 5) || decide (l ∈ closers)

set_option maxHeartbeats 1600000 in
theorem closes_any (k at_ : Int) (s : ByteArray) (w : World) :
    Calls Tryd.prog 60 #[.agg #[.int .i64 k, .string s, .int .i64 at_]] w fun e w' => e = .returned (.bool (closesB k s.toList)) ∧ Below w.heap.size w w' := by
  by_cases k1 : k = 1
  · have H : Hid (closesB k s.toList = true) := by show _ = _; simp [closesB, k1]
    subst k1
    go_enter Tryd.func60, Tryd.ntmps60
    go_wp2_with fail
    go_ret
    exact ⟨by rw [H.out]; rfl, (Below.refl _ _).alloc (Nat.le_refl _) _⟩
  by_cases k4 : k = 4
  · have H : Hid (closesB k s.toList = true) := by show _ = _; simp [closesB, k4]
    subst k4
    go_enter Tryd.func60, Tryd.ntmps60
    go_wp2_with fail
    go_ret
    exact ⟨by rw [H.out]; rfl, (Below.refl _ _).alloc (Nat.le_refl _) _⟩
  by_cases k5 : k = 5
  · have H : Hid (closesB k s.toList = true) := by show _ = _; simp [closesB, k5]
    subst k5
    go_enter Tryd.func60, Tryd.ntmps60
    go_wp2_with fail
    go_ret
    exact ⟨by rw [H.out]; rfl, (Below.refl _ _).alloc (Nat.le_refl _) _⟩
  have hc : closesB k s.toList = decide (s.toList ∈ closers) := by simp [closesB, k1, k4, k5]
  rw [hc]; clear hc
  replace k1 : (k == 1) = false := by simpa using k1
  replace k4 : (k == 4) = false := by simpa using k4
  replace k5 : (k == 5) = false := by simpa using k5
  by_cases c : s.toList ∈ closers
  · have H : Hid (decide (s.toList ∈ closers) = true) := by show _ = _; simp [c]
    simp only [closers, List.mem_cons, List.not_mem_nil, or_false] at c
    rcases c with c | c | c | c | c | c | c | c | c
    all_goals
      obtain rfl := ofL c
      clear c
      go_enter Tryd.func60, Tryd.ntmps60
      go_wp2_with fail
      go_ret
      exact ⟨by rw [H.out]; rfl, (Below.refl _ _).alloc (Nat.le_refl _) _⟩
  · have H : Hid (decide (s.toList ∈ closers) = false) := by show _ = _; simp [c]
    simp only [closers, List.mem_cons, List.not_mem_nil, or_false, not_or] at c
    obtain ⟨c1, c2, c3, c4, c5, c6, c7, c8, c9⟩ := c
    replace c1 : (s.toList == [98, 114, 101, 97, 107]) = false := by simpa using c1
    replace c2 : (s.toList == [99, 111, 110, 116, 105, 110, 117, 101]) = false := by simpa using c2
    replace c3 : (s.toList == [114, 101, 116, 117, 114, 110]) = false := by simpa using c3
    replace c4 : (s.toList == [102, 97, 108, 108, 116, 104, 114, 111, 117, 103, 104]) = false := by simpa using c4
    replace c5 : (s.toList == [43, 43]) = false := by simpa using c5
    replace c6 : (s.toList == [45, 45]) = false := by simpa using c6
    replace c7 : (s.toList == [41]) = false := by simpa using c7
    replace c8 : (s.toList == [93]) = false := by simpa using c8
    replace c9 : (s.toList == [125]) = false := by simpa using c9
    go_enter Tryd.func60, Tryd.ntmps60
    go_wp2_with fail
    go_ret
    exact ⟨by rw [H.out]; rfl, (Below.refl _ _).alloc (Nat.le_refl _) _⟩

/-- How many bytes a text in quotes has, looked at from behind its first sign on: t is what stands behind the quote. -/
def quotedF (t : ByteArray) : Nat → Nat → Bool → Int
  | 0, _, _ => 0
  | f + 1, i, behind => if i < t.size then
      (if (Utf8.decode t i).1 = 10 then 0
       else if behind then quotedF t f (i + (Utf8.decode t i).2) false
       else if (Utf8.decode t i).1 = 92 then quotedF t f (i + (Utf8.decode t i).2) true
       else if (Utf8.decode t i).1 = 34 then (i : Int) + 2
       else quotedF t f (i + (Utf8.decode t i).2) false)
    else 0

set_option maxHeartbeats 1600000 in
theorem quoted_any (s : ByteArray) (w : World) (h1 : 1 ≤ s.size) (hs : s.size ≤ 4611686018427387904) :
    Calls Tryd.prog 58 #[.string s] w fun e w' => e = .returned (.int .i64 (quotedF (s.extract 1 s.size) s.size 0 false)) ∧ Below w.heap.size w w' := by
  have hts : (s.extract 1 s.size).size = s.size - 1 := by simp
  generalize ht : s.extract 1 s.size = t at hts ⊢
  have HT := Lib.hid ht
  have HTS := Lib.hid hts
  clear ht
  go_enter Tryd.func58, Tryd.ntmps58
  go_wp2_with fail
  rw [HT.out]
  have hts2 : t.size ≤ 4611686018427387904 := by have := HTS.out; omega
  clear hts
  go_loopw [3] (fun b wr => ∃ (f pos : Nat) (q : Bool), b = .bool q ∧ t.size < f + pos ∧ pos ≤ t.size ∧ quotedF t s.size 0 false = quotedF t f pos q ∧ Below w.heap.size w wr ∧
     wr.heap[w.heap.size]? = some (.stringIter t pos)) (fun _ wr => t.size - wr.iterPos w.heap.size)
  case atStart => exact ⟨s.size, 0, false, rfl, by have := HTS.out; omega, by omega, rfl, (Below.refl _ _).alloc (Nat.le_refl _) _, iter_at rfl _ _⟩
  case round =>
    obtain ⟨f, pos, q, rfl, hf, hpos, he, hb, hi⟩ := hrel
    obtain ⟨f, rfl⟩ : ∃ g, f = g + 1 := ⟨f - 1, by omega⟩
    have HE := Lib.hid he; clear he
    have HB := Lib.hid hb; clear hb
    have HI := Lib.hid hi
    by_cases hlt : pos < t.size
    · have hn := Lib.run_next_any_at (P := Tryd.prog) wr w.heap.size t pos 0 hi hlt
      have hst : quotedF t (f + 1) pos q = if (Utf8.decode t pos).1 = 10 then 0
       else if q then quotedF t f (pos + (Utf8.decode t pos).2) false
       else if (Utf8.decode t pos).1 = 92 then quotedF t f (pos + (Utf8.decode t pos).2) true
       else if (Utf8.decode t pos).1 = 34 then (pos : Int) + 2
       else quotedF t f (pos + (Utf8.decode t pos).2) false := by rw [quotedF, if_pos hlt]
      obtain ⟨n1, n2⟩ := dec_width t pos hlt
      generalize hw1 : wr.iterAt w.heap.size t (pos + (Utf8.decode t pos).2) = w1 at hn
      have HB1 : Hid (Below w.heap.size w w1) := by rw [← hw1]; exact Lib.below_iterAt HB.out (Nat.le_refl _) _ _
      have HI1 : Hid (w1.heap[w.heap.size]? = some (.stringIter t (pos + (Utf8.decode t pos).2))) := by rw [← hw1]; exact Lib.iterAt_heap _ _ _ _ _ hi
      clear hw1 hi
      generalize Utf8.decode t pos = d at *
      obtain ⟨r, n⟩ := d
      simp only at n1 n2 hn hst HI1
      have HST := Lib.hid hst
      clear hst
      by_cases r10 : r = 10
      · have HN : Hid (quotedF t s.size 0 false = 0) := by show _ = _; rw [HE.out, HST.out, if_pos r10]
        have e1 : ((r : Int) == 10) = true := by simp [r10]
        clear r10
        go_wp2_with fail
        go_ret
        exact ⟨by rw [HN.out]; rfl, HB1.out⟩
      have e1 : ((r : Int) == 10) = false := by simp; omega
      cases q
      · by_cases r92 : r = 92
        · have HN : Hid (quotedF t s.size 0 false = quotedF t f (pos + n) true) := by show _ = _; rw [HE.out, HST.out, if_neg r10, if_neg (by decide), if_pos r92]
          have e2 : ((r : Int) == 92) = true := by simp [r92]
          clear r92 r10
          go_wp2_with fail
          go_roundw
          case rel => exact ⟨f, pos + n, true, rfl, by omega, by omega, HN.out, HB1.out, HI1.out⟩
          case measure => rw [iterPos_of HI.out, iterPos_of HI1.out]; omega
        have e2 : ((r : Int) == 92) = false := by simp; omega
        by_cases r34 : r = 34
        · have HN : Hid (quotedF t s.size 0 false = (pos : Int) + 2) := by show _ = _; rw [HE.out, HST.out, if_neg r10, if_neg (by decide), if_neg r92, if_pos r34]
          have e3 : ((r : Int) == 34) = true := by simp [r34]
          clear r34 r92 r10
          go_wp2_with fail
          go_ret
          refine ⟨?_, HB1.out⟩
          rw [HN.out]
          exact ret_int (by omega)
        · have HN : Hid (quotedF t s.size 0 false = quotedF t f (pos + n) false) := by show _ = _; rw [HE.out, HST.out, if_neg r10, if_neg (by decide), if_neg r92, if_neg r34]
          have e3 : ((r : Int) == 34) = false := by simp; omega
          clear r34 r92 r10
          go_wp2_with fail
          go_roundw
          case rel => exact ⟨f, pos + n, false, rfl, by omega, by omega, HN.out, HB1.out, HI1.out⟩
          case measure => rw [iterPos_of HI.out, iterPos_of HI1.out]; omega
      · have HN : Hid (quotedF t s.size 0 false = quotedF t f (pos + n) false) := by show _ = _; rw [HE.out, HST.out, if_neg r10, if_pos rfl]
        clear r10
        go_wp2_with fail
        go_roundw
        case rel => exact ⟨f, pos + n, false, rfl, by omega, by omega, HN.out, HB1.out, HI1.out⟩
        case measure => rw [iterPos_of HI.out, iterPos_of HI1.out]; omega
    · have hn := Lib.run_next_end_at (P := Tryd.prog) wr w.heap.size t pos 0 hi hlt
      have HN : Hid (quotedF t s.size 0 false = 0) := by show _ = _; rw [HE.out, quotedF, if_neg hlt]
      clear hi
      go_wp2_with fail
      go_ret
      exact ⟨by rw [HN.out]; rfl, HB.out⟩

end Go.Proofs.YtlddbelpbgmljaaDoor
namespace Go.Proofs.YtlddbelpbgmljaaDoor
open Go.RowKit

def flat (l : List Tok) : List Value := l.flatMap fun t => [.int .i64 t.kind, .string t.text, .int .i64 t.at_]
theorem flat_len (l : List Tok) : (flat l).length = l.length * 3 := by
  induction l with
  | nil => rfl
  | cons t l ih => simp only [flat, List.flatMap_cons, List.length_append, List.length_cons] at *; simp only [List.length_nil]; omega
theorem flat_snoc (l : List Tok) (t : Tok) : flat (l ++ [t]) = flat l ++ [.int .i64 t.kind, .string t.text, .int .i64 t.at_] := by
  simp [flat]

/-- A scanner in block b: its source, its tokens, its notes. -/
def Sc (base b : Nat) (src : ByteArray) (tk nt : List Tok) (w : World) : Prop := base ≤ b ∧ ∃ vt vn, w.heap[b]? = some (.cells #[.string src, vt, vn] 48) ∧
  w.ownsRow base 31 3 vt tk.length (flat tk) ∧ w.ownsRow base 31 3 vn nt.length (flat nt) ∧ ∀ k, vt.ownBlock = some k → vn.ownBlock = some k → False

theorem Sc.keep {base b : Nat} {src : ByteArray} {tk nt : List Tok} {w w' : World} (h : Sc base b src tk nt w) (hb : Below w.heap.size w w') : Sc base b src tk nt w' := by
  obtain ⟨h0, vt, vn, h1, h2, h3, h4⟩ := h
  have hg : w.grownBy w' none := ⟨hb.os, hb.tape, hb.output, hb.size, fun k hk _ => hb.block k hk⟩
  refine ⟨h0, vt, vn, ?_, h2.kept hg (by cases vt.ownBlock <;> simp), h3.kept hg (by cases vn.ownBlock <;> simp), h4⟩
  rw [hb.block b (lt_of_block h1)]; exact h1

set_option maxHeartbeats 400000 in
theorem cut_ok (b : Nat) (src : ByteArray) (k : Int) (at_ size : Nat) (w : World) (hc : w.cell? ⟨b, 0, none⟩ = some (.string src)) (h0 : size ≠ 0) (h : at_ + size ≤ src.size) (hs : src.size ≤ 1000000) :
    Calls Tryd.prog 73 #[.pointer (some ⟨b, 0, none⟩), .int .i64 k, .int .i64 at_, .int .i64 size] w fun e w' =>
      e = .returned (.agg #[.int .i64 k, .string (src.extract at_ (at_ + size)), .int .i64 at_]) ∧ Below w.heap.size w w' := by
  have hlt := World.block_lt_of_cell? _ _ hc
  simp only at hlt
  have hz : ((size : Int) == 0) = false := by simp; omega
  clear h0
  go_enter Tryd.func73, Tryd.ntmps73
  go_wp2_with fail
  refine bodyPost_ret (v := .agg #[.int .i64 k, .string (src.extract at_ (at_ + size)), .int .i64 at_]) ?_ rfl ⟨rfl, ?_⟩
  · simp [results, Tryd.results73, go_sem]
  · exact ((Below.refl _ _).alloc (Nat.le_refl _) _)

set_option maxHeartbeats 400000 in
theorem cut_zero (b : Nat) (k : Int) (at_ : Nat) (w : World) :
    Calls Tryd.prog 73 #[.pointer (some ⟨b, 0, none⟩), .int .i64 k, .int .i64 at_, .int .i64 0] w fun e w' =>
      e = .panicked [{ v := .iface 45 (.int .i64 at_), recovered := false }] ∧ Below w.heap.size w w' := by
  go_enter Tryd.func73, Tryd.ntmps73
  go_wp2_with fail
  exact ⟨rfl, rfl, (Below.refl _ _).alloc (Nat.le_refl _) _⟩

theorem info38 : (Tryd.prog.info? 31).map (fun i => (i.zero, i.size, i.bytes)) = some (some (.agg #[.int .i64 0, .string ⟨#[]⟩, .int .i64 0]), 3, 32) := by kernel_rfl

/-- What a step of the scanner leaves alone. -/
def Frm (base b : Nat) (w w' : World) : Prop := Below base w w' ∧ Lib.OthersKept 31 (some b) w w'
theorem Frm.trans {base b : Nat} {u v w : World} (h : Frm base b u v) (k : Frm base b v w) : Frm base b u w := ⟨h.1.trans k.1, h.2.trans k.2⟩
theorem Frm.of_below {base b : Nat} {w w' : World} (h : Below w.heap.size w w') (hb : base ≤ w.heap.size) : Frm base b w w' :=
  ⟨h.mono hb, fun k o hk _ _ => by rw [h.block k (lt_of_block hk)]; exact hk⟩

theorem own_ne {w : World} {base e b t n size : Nat} {v : Value} {xs : List Value} {c : Array Value} {fr : Nat × Nat} (h : w.ownsRow base e size v n xs) (hb : w.heap[b]? = some (.cells c t fr)) (hne : t ≠ e) : v.ownBlock ≠ some b := by
  intro hv
  rcases h.2 with ⟨rfl, _⟩ | ⟨g, cap, cur, rfl, _, hg, _⟩
  · simp [Value.ownBlock] at hv
  · simp only [Value.ownBlock, Option.some.injEq] at hv
    subst hv
    rw [hg] at hb
    simp only [Option.some.injEq, Obj.cells.injEq] at hb
    exact hne hb.2.1.symm

theorem row_kept {w w' : World} {base e size n : Nat} {v : Value} {xs : List Value} (h : w.ownsRow base e size v n xs) (hb : Below w.heap.size w w') : w'.ownsRow base e size v n xs :=
  h.kept (row := none) ⟨hb.os, hb.tape, hb.output, hb.size, fun k hk _ => hb.block k hk⟩ (by cases v.ownBlock <;> simp)

/-- What is left behind an append to a scanner's tokens. -/
theorem row_done {base b : Nat} (hbb : base ≤ b) {src : ByteArray} {vt vn : Value} {nt mt g cap : Nat} {xt xn news : List Value} {w w2 w3 : World}
    (H1 : w.heap[b]? = some (.cells #[.string src, vt, vn] 48)) (H2 : w.ownsRow base 31 3 vt nt xt) (H3 : w.ownsRow base 31 3 vn mt xn) (H4 : ∀ k, vt.ownBlock = some k → vn.ownBlock = some k → False)
    (HB2 : Below w.heap.size w w2) (o : Obj) (HG : (w2.alloc o).grownBy w3 vt.ownBlock)
    (HOWN : w3.ownsRow base 31 3 (.slice (some ⟨g, 0, none⟩) (nt + 1) cap) (nt + 1) (xt ++ news)) (HAT : vt.ownBlock = some g ∨ g = w2.heap.size + 1) :
    (base ≤ b ∧ ∃ vt' vn', (w3.setCell ⟨b, 1, none⟩ (.slice (some ⟨g, 0, none⟩) (nt + 1) cap)).heap[b]? = some (.cells #[.string src, vt', vn'] 48) ∧
      (w3.setCell ⟨b, 1, none⟩ (.slice (some ⟨g, 0, none⟩) (nt + 1) cap)).ownsRow base 31 3 vt' (nt + 1) (xt ++ news) ∧
      (w3.setCell ⟨b, 1, none⟩ (.slice (some ⟨g, 0, none⟩) (nt + 1) cap)).ownsRow base 31 3 vn' mt xn ∧ ∀ k, vt'.ownBlock = some k → vn'.ownBlock = some k → False) ∧
    Frm base b w (w3.setCell ⟨b, 1, none⟩ (.slice (some ⟨g, 0, none⟩) (nt + 1) cap)) := by
  have hlt := lt_of_block H1
  have hlt2 : b < w2.heap.size := Nat.lt_of_lt_of_le hlt HB2.size
  have hne := own_ne H2 H1 (by decide)
  have hnn := own_ne H3 H1 (by decide)
  have hgb : g ≠ b := by
    rintro rfl
    rcases HAT with h | h
    · exact hne h
    · omega
  have hf : w3.heap[b]? = some (.cells #[.string src, vt, vn] 48) := by
    rw [HG.block b (by simp; omega) (fun e => hne e.symm), Below.heap_alloc _ _ _ hlt2, HB2.block b hlt]; exact H1
  have hn3 : w3.ownsRow base 31 3 vn mt xn := by
    refine ((row_kept H3 HB2).alloc o).kept HG ?_
    cases hv : vn.ownBlock with
    | none => exact .inl rfl
    | some k => exact .inr (fun e => H4 k e.symm hv)
  refine ⟨⟨hbb, _, vn, heap_setCell hf _, ?_, ?_, ?_⟩, ?_, ?_⟩
  · refine ownsRow_setCell_other HOWN ?_ _
    simp only [Value.ownBlock]
    exact fun e => hgb (Option.some.inj e)
  · exact ownsRow_setCell_other hn3 hnn _
  · intro k h1 h2
    simp only [Value.ownBlock, Option.some.injEq] at h1
    subst h1
    rcases HAT with h | h
    · exact H4 _ h h2
    · have := (H3.lt _ h2).2
      have := HB2.size
      omega
  · have h1 : Below base w (w2.alloc o) := (HB2.mono (by omega)).alloc (by omega) o
    have h2 : Below base w w3 := h1.grown HG (by simp; omega) (fun k hk => (H2.lt k hk).1)
    exact h2.setCell hbb _
  · have h1 : Lib.OthersKept 31 (some b) w (w2.alloc o) := by
      refine Lib.OthersKept.alloc ?_ o
      intro k x hk _ _
      rw [HB2.block k (lt_of_block hk)]; exact hk
    have h2 : Lib.OthersKept 31 (some b) w w3 := by
      refine h1.grown HG ?_
      intro g' hg'
      rcases ((row_kept H2 HB2).alloc o).2 with ⟨rfl, _⟩ | ⟨g2, c2, cur, rfl, _, hh, _⟩
      · simp [Value.ownBlock] at hg'
      · simp only [Value.ownBlock, Option.some.injEq] at hg'
        subst hg'
        exact ⟨cur, _, hh⟩
    exact h2.setCell _ rfl _

set_option maxHeartbeats 1600000 in
theorem token_ok (base b : Nat) (src : ByteArray) (tk nt : List Tok) (k : Int) (at_ size : Nat) (w : World) (hS : Sc base b src tk nt w) (h0 : size ≠ 0) (h : at_ + size ≤ src.size) (hs : src.size ≤ 1000000) (hl : tk.length ≤ 1000000) :
    Calls Tryd.prog 55 #[.pointer (some ⟨b, 0, none⟩), .int .i64 k, .int .i64 at_, .int .i64 size] w fun e w' =>
      e = .returned (.int .i64 size) ∧ Sc base b src (tk ++ [⟨k, src.extract at_ (at_ + size), at_⟩]) nt w' ∧ Frm base b w w' := by
  obtain ⟨hb, vt, vn, h1, h2, h3, h4⟩ := hS
  have c0 := cell_of h1 0
  have c1 := cell_of h1 1
  have f1 := free_of h1 1
  have hlt := lt_of_block h1
  obtain ⟨i0, hi0, hz0, hz1, hz2⟩ := info_parts info38
  have H1 := Lib.hid h1
  have H2 := Lib.hid h2
  have H3 := Lib.hid h3
  have H4 := Lib.hid h4
  clear h1 h2 h3 h4
  go_enter Tryd.func55, Tryd.ntmps55
  go_wp2_with fail
  have hbw : base ≤ w.heap.size := by omega
  have hne : vt.ownBlock ≠ some b := own_ne H2.out H1.out (by decide)
  go_region_law
    (first
      | (go_simp; go_at_call 73; refine (cut_ok b src k at_ size _ ?_ h0 h hs).mono ?_; (simp [*]); rintro e w2 ⟨rfl, hb2⟩
         have HB2 : Hid (Below w.heap.size w w2) := (⟨rfl, rfl, rfl, Nat.le_refl _, fun _ _ => rfl⟩ : Below w.heap.size w w.drew).trans hb2
         clear hb2
         have g0 : w2.cell? ⟨b, 0, none⟩ = some (.string src) := by rw [HB2.out.cell hlt]; exact cell_of H1.out 0
         have g1 : w2.cell? ⟨b, 1, none⟩ = some vt := by rw [HB2.out.cell hlt]; exact cell_of H1.out 1
         have g2 : w2.frozen? ⟨b, 1, none⟩ = false := by rw [HB2.out.frozen hlt]; exact free_of H1.out 1
         have hlt2 : b < w2.heap.size := Nat.lt_of_lt_of_le hlt HB2.out.size
         have hbw2 : base ≤ w2.heap.size := Nat.le_trans hbw HB2.out.size
         have HO2 : Hid (w2.ownsRow base 31 3 vt tk.length (flat tk)) := H2.out.kept (row := none) ⟨HB2.out.os, HB2.out.tape, HB2.out.output, HB2.out.size, fun k hk _ => HB2.out.block k hk⟩ (by cases vt.ownBlock <;> simp)
         clear c0 c1 f1)
      | ((refine step_append_lies _ (by rfl) _ _ _ (by rfl) base 31 i0 _ 3 32 Tryd.underlying26 hi0 hz0 hz1 hz2 rfl (by omega) vt tk.length (flat tk) (by rfl) (HO2.out.alloc _)
              ⟨w2.heap.size, 0, none⟩ 1 1 [.int .i64 k, .string (src.extract at_ (at_ + size)), .int .i64 at_] (by rfl) (by rfl) (World.news_of_block (cs := #[.int .i64 k, .string (src.extract at_ (at_ + size)), .int .i64 at_]) (t := 31) (fr := (0, 0)) (heap_alloc_new w2 _)) (by simp [Value.oneCell'])
              (by omega) (by unfold maxLen; omega) (by omega) (by simp; omega) (w2.heap.size + 1) (by simp) ?_; intro gg cap w3 hown hgrow hat hlt3
          have hf : w3.heap[b]? = some (.cells #[.string src, vt, vn] 48) := by
            rw [hgrow.block b (by simp; omega) (fun e => hne e.symm), Below.heap_alloc _ _ _ hlt2, HB2.out.block b hlt]; exact H1.out
          have p0 := cell_of hf 0
          have p1 := cell_of hf 1
          have p2 := free_of hf 1
          have HF := Lib.hid hf
          have HOWN := Lib.hid hown
          have HGROW := Lib.hid hgrow
          have HAT := Lib.hid hat
          clear hf hown hgrow hat g0 g1 g2)))
  all_goals
    go_wp2_with fail
    go_ret
    refine ⟨rfl, ?_⟩
    have hd := row_done hb H1.out H2.out H3.out H4.out HB2.out _ HGROW.out HOWN.out HAT.out
    refine ⟨?_, hd.2⟩
    unfold Sc
    rw [flat_snoc, List.length_append]
    exact hd.1

end Go.Proofs.YtlddbelpbgmljaaDoor
namespace Go.Proofs.YtlddbelpbgmljaaDoor
open Go.RowKit

/-- As 'cut_zero'; the second way is none: it serves a region's walk, which wants a way on. -/
theorem cut_zero2 (b : Nat) (k : Int) (at_ : Nat) (w : World) :
    Calls Tryd.prog 73 #[.pointer (some ⟨b, 0, none⟩), .int .i64 k, .int .i64 at_, .int .i64 0] w fun e w' =>
      (e = .panicked [{ v := .iface 45 (.int .i64 at_), recovered := false }] ∧ Below w.heap.size w w') ∨
      (∃ x : ByteArray, e = .returned (.agg #[.int .i64 k, .string x, .int .i64 at_]) ∧ Below w.heap.size w w' ∧ Hid False) :=
  (cut_zero b k at_ w).mono fun _ _ h => .inl h

set_option maxHeartbeats 1600000 in
theorem token_zero (base b : Nat) (src : ByteArray) (tk nt : List Tok) (k : Int) (at_ : Nat) (w : World) (hS : Sc base b src tk nt w) (hl : tk.length ≤ 1000000) :
    Calls Tryd.prog 55 #[.pointer (some ⟨b, 0, none⟩), .int .i64 k, .int .i64 at_, .int .i64 0] w fun e w' =>
      e = .panicked [{ v := .iface 45 (.int .i64 at_), recovered := false }] ∧ Frm base b w w' := by
  obtain ⟨hb, vt, vn, h1, h2, h3, h4⟩ := hS
  have c0 := cell_of h1 0
  have c1 := cell_of h1 1
  have f1 := free_of h1 1
  have hlt := lt_of_block h1
  obtain ⟨i0, hi0, hz0, hz1, hz2⟩ := info_parts info38
  have H1 := Lib.hid h1
  have H2 := Lib.hid h2
  have H3 := Lib.hid h3
  have H4 := Lib.hid h4
  clear h1 h2 h3 h4
  go_enter Tryd.func55, Tryd.ntmps55
  go_wp2_with fail
  have hbw : base ≤ w.heap.size := by omega
  have hne : vt.ownBlock ≠ some b := own_ne H2.out H1.out (by decide)
  go_region_law
    (first
      | (go_simp; go_at_call 73; refine (cut_zero2 b k at_ _).mono ?_; rintro e w2 (⟨rfl, hb2⟩ | ⟨x, rfl, hb2, hff⟩); exact ⟨rfl, rfl, Frm.of_below ((⟨rfl, rfl, rfl, Nat.le_refl _, fun _ _ => rfl⟩ : Below w.heap.size w w.drew).trans hb2) hbw⟩
         have HB2 : Hid (Below w.heap.size w w2) := (⟨rfl, rfl, rfl, Nat.le_refl _, fun _ _ => rfl⟩ : Below w.heap.size w w.drew).trans hb2
         clear hb2
         have g0 : w2.cell? ⟨b, 0, none⟩ = some (.string src) := by rw [HB2.out.cell hlt]; exact cell_of H1.out 0
         have g1 : w2.cell? ⟨b, 1, none⟩ = some vt := by rw [HB2.out.cell hlt]; exact cell_of H1.out 1
         have g2 : w2.frozen? ⟨b, 1, none⟩ = false := by rw [HB2.out.frozen hlt]; exact free_of H1.out 1
         have hlt2 : b < w2.heap.size := Nat.lt_of_lt_of_le hlt HB2.out.size
         have hbw2 : base ≤ w2.heap.size := Nat.le_trans hbw HB2.out.size
         have HO2 : Hid (w2.ownsRow base 31 3 vt tk.length (flat tk)) := H2.out.kept (row := none) ⟨HB2.out.os, HB2.out.tape, HB2.out.output, HB2.out.size, fun k hk _ => HB2.out.block k hk⟩ (by cases vt.ownBlock <;> simp)
         clear c0 c1 f1)
      | ((refine step_append_lies _ (by rfl) _ _ _ (by rfl) base 31 i0 _ 3 32 Tryd.underlying26 hi0 hz0 hz1 hz2 rfl (by omega) vt tk.length (flat tk) (by rfl) (HO2.out.alloc _)
              ⟨w2.heap.size, 0, none⟩ 1 1 [.int .i64 k, .string (x), .int .i64 at_] (by rfl) (by rfl) (World.news_of_block (cs := #[.int .i64 k, .string (x), .int .i64 at_]) (t := 31) (fr := (0, 0)) (heap_alloc_new w2 _)) (by simp [Value.oneCell'])
              (by omega) (by unfold maxLen; omega) (by omega) (by simp; omega) (w2.heap.size + 1) (by simp) ?_; intro gg cap w3 hown hgrow hat hlt3
          have hf : w3.heap[b]? = some (.cells #[.string src, vt, vn] 48) := by
            rw [hgrow.block b (by simp; omega) (fun e => hne e.symm), Below.heap_alloc _ _ _ hlt2, HB2.out.block b hlt]; exact H1.out
          have p0 := cell_of hf 0
          have p1 := cell_of hf 1
          have p2 := free_of hf 1
          have HF := Lib.hid hf
          have HOWN := Lib.hid hown
          have HGROW := Lib.hid hgrow
          have HAT := Lib.hid hat
          clear hf hown hgrow hat g0 g1 g2)))
  all_goals exact hff.out.elim

end Go.Proofs.YtlddbelpbgmljaaDoor
namespace Go.Proofs.YtlddbelpbgmljaaDoor
open Go.RowKit
set_option linter.unusedSimpArgs false
set_option linter.unusedVariables false
set_option linter.unusedSectionVars false

def nlB : ByteArray := ⟨#[10]⟩
/-- What a line's end does to the tokens. -/
def endF (tk : List Tok) (at_ : Nat) : List Tok :=
  match tk.getLast? with
  | some t => if closesB t.kind t.text.toList then tk ++ [⟨6, nlB, at_⟩] else tk
  | none => tk
theorem endF_nil (at_ : Nat) : endF [] at_ = [] := rfl
theorem endF_yes (l : List Tok) (t : Tok) (at_ : Nat) (h : closesB t.kind t.text.toList = true) : endF (l ++ [t]) at_ = l ++ [t] ++ [⟨6, nlB, at_⟩] := by simp [endF, h]
theorem endF_no (l : List Tok) (t : Tok) (at_ : Nat) (h : closesB t.kind t.text.toList = false) : endF (l ++ [t]) at_ = l ++ [t] := by simp [endF, h]

theorem last_cells {w : World} {base : Nat} {v : Value} {l : List Tok} {t : Tok} (h : w.ownsRow base 31 3 v (l ++ [t]).length (flat (l ++ [t]))) :
    ∃ g cap, v = .slice (some ⟨g, 0, none⟩) (l.length + 1) cap ∧ w.cell? ⟨g, l.length * 3, none⟩ = some (.int .i64 t.kind) ∧ w.cell? ⟨g, l.length * 3 + 1, none⟩ = some (.string t.text) ∧ w.cell? ⟨g, l.length * 3 + 2, none⟩ = some (.int .i64 t.at_) := by
  rcases h.2 with ⟨_, h0⟩ | ⟨g, cap, cur, rfl, _⟩
  · simp at h0
  · refine ⟨g, cap, by simp, ?_⟩
    have hc' : ∀ j u, (flat (l ++ [t]))[j]? = some u → w.cell? ((⟨g, 0, none⟩ : Addr).add j) = some u := h.cells (g := g) rfl
    have e : ∀ j, (⟨g, 0, none⟩ : Addr).add j = ⟨g, j, none⟩ := by intro j; unfold Addr.add; split <;> simp_all
    have hf : ∀ j, (flat (l ++ [t]))[l.length * 3 + j]? = ([.int .i64 t.kind, .string t.text, .int .i64 t.at_] : List Value)[j]? := by
      intro j
      rw [flat_snoc, List.getElem?_append_right (by rw [flat_len]; omega), flat_len]
      congr 1; omega
    refine ⟨?_, ?_, ?_⟩
    · have := hc' (l.length * 3 + 0) _ (hf 0); rwa [e] at this
    · have := hc' (l.length * 3 + 1) _ (hf 1); rwa [e] at this
    · have := hc' (l.length * 3 + 2) _ (hf 2); rwa [e] at this

/-- The walk's stop at a region that draws. -/
theorem stop_region {P : Program} {ops : Array Oper} {Q : Exit → Act → World → Prop} {id : Nat} {a : Act} {w : World} (h : Hid ((Code.region id ops true).wp P Q a w)) : (Code.region id ops true).wp P Q a w := h.out
/-- The walk's stop at a list. -/
theorem stop_list {P : Program} {ops : Array Oper} {Q : Exit → Act → World → Prop} {l : List Oper} {a : Act} {w : World} (h : Hid (wpList P ops Q l a w)) : wpList P ops Q l a w := h.out

set_option maxHeartbeats 1600000 in
theorem endLine_any (base b : Nat) (src : ByteArray) (tk nt : List Tok) (at_ : Nat) (w : World) (hS : Sc base b src tk nt w) (hl : tk.length ≤ 1000000) :
    Calls Tryd.prog 39 #[.pointer (some ⟨b, 0, none⟩), .int .i64 at_] w fun e w' =>
      e = .returned (.tuple #[]) ∧ Sc base b src (endF tk at_) nt w' ∧ Frm base b w w' ∧ Keeps (fun k => k = b ∨ ∃ vt, w.cell? ⟨b, 1, none⟩ = some vt ∧ vt.ownBlock = some k) w w' := by
  have HS := Lib.hid hS
  obtain ⟨hb, vt, vn, h1, h2, h3, h4⟩ := hS
  have c1 := cell_of h1 1
  have f1 := free_of h1 1
  have hlt := lt_of_block h1
  rcases List.eq_nil_or_concat tk with rfl | ⟨l, t, ht⟩
  · have hv : ∃ a c, vt = .slice a 0 c := by
      rcases h2.2 with ⟨rfl, _⟩ | ⟨g, cap, cur, rfl, _⟩
      · exact ⟨_, _, rfl⟩
      · exact ⟨_, _, rfl⟩
    obtain ⟨a, c, rfl⟩ := hv
    clear h1 h2 h3 h4
    go_enter Tryd.func39, Tryd.ntmps39
    go_wp2_with fail
    go_end0
    exact ⟨rfl, by rw [endF_nil]; exact HS.out, ⟨Below.refl _ _, Lib.OthersKept.refl _ _ _⟩, Keeps.refl _ _⟩
  · rw [List.concat_eq_append] at ht
    subst ht
    obtain ⟨g, cap, rfl, t0, t1, t2⟩ := last_cells h2
    have H1 := Lib.hid h1
    have H2 := Lib.hid h2
    have H3 := Lib.hid h3
    have H4 := Lib.hid h4
    clear h1 h2 h3 h4
    have hln : l.length ≤ 1000000 := by simp at hl; omega
    clear hl
    go_enter Tryd.func39, Tryd.ntmps39
    go_wp2_with fail
    go_at_call 60
    refine (closes_any t.kind t.at_ t.text w).mono ?_
    rintro e w2 ⟨rfl, hb2⟩
    have HB2 := Lib.hid hb2
    clear hb2
    have g1 : w2.cell? ⟨b, 1, none⟩ = some (.slice (some ⟨g, 0, none⟩) (l.length + 1) cap) := by rw [HB2.out.cell hlt]; exact cell_of H1.out 1
    have g2 : w2.frozen? ⟨b, 1, none⟩ = false := by rw [HB2.out.frozen hlt]; exact free_of H1.out 1
    have hlt2 : b < w2.heap.size := Nat.lt_of_lt_of_le hlt HB2.out.size
    have hbw2 : base ≤ w2.heap.size := by omega
    cases hcb : closesB t.kind t.text.toList with
    | false =>
      go_wp2_with fail
      go_end0
      exact ⟨rfl, by rw [endF_no _ _ _ hcb]; exact HS.out.keep HB2.out, Frm.of_below HB2.out (by omega), Keeps.of_below HB2.out _⟩
    | true =>
      clear c1 f1
      obtain ⟨i0, hi0, hz0, hz1, hz2⟩ := info_parts info38
      have hne : (Value.slice (some ⟨g, 0, none⟩) (l.length + 1) cap).ownBlock ≠ some b := own_ne H2.out H1.out (by decide)
      have HO2 : Hid (w2.ownsRow base 31 3 (.slice (some ⟨g, 0, none⟩) (l.length + 1) cap) (l.length + 1) (flat (l ++ [t]))) := by
        have := row_kept H2.out HB2.out
        rw [List.length_append] at this
        exact Lib.hid this
      have E0 : Hid ((flat (l ++ [t])) ++ [.int .i64 6, .string ⟨#[10]⟩, .int .i64 at_] = flat (l ++ [t] ++ [⟨6, nlB, at_⟩])) := Lib.hid (flat_snoc (l ++ [t]) ⟨6, nlB, at_⟩).symm
      generalize hfl : flat (l ++ [t]) = fl at HO2 E0
      go_wp2_with (at_builtin; refine stop_list ?_)
      refine Lib.hid ?_
      refine wpList_append_lies _ rfl (.tmp 27) (.tmp 30) 26 rfl base 31 i0 _ 3 32 Tryd.underlying26 hi0 hz0 hz1 hz2 rfl (by omega) (.slice (some ⟨g, 0, none⟩) (l.length + 1) cap) (l.length + 1) fl rfl (HO2.out.alloc _)
              ⟨w2.heap.size, 0, none⟩ 1 1 [.int .i64 6, .string ⟨#[10]⟩, .int .i64 at_] rfl rfl (World.news_of_block (cs := #[.int .i64 6, .string ⟨#[10]⟩, .int .i64 at_]) (t := 31) (fr := (0, 0)) (heap_alloc_new w2 _)) (by simp [Value.oneCell'])
              (by omega) (by unfold maxLen; omega) (by omega) (by simp; omega) (w2.heap.size + 1) (by simp) ?_
      intro gg cap2 w3 hown hgrow hat hlt3
      have hf : w3.heap[b]? = some (.cells #[.string src, .slice (some ⟨g, 0, none⟩) (l.length + 1) cap, vn] 48) := by
        rw [hgrow.block b (by simp; omega) (fun e => hne e.symm), Below.heap_alloc _ _ _ hlt2, HB2.out.block b hlt]; exact H1.out
      have p0 := cell_of hf 0
      have p1 := cell_of hf 1
      have p2 := free_of hf 1
      have HF := Lib.hid hf
      have HOWN := Lib.hid hown
      have HGROW := Lib.hid hgrow
      have HAT := Lib.hid hat
      clear hf hown hgrow hat g1 g2
      go_wp2_with fail
      go_end0
      refine ⟨rfl, ?_⟩
      have hd := row_done hb H1.out (by simpa using H2.out) H3.out H4.out HB2.out _ HGROW.out (by rw [← hfl] at HOWN; simpa using HOWN.out) HAT.out
      refine ⟨?_, hd.2, ?_⟩
      · rw [endF_yes _ _ _ hcb]
        unfold Sc
        rw [flat_snoc (l ++ [t]), show (l ++ [t] ++ [(⟨6, nlB, at_⟩ : Tok)]).length = l.length + 1 + 1 by simp]
        exact hd.1
      · refine Keeps.setCell ?_ (.inl (.inl rfl)) _
        have hk := (Keeps.of_below HB2.out (fun k => k = b ∨ ∃ vt, w.cell? ⟨b, 1, none⟩ = some vt ∧ vt.ownBlock = some k)).alloc (.cells #[.int .i64 6, .string ⟨#[10]⟩, .int .i64 at_] 31)
        refine ⟨HGROW.out.os.trans hk.os, HGROW.out.tape.trans hk.tape, HGROW.out.output.trans hk.output, Nat.le_trans hk.size HGROW.out.size, fun k hk1 hk2 => ?_⟩
        rw [HGROW.out.block k (Nat.lt_of_lt_of_le hk1 hk.size) (fun e => hk2 (.inr ⟨_, cell_of H1.out 1, e.symm⟩))]
        exact hk.block k hk1 hk2
end Go.Proofs.YtlddbelpbgmljaaDoor
namespace Go.Proofs.YtlddbelpbgmljaaDoor
open Go.RowKit
set_option linter.unusedSimpArgs false
set_option linter.unusedVariables false
set_option linter.unusedSectionVars false

set_option maxHeartbeats 400000 in
theorem note_zero (b : Nat) (at_ : Nat) (w : World) :
    Calls Tryd.prog 49 #[.pointer (some ⟨b, 0, none⟩), .int .i64 at_, .int .i64 0] w fun e w' =>
      e = .panicked [{ v := .iface 45 (.int .i64 at_), recovered := false }] ∧ Below w.heap.size w w' := by
  go_enter Tryd.func49, Tryd.ntmps49
  go_wp2_with (go_at_call 73; refine (cut_zero b 0 at_ _).mono ?_; rintro e w2 ⟨rfl, hb2⟩)
  exact ⟨rfl, rfl, hb2⟩

/-- What is left behind an append to a scanner's notes. -/
theorem note_done {base b : Nat} (hbb : base ≤ b) {src : ByteArray} {vt vn : Value} {nt mt g cap : Nat} {xt xn news : List Value} {w w2 w3 : World}
    (H1 : w.heap[b]? = some (.cells #[.string src, vt, vn] 48)) (H2 : w.ownsRow base 31 3 vt nt xt) (H3 : w.ownsRow base 31 3 vn mt xn) (H4 : ∀ k, vt.ownBlock = some k → vn.ownBlock = some k → False)
    (HB2 : Below w.heap.size w w2) (o : Obj) (HG : (w2.alloc o).grownBy w3 vn.ownBlock)
    (HOWN : w3.ownsRow base 31 3 (.slice (some ⟨g, 0, none⟩) (mt + 1) cap) (mt + 1) (xn ++ news)) (HAT : vn.ownBlock = some g ∨ g = w2.heap.size + 1) :
    (base ≤ b ∧ ∃ vt' vn', (w3.setCell ⟨b, 2, none⟩ (.slice (some ⟨g, 0, none⟩) (mt + 1) cap)).heap[b]? = some (.cells #[.string src, vt', vn'] 48) ∧
      (w3.setCell ⟨b, 2, none⟩ (.slice (some ⟨g, 0, none⟩) (mt + 1) cap)).ownsRow base 31 3 vt' nt xt ∧
      (w3.setCell ⟨b, 2, none⟩ (.slice (some ⟨g, 0, none⟩) (mt + 1) cap)).ownsRow base 31 3 vn' (mt + 1) (xn ++ news) ∧ ∀ k, vt'.ownBlock = some k → vn'.ownBlock = some k → False) ∧
    Frm base b w (w3.setCell ⟨b, 2, none⟩ (.slice (some ⟨g, 0, none⟩) (mt + 1) cap)) := by
  have hlt := lt_of_block H1
  have hlt2 : b < w2.heap.size := Nat.lt_of_lt_of_le hlt HB2.size
  have hne := own_ne H2 H1 (by decide)
  have hnn := own_ne H3 H1 (by decide)
  have hgb : g ≠ b := by
    rintro rfl
    rcases HAT with h | h
    · exact hnn h
    · omega
  have hf : w3.heap[b]? = some (.cells #[.string src, vt, vn] 48) := by
    rw [HG.block b (by simp; omega) (fun e => hnn e.symm), Below.heap_alloc _ _ _ hlt2, HB2.block b hlt]; exact H1
  have ht3 : w3.ownsRow base 31 3 vt nt xt := by
    refine ((row_kept H2 HB2).alloc o).kept HG ?_
    cases hv : vt.ownBlock with
    | none => exact .inl rfl
    | some k => exact .inr (fun e => H4 k hv e.symm)
  refine ⟨⟨hbb, vt, _, heap_setCell hf _, ?_, ?_, ?_⟩, ?_, ?_⟩
  · exact ownsRow_setCell_other ht3 hne _
  · refine ownsRow_setCell_other HOWN ?_ _
    simp only [Value.ownBlock]
    exact fun e => hgb (Option.some.inj e)
  · intro k h1 h2
    simp only [Value.ownBlock, Option.some.injEq] at h2
    subst h2
    rcases HAT with h | h
    · exact H4 _ h1 h
    · have := (H2.lt _ h1).2
      have := HB2.size
      omega
  · have h1 : Below base w (w2.alloc o) := (HB2.mono (by omega)).alloc (by omega) o
    have h2 : Below base w w3 := h1.grown HG (by simp; omega) (fun k hk => (H3.lt k hk).1)
    exact h2.setCell hbb _
  · have h1 : Lib.OthersKept 31 (some b) w (w2.alloc o) := by
      refine Lib.OthersKept.alloc ?_ o
      intro k x hk _ _
      rw [HB2.block k (lt_of_block hk)]; exact hk
    have h2 : Lib.OthersKept 31 (some b) w w3 := by
      refine h1.grown HG ?_
      intro g' hg'
      rcases ((row_kept H3 HB2).alloc o).2 with ⟨rfl, _⟩ | ⟨g2, c2, cur, rfl, _, hh, _⟩
      · simp [Value.ownBlock] at hg'
      · simp only [Value.ownBlock, Option.some.injEq] at hg'
        subst hg'
        exact ⟨cur, _, hh⟩
    exact h2.setCell _ rfl _

/-- The tokens behind a note. -/
def noteF (tk : List Tok) (s : ByteArray) (at_ : Nat) : List Tok := if 0 ≤ Lib.indexByte s.data.toList 10 then endF tk at_ else tk
theorem noteF_yes {tk : List Tok} {s : ByteArray} {at_ : Nat} (h : decide (0 ≤ Lib.indexByte s.data.toList 10) = true) : noteF tk s at_ = endF tk at_ := by simp at h; simp [noteF, h]
theorem noteF_no {tk : List Tok} {s : ByteArray} {at_ : Nat} (h : decide (0 ≤ Lib.indexByte s.data.toList 10) = false) : noteF tk s at_ = tk := by simp at h; simp [noteF]; omega

set_option maxHeartbeats 1600000 in
theorem note_ok (base b : Nat) (src : ByteArray) (tk nt : List Tok) (at_ size : Nat) (w : World) (hS : Sc base b src tk nt w) (h0 : size ≠ 0) (h : at_ + size ≤ src.size) (hs : src.size ≤ 1000000) (hl : tk.length ≤ 1000000) (hm : nt.length ≤ 1000000) :
    Calls Tryd.prog 49 #[.pointer (some ⟨b, 0, none⟩), .int .i64 at_, .int .i64 size] w fun e w' =>
      e = .returned (.int .i64 size) ∧ Sc base b src (noteF tk (src.extract at_ (at_ + size)) at_) (nt ++ [⟨0, src.extract at_ (at_ + size), at_⟩]) w' ∧ Frm base b w w' := by
  have HS := Lib.hid hS
  obtain ⟨hb, vt0, vn0, h1, h2, h3, h4⟩ := hS
  have c0 := cell_of h1 0
  have hlt := lt_of_block h1
  obtain ⟨i0, hi0, hz0, hz1, hz2⟩ := info_parts info38
  have HH1 := Lib.hid h1
  have HH2 := Lib.hid h2
  clear h1 h2 h3 h4
  go_enter Tryd.func49, Tryd.ntmps49
  go_wp2_with fail
  go_at_call 73
  refine (cut_ok b src 0 at_ size _ c0 h0 h hs).mono ?_
  rintro e w2 ⟨rfl, hb2⟩
  have HB2 := Lib.hid hb2
  clear hb2
  generalize htx : src.extract at_ (at_ + size) = tx
  go_wp2_with fail
  go_at_call 20
  refine (Tryd.strings_Contains_one tx 10 _).mono ?_
  rintro e w3 ⟨rfl, hw3⟩
  have hb3 : Below w.heap.size w w3 := by rw [hw3]; exact HB2.out.alloc HB2.out.size _
  have a0 : w3.cell? ⟨w2.heap.size, 0, none⟩ = some (.int .i64 0) := by rw [hw3]; exact cell_of (heap_alloc_new w2 _) 0
  have a1 : w3.cell? ⟨w2.heap.size, 1, none⟩ = some (.string tx) := by rw [hw3]; exact cell_of (heap_alloc_new w2 _) 1
  have a2 : w3.cell? ⟨w2.heap.size, 2, none⟩ = some (.int .i64 at_) := by rw [hw3]; exact cell_of (heap_alloc_new w2 _) 2
  have hz3 : w2.heap.size < w3.heap.size := by rw [hw3]; simp
  have HB3 := Lib.hid hb3
  have HS3 := Lib.hid (HS.out.keep hb3)
  clear hb3 hw3
  cases hcb : decide (0 ≤ Lib.indexByte tx.data.toList 10) with
  | false =>
    obtain ⟨_, vt, vn, h1, h2, h3, h4⟩ := HS3.out
    have c2 := cell_of h1 2
    have f2 := free_of h1 2
    have H1 := Lib.hid h1
    have H2 := Lib.hid h2
    have H3 := Lib.hid h3
    have H4 := Lib.hid h4
    clear h1 h2 h3 h4
    have HBD : Hid (Below w3.heap.size w3 w3.drew) := Lib.hid ⟨rfl, rfl, rfl, Nat.le_refl _, fun _ _ => rfl⟩
    have HO3 : Hid (w3.drew.ownsRow base 31 3 vn nt.length (flat nt)) := Lib.hid (row_kept H3.out HBD.out)
    have hnn : vn.ownBlock ≠ some b := own_ne H3.out H1.out (by decide)
    have hlt3 : b < w3.heap.size := lt_of_block H1.out
    have hwb : base ≤ w3.heap.size := by omega
    have HDB : Hid (∀ o, (w3.drew.alloc o).heap[b]? = some (.cells #[.string src, vt, vn] 48)) := Lib.hid fun o => by rw [Below.heap_alloc _ _ _ (by simpa using hlt3)]; exact H1.out
    go_wp2_with (with_reducible refine stop_region ?_)
    refine Lib.hid ?_
    go_region_law
      (refine step_append_lies _ (by rfl) _ _ _ (by rfl) base 31 i0 _ 3 32 Tryd.underlying26 hi0 hz0 hz1 hz2 rfl (by omega) vn nt.length (flat nt) (by rfl) (HO3.out.alloc _)
              ⟨w3.heap.size, 0, none⟩ 1 1 [.int .i64 0, .string tx, .int .i64 at_] (by rfl) (by rfl) (World.news_of_block (cs := #[.int .i64 0, .string tx, .int .i64 at_]) (t := 31) (fr := (0, 0)) (heap_alloc_new w3.drew _)) (by simp [Value.oneCell'])
              (by omega) (by unfold maxLen; omega) (by omega) (by simp; omega) (w3.heap.size + 1) (by simp) ?_
       intro gg cap w4 hown hgrow hat hlt4
       have HGROW : Hid ((w3.drew.alloc (.cells #[.int .i64 0, .string tx, .int .i64 at_] 31)).grownBy w4 vn.ownBlock) := Lib.hid hgrow
       have hf : w4.heap[b]? = some (.cells #[.string src, vt, vn] 48) := by
         rw [HGROW.out.block b (by simp; omega) (fun e => hnn e.symm)]; exact HDB.out _
       have p0 := cell_of hf 0
       have p1 := cell_of hf 2
       have p2 := free_of hf 2
       have HF := Lib.hid hf
       have HOWN := Lib.hid hown
       have HAT := Lib.hid hat
       clear hf hown hgrow hat c2 f2)
    all_goals
      go_wp2_with fail
      go_ret
      refine ⟨rfl, ?_⟩
      have hd := note_done hb H1.out H2.out H3.out H4.out HBD.out _ HGROW.out HOWN.out HAT.out
      refine ⟨?_, (Frm.of_below HB3.out (by omega)).trans hd.2⟩
      rw [htx, noteF_no hcb]
      unfold Sc
      rw [flat_snoc nt, List.length_append]
      exact hd.1
  | true =>
    go_wp2_with (go_at_call 39; refine (endLine_any base b src tk nt at_ _ HS3.out hl).mono ?_; rintro e w4 ⟨rfl, hs4, hf4, hk4⟩)
    have hne : ∀ i : Nat, w4.cell? ⟨w2.heap.size, i, none⟩ = w3.cell? ⟨w2.heap.size, i, none⟩ := by
      intro i
      have : w4.heap[w2.heap.size]? = w3.heap[w2.heap.size]? := by
        refine hk4.block _ hz3 ?_
        rintro (h | ⟨v, hv, ho⟩)
        · have := HB2.out.size; omega
        · have e1 : v = vt0 := by
            have := HB3.out.cell (p := ⟨b, 1, none⟩) hlt
            rw [this, cell_of HH1.out 1] at hv
            simpa using hv.symm
          have := (HH2.out.lt _ (e1 ▸ ho)).2
          have := HB2.out.size
          omega
      unfold World.cell?
      simp only [this]
    rw [← hne] at a0 a1 a2
    have HF3 : Hid (Frm base b w w4) := Lib.hid ((Frm.of_below HB3.out (by omega)).trans hf4)
    have HS4 := Lib.hid hs4
    have hz4 := Nat.lt_of_lt_of_le hz3 hk4.size
    clear hs4 hf4 hk4 hne HB3 HS3
    generalize he : endF tk at_ = tk' at HS4
    obtain ⟨_, vt, vn, h1, h2, h3, h4⟩ := HS4.out
    have c2 := cell_of h1 2
    have f2 := free_of h1 2
    have H1 := Lib.hid h1
    have H2 := Lib.hid h2
    have H3 := Lib.hid h3
    have H4 := Lib.hid h4
    clear h1 h2 h3 h4
    have HBD : Hid (Below w4.heap.size w4 w4.drew) := Lib.hid ⟨rfl, rfl, rfl, Nat.le_refl _, fun _ _ => rfl⟩
    have HO3 : Hid (w4.drew.ownsRow base 31 3 vn nt.length (flat nt)) := Lib.hid (row_kept H3.out HBD.out)
    have hnn : vn.ownBlock ≠ some b := own_ne H3.out H1.out (by decide)
    have hlt3 : b < w4.heap.size := lt_of_block H1.out
    have hwb : base ≤ w4.heap.size := by omega
    have HDB : Hid (∀ o, (w4.drew.alloc o).heap[b]? = some (.cells #[.string src, vt, vn] 48)) := Lib.hid fun o => by rw [Below.heap_alloc _ _ _ (by simpa using hlt3)]; exact H1.out
    go_wp2_with (with_reducible refine stop_region ?_)
    refine Lib.hid ?_
    go_region_law
      (refine step_append_lies _ (by rfl) _ _ _ (by rfl) base 31 i0 _ 3 32 Tryd.underlying26 hi0 hz0 hz1 hz2 rfl (by omega) vn nt.length (flat nt) (by rfl) (HO3.out.alloc _)
              ⟨w4.heap.size, 0, none⟩ 1 1 [.int .i64 0, .string tx, .int .i64 at_] (by rfl) (by rfl) (World.news_of_block (cs := #[.int .i64 0, .string tx, .int .i64 at_]) (t := 31) (fr := (0, 0)) (heap_alloc_new w4.drew _)) (by simp [Value.oneCell'])
              (by omega) (by unfold maxLen; omega) (by omega) (by simp; omega) (w4.heap.size + 1) (by simp) ?_
       intro gg cap w5 hown hgrow hat hlt4
       have HGROW : Hid ((w4.drew.alloc (.cells #[.int .i64 0, .string tx, .int .i64 at_] 31)).grownBy w5 vn.ownBlock) := Lib.hid hgrow
       have hf : w5.heap[b]? = some (.cells #[.string src, vt, vn] 48) := by
         rw [HGROW.out.block b (by simp; omega) (fun e => hnn e.symm)]; exact HDB.out _
       have p0 := cell_of hf 0
       have p1 := cell_of hf 2
       have p2 := free_of hf 2
       have HF := Lib.hid hf
       have HOWN := Lib.hid hown
       have HAT := Lib.hid hat
       clear hf hown hgrow hat c2 f2)
    all_goals
      go_wp2_with fail
      go_ret
      refine ⟨rfl, ?_⟩
      have hd := note_done hb H1.out H2.out H3.out H4.out HBD.out _ HGROW.out HOWN.out HAT.out
      refine ⟨?_, HF3.out.trans hd.2⟩
      rw [htx, noteF_yes hcb, he]
      unfold Sc
      rw [flat_snoc nt, List.length_append]
      exact hd.1
end Go.Proofs.YtlddbelpbgmljaaDoor
namespace Go.Proofs.YtlddbelpbgmljaaDoor
open Go.RowKit
set_option linter.unusedSimpArgs false
set_option linter.unusedVariables false
set_option linter.unusedSectionVars false

theorem beforeF_le (s : ByteArray) (q : Int → Bool) (f i : Nat) : beforeF s q f i ≤ s.size := by
  induction f generalizing i with
  | zero => exact Nat.le_refl _
  | succ f ih =>
    rw [beforeF]
    split
    · split
      · omega
      · exact ih _
    · exact Nat.le_refl _

theorem throughF_nat (s o c : ByteArray) (ho : o.size ≤ s.size) : ∃ n : Nat, throughF s o c = (n : Int) ∧ n ≤ s.size := by
  unfold throughF
  simp only
  split
  · exact ⟨0, rfl, Nat.zero_le _⟩
  · rename_i h
    have h1 := Lib.index_room (s.data.toList.drop o.size) c.data.toList (by omega)
    have h2 : (s.data.toList.drop o.size).length = s.size - o.size := by simp
    have h3 : c.data.toList.length = c.size := by simp
    generalize Lib.index (s.data.toList.drop o.size) c.data.toList = i at *
    exact ⟨o.size + i.toNat + c.size, by omega, by omega⟩

theorem quotedF_nat (t : ByteArray) (f i : Nat) (q : Bool) : ∃ n : Nat, quotedF t f i q = (n : Int) ∧ n ≤ t.size + 1 := by
  induction f generalizing i q with
  | zero => exact ⟨0, rfl, by omega⟩
  | succ f ih =>
    rw [quotedF]
    split
    · split
      · exact ⟨0, rfl, by omega⟩
      · split
        · exact ih _ _
        · split
          · exact ih _ _
          · split
            · exact ⟨i + 2, by omega, by omega⟩
            · exact ih _ _
    · exact ⟨0, rfl, by omega⟩

theorem firstSign_le (s : ByteArray) (l : List ByteArray) : firstSign s l ≤ s.size := by
  induction l with
  | nil => exact Nat.zero_le _
  | cons x l ih =>
    rw [firstSign]
    split
    · rename_i h
      simp [pre] at h
      exact h.1
    · exact ih

/-- The walk's stop. -/
theorem stop_ways {p : Prop} (h : Hid p) : p := h.out

abbrev Res := Option (List Tok × List Tok × Nat)
def tokR (src : ByteArray) (tk nt : List Tok) (k : Int) (at_ size : Nat) : Res := if size = 0 then none else some (tk ++ [⟨k, src.extract at_ (at_ + size), at_⟩], nt, size)
def noteR (src : ByteArray) (tk nt : List Tok) (at_ size : Nat) : Res :=
  if size = 0 then none else some (noteF tk (src.extract at_ (at_ + size)) at_, nt ++ [⟨0, src.extract at_ (at_ + size), at_⟩], size)
/-- What a step of the scanner comes to. -/
def StepP (base b : Nat) (src : ByteArray) (at_ : Nat) (w : World) : Res → Ending → World → Prop
  | some (tk, nt, n), e, w' => e = .returned (.int .i64 n) ∧ Sc base b src tk nt w' ∧ Frm base b w w'
  | none, e, w' => e = .panicked [{ v := .iface 45 (.int .i64 at_), recovered := false }] ∧ Frm base b w w'

theorem token_any (base b : Nat) (src : ByteArray) (tk nt : List Tok) (k : Int) (at_ size : Nat) (w : World) (hS : Sc base b src tk nt w) (h : at_ + size ≤ src.size) (hs : src.size ≤ 1000000) (hl : tk.length ≤ 1000000) :
    Calls Tryd.prog 55 #[.pointer (some ⟨b, 0, none⟩), .int .i64 k, .int .i64 at_, .int .i64 size] w (StepP base b src at_ w (tokR src tk nt k at_ size)) := by
  by_cases h0 : size = 0
  · rw [tokR, if_pos h0]; subst h0; exact token_zero base b src tk nt k at_ w hS hl
  · rw [tokR, if_neg h0]; exact token_ok base b src tk nt k at_ size w hS h0 h hs hl
theorem note_any (base b : Nat) (src : ByteArray) (tk nt : List Tok) (at_ size : Nat) (w : World) (hS : Sc base b src tk nt w) (h : at_ + size ≤ src.size) (hs : src.size ≤ 1000000) (hl : tk.length ≤ 1000000) (hm : nt.length ≤ 1000000) :
    Calls Tryd.prog 49 #[.pointer (some ⟨b, 0, none⟩), .int .i64 at_, .int .i64 size] w (StepP base b src at_ w (noteR src tk nt at_ size)) := by
  by_cases h0 : size = 0
  · rw [noteR, if_pos h0]; subst h0
    have hlt : b < w.heap.size := by obtain ⟨_, vt, vn, h1, _⟩ := hS; exact lt_of_block h1
    exact (note_zero b at_ w).mono fun e w' h => ⟨h.1, Frm.of_below h.2 (by have := hS.1; omega)⟩
  · rw [noteR, if_neg h0]; exact note_ok base b src tk nt at_ size w hS h0 h hs hl hm

def slash2 : ByteArray := ⟨#[47, 47]⟩
def slashStar : ByteArray := ⟨#[47, 42]⟩
def starSlash : ByteArray := ⟨#[42, 47]⟩
def tick : ByteArray := ⟨#[96]⟩
/-- One step of the scanner, at the byte at_ with the sign r; rest is what stands there. -/
def takeF (src rest : ByteArray) (tk nt : List Tok) (at_ : Nat) (r : Int) : Res :=
  if r = 10 then some (endF tk at_, nt, 1)
  else if blankI r then some (tk, nt, (blankN r).toNat)
  else if pre rest slash2 then noteR src tk nt at_ (beforeF rest newlineI (rest.size + 1) 0)
  else if pre rest slashStar then noteR src tk nt at_ (throughF rest slashStar starSlash).toNat
  else if letterI r then tokR src tk nt (namedK (rest.extract 0 (beforeF rest outsideI (rest.size + 1) 0)).toList) at_ (beforeF rest outsideI (rest.size + 1) 0)
  else if figureI r then tokR src tk nt 4 at_ (beforeF rest outsideI (rest.size + 1) 0)
  else if r = 34 then tokR src tk nt 5 at_ (quotedF (rest.extract 1 rest.size) rest.size 0 false).toNat
  else if r = 96 then tokR src tk nt 5 at_ (throughF rest tick tick).toNat
  else tokR src tk nt 6 at_ (firstSign rest signsL)

theorem Sc.src {base b : Nat} {src : ByteArray} {tk nt : List Tok} {w : World} (h : Sc base b src tk nt w) : w.cell? ⟨b, 0, none⟩ = some (.string src) := by
  obtain ⟨_, vt, vn, h1, _⟩ := h; exact cell_of h1 0
theorem Sc.lt {base b : Nat} {src : ByteArray} {tk nt : List Tok} {w : World} (h : Sc base b src tk nt w) : b < w.heap.size ∧ base ≤ w.heap.size := by
  obtain ⟨h0, vt, vn, h1, _⟩ := h; have := lt_of_block h1; omega

section
variable (base b : Nat) (src : ByteArray) (tk nt : List Tok) (at_ : Nat) (w : World) (hS : Sc base b src tk nt w) (ha : at_ < src.size) (hs : src.size ≤ 1000000) (hl : tk.length ≤ 1000000) (hm : nt.length ≤ 1000000)

include hS ha hs hl in
set_option maxHeartbeats 400000 in
theorem take_nl : Calls Tryd.prog 38 #[.pointer (some ⟨b, 0, none⟩), .int .i64 at_, .int .i32 10] w (StepP base b src at_ w (some (endF tk at_, nt, 1))) := by
  have c0 := hS.src
  obtain ⟨hlt, hbw⟩ := hS.lt
  go_enter Tryd.func38, Tryd.ntmps38
  go_wp2_with (go_at_call 39; refine (endLine_any base b src tk nt at_ _ hS hl).mono ?_; rintro e w2 ⟨rfl, hs2, hf2, _⟩)
  go_ret
  exact ⟨rfl, hs2, hf2⟩

include hS ha hs in
set_option maxHeartbeats 400000 in
theorem take_blank (r : Int) (r10 : r ≠ 10) (hr : blankI r = true) : Calls Tryd.prog 38 #[.pointer (some ⟨b, 0, none⟩), .int .i64 at_, .int .i32 r] w (StepP base b src at_ w (some (tk, nt, (blankN r).toNat))) := by
  have c0 := hS.src
  obtain ⟨hlt, hbw⟩ := hS.lt
  have e1 : (r == 10) = false := by simpa using r10
  have hb : ((blankN r).toNat : Int) = blankN r := by unfold blankN; split <;> rfl
  have HB := Lib.hid hb
  clear r10 hb
  go_enter Tryd.func38, Tryd.ntmps38
  go_wp2_with (first
    | (go_at_call 47; refine (blank_any r _).mono ?_; rintro e w2 ⟨rfl, rfl⟩; rw [hr])
    | (go_at_call 48; refine (runeLen_blank r hr _).mono ?_; rintro e w2 ⟨rfl, rfl⟩))
  go_ret
  exact ⟨by rw [HB.out]; rfl, hS, ⟨Below.refl _ _, Lib.OthersKept.refl _ _ _⟩⟩

theorem StepP.trans {base b : Nat} {src : ByteArray} {at_ : Nat} {w w2 : World} {R : Res} {e : Ending} {w3 : World} (h : Frm base b w w2) (k : StepP base b src at_ w2 R e w3) : StepP base b src at_ w R e w3 := by
  match R, k with
  | none, k => exact ⟨k.1, h.trans k.2⟩
  | some (tk, nt, n), k => exact ⟨k.1, k.2.1, h.trans k.2.2⟩

include hS ha hs hl hm in
set_option maxHeartbeats 400000 in
theorem take_line (r : Int) (rest : ByteArray) (hrest : src.extract at_ src.size = rest) (r10 : r ≠ 10) (hr : blankI r = false) (hp : pre rest slash2 = true) :
    Calls Tryd.prog 38 #[.pointer (some ⟨b, 0, none⟩), .int .i64 at_, .int .i32 r] w (StepP base b src at_ w (noteR src tk nt at_ (beforeF rest newlineI (rest.size + 1) 0))) := by
  have c0 := hS.src
  obtain ⟨hlt, hbw⟩ := hS.lt
  have e1 : (r == 10) = false := by simpa using r10
  have hz : rest.size = src.size - at_ := by rw [← hrest]; simp
  have hle := beforeF_le rest newlineI (rest.size + 1) 0
  generalize hn : beforeF rest newlineI (rest.size + 1) 0 = n at hle ⊢
  generalize hRR : noteR src tk nt at_ n = R
  have HR := Lib.hid hrest
  have HS := Lib.hid hS
  have HZ := Lib.hid hz
  have HLE := Lib.hid hle
  have HN := Lib.hid hn
  have HRR := Lib.hid hRR
  clear r10 hrest hS hz hle hn hRR
  go_enter Tryd.func38, Tryd.ntmps38
  go_wp2_with (first
    | (go_at_call 47; refine (blank_any r _).mono ?_; rintro e w2 ⟨rfl, hw2⟩; replace hw2 := hw2.symm; subst hw2; rw [hr])
    | (go_at_call 40; rw [HR.out]; refine (hp_any rest slash2 _ (by have := HZ.out; omega) (by decide)).mono ?_; rintro e w2 ⟨rfl, hw2⟩; replace hw2 := hw2.symm; subst hw2; rw [hp])
    | (go_at_call 50; refine (before_any newlineI 51 rest _ (by have := HZ.out; omega) (fun _ _ => rfl) newline_any).mono ?_; rintro e w2 ⟨rfl, hb2⟩
       rw [HN.out]; have HB2 := Lib.hid hb2; clear hb2)
    | (go_at_call 49; refine (note_any base b src tk nt at_ n _ (HS.out.keep HB2.out) (by have := HZ.out; have := HLE.out; omega) hs hl hm).mono ?_; intro e w3 h
       rw [HRR.out] at h
       replace h := StepP.trans (Frm.of_below HB2.out hbw) h
       rcases R with _ | ⟨tk3, nt3, m⟩
       · obtain ⟨rfl, hf3⟩ := h
         exact ⟨rfl, rfl, hf3⟩
       obtain ⟨rfl, hs3, hf3⟩ := h))
  go_ret
  exact ⟨rfl, hs3, hf3⟩

include hS ha hs hl hm in
set_option maxHeartbeats 800000 in
theorem take_span (r : Int) (rest : ByteArray) (hrest : src.extract at_ src.size = rest) (r10 : r ≠ 10) (hr : blankI r = false) (hp1 : pre rest slash2 = false) (hp2 : pre rest slashStar = true) (m : Int) (hg : w.cell? ⟨0, 0, none⟩ = some (.int .i64 m)) :
    Calls Tryd.prog 38 #[.pointer (some ⟨b, 0, none⟩), .int .i64 at_, .int .i32 r] w (StepP base b src at_ w (noteR src tk nt at_ (throughF rest slashStar starSlash).toNat)) := by
  have c0 := hS.src
  obtain ⟨hlt, hbw⟩ := hS.lt
  have e1 : (r == 10) = false := by simpa using r10
  have hz : rest.size = src.size - at_ := by rw [← hrest]; simp
  have ho : slashStar.size ≤ rest.size := by simp [pre] at hp2; exact hp2.1
  obtain ⟨n, hn, hle⟩ := throughF_nat rest slashStar starSlash ho
  rw [hn, Int.toNat_natCast]
  generalize hRR : noteR src tk nt at_ n = R
  have HR := Lib.hid hrest
  have HS := Lib.hid hS
  have HZ := Lib.hid hz
  have HLE := Lib.hid hle
  have HN := Lib.hid hn
  have HRR := Lib.hid hRR
  clear r10 hrest hS hz hle hn hRR
  go_enter Tryd.func38, Tryd.ntmps38
  go_wp2_with (first
    | (go_at_call 47; refine (blank_any r _).mono ?_; rintro e w2 ⟨rfl, hw2⟩; replace hw2 := hw2.symm; subst hw2; rw [hr])
    | (go_at_call 40; (try rw [HR.out]); first | (refine (hp_any rest slash2 _ (by have := HZ.out; omega) (by decide)).mono ?_; rintro e w2 ⟨rfl, hw2⟩; replace hw2 := hw2.symm; subst hw2; rw [hp1]) | (refine (hp_any rest slashStar _ (by have := HZ.out; omega) (by decide)).mono ?_; rintro e w2 ⟨rfl, hw2⟩; replace hw2 := hw2.symm; subst hw2; rw [hp2]))
    | (go_at_call 52; refine (through_any rest slashStar starSlash m _ (by have := HZ.out; omega) ho (by decide) hg).mono ?_; rintro e w2 ⟨rfl, hw2⟩; replace hw2 := hw2.symm; subst hw2; rw [HN.out])
    | (go_at_call 49; refine (note_any base b src tk nt at_ n _ HS.out (by have := HZ.out; have := HLE.out; omega) hs hl hm).mono ?_; intro e w3 h
       rw [HRR.out] at h
       replace h := StepP.trans ⟨Below.refl _ _, Lib.OthersKept.refl _ _ _⟩ h
       rcases R with _ | ⟨tk3, nt3, m⟩
       · obtain ⟨rfl, hf3⟩ := h
         exact ⟨rfl, rfl, hf3⟩
       obtain ⟨rfl, hs3, hf3⟩ := h))
  go_ret
  exact ⟨rfl, hs3, hf3⟩

include hS ha hs hl hm in
set_option maxHeartbeats 800000 in
theorem take_word (r : Int) (rest : ByteArray) (hrest : src.extract at_ src.size = rest) (r10 : r ≠ 10) (hr : blankI r = false) (hp1 : pre rest slash2 = false) (hp2 : pre rest slashStar = false) (hl1 : letterI r = true) :
    Calls Tryd.prog 38 #[.pointer (some ⟨b, 0, none⟩), .int .i64 at_, .int .i32 r] w (StepP base b src at_ w (tokR src tk nt (namedK (rest.extract 0 (beforeF rest outsideI (rest.size + 1) 0)).toList) at_ (beforeF rest outsideI (rest.size + 1) 0))) := by
  have c0 := hS.src
  obtain ⟨hlt, hbw⟩ := hS.lt
  have e1 : (r == 10) = false := by simpa using r10
  have hz : rest.size = src.size - at_ := by rw [← hrest]; simp
  have hle := beforeF_le rest outsideI (rest.size + 1) 0
  generalize hn : beforeF rest outsideI (rest.size + 1) 0 = n at hle ⊢
  generalize hRR : tokR src tk nt (namedK (rest.extract 0 n).toList) at_ n = R
  have HR := Lib.hid hrest
  have HS := Lib.hid hS
  have HZ := Lib.hid hz
  have HLE := Lib.hid hle
  have HN := Lib.hid hn
  have HRR := Lib.hid hRR
  clear r10 hrest hS hz hle hn hRR
  go_enter Tryd.func38, Tryd.ntmps38
  go_wp2_with (first
    | (go_at_call 47; refine (blank_any r _).mono ?_; rintro e w2 ⟨rfl, hw2⟩; replace hw2 := hw2.symm; subst hw2; rw [hr])
    | (go_at_call 40; (try rw [HR.out]); first | (refine (hp_any rest slash2 _ (by have := HZ.out; omega) (by decide)).mono ?_; rintro e w2 ⟨rfl, hw2⟩; replace hw2 := hw2.symm; subst hw2; rw [hp1]) | (refine (hp_any rest slashStar _ (by have := HZ.out; omega) (by decide)).mono ?_; rintro e w2 ⟨rfl, hw2⟩; replace hw2 := hw2.symm; subst hw2; rw [hp2]))
    | (go_at_call 53; refine (letter_any r _).mono ?_; rintro e w2 ⟨rfl, hw2⟩; replace hw2 := hw2.symm; subst hw2; rw [hl1])
    | (go_at_call 50; refine (before_any outsideI 54 rest _ (by have := HZ.out; omega) (fun _ _ => rfl) outside_any).mono ?_; rintro e w2 ⟨rfl, hb2⟩
       rw [HN.out]; have HB2 := Lib.hid hb2; clear hb2; have hn2 : n ≤ rest.size := HLE.out; have hn3 : rest.size ≤ 1000000 := by have := HZ.out; omega)
    | (go_at_call 56; refine (named_any _ _).mono ?_; rintro e w3 ⟨rfl, hw3⟩; replace hw3 := hw3.symm; subst hw3)
    | (go_at_call 55; refine (token_any base b src tk nt _ at_ n _ (HS.out.keep HB2.out) (by have := HZ.out; have := HLE.out; omega) hs hl).mono ?_; intro e w3 h
       rw [HRR.out] at h
       replace h := StepP.trans (Frm.of_below HB2.out hbw) h
       rcases R with _ | ⟨tk3, nt3, m⟩
       · obtain ⟨rfl, hf3⟩ := h
         exact ⟨rfl, rfl, hf3⟩
       obtain ⟨rfl, hs3, hf3⟩ := h))
  go_ret
  exact ⟨rfl, hs3, hf3⟩

include hS ha hs hl hm in
set_option maxHeartbeats 800000 in
theorem take_number (r : Int) (rest : ByteArray) (hrest : src.extract at_ src.size = rest) (r10 : r ≠ 10) (hr : blankI r = false) (hp1 : pre rest slash2 = false) (hp2 : pre rest slashStar = false) (hl1 : letterI r = false) (hf1 : figureI r = true) :
    Calls Tryd.prog 38 #[.pointer (some ⟨b, 0, none⟩), .int .i64 at_, .int .i32 r] w (StepP base b src at_ w (tokR src tk nt 4 at_ (beforeF rest outsideI (rest.size + 1) 0))) := by
  have c0 := hS.src
  obtain ⟨hlt, hbw⟩ := hS.lt
  have e1 : (r == 10) = false := by simpa using r10
  have hz : rest.size = src.size - at_ := by rw [← hrest]; simp
  have hle := beforeF_le rest outsideI (rest.size + 1) 0
  generalize hn : beforeF rest outsideI (rest.size + 1) 0 = n at hle ⊢
  generalize hRR : tokR src tk nt 4 at_ n = R
  have HR := Lib.hid hrest
  have HS := Lib.hid hS
  have HZ := Lib.hid hz
  have HLE := Lib.hid hle
  have HN := Lib.hid hn
  have HRR := Lib.hid hRR
  clear r10 hrest hS hz hle hn hRR
  go_enter Tryd.func38, Tryd.ntmps38
  go_wp2_with (first
    | (go_at_call 47; refine (blank_any r _).mono ?_; rintro e w2 ⟨rfl, hw2⟩; replace hw2 := hw2.symm; subst hw2; rw [hr])
    | (go_at_call 40; (try rw [HR.out]); first | (refine (hp_any rest slash2 _ (by have := HZ.out; omega) (by decide)).mono ?_; rintro e w2 ⟨rfl, hw2⟩; replace hw2 := hw2.symm; subst hw2; rw [hp1]) | (refine (hp_any rest slashStar _ (by have := HZ.out; omega) (by decide)).mono ?_; rintro e w2 ⟨rfl, hw2⟩; replace hw2 := hw2.symm; subst hw2; rw [hp2]))
    | (go_at_call 53; refine (letter_any r _).mono ?_; rintro e w2 ⟨rfl, hw2⟩; replace hw2 := hw2.symm; subst hw2; rw [hl1])
    | (go_at_call 57; refine (figure_any r _).mono ?_; rintro e w2 ⟨rfl, hw2⟩; replace hw2 := hw2.symm; subst hw2; rw [hf1])
    | (go_at_call 50; refine (before_any outsideI 54 rest _ (by have := HZ.out; omega) (fun _ _ => rfl) outside_any).mono ?_; rintro e w2 ⟨rfl, hb2⟩
       rw [HN.out]; have HB2 := Lib.hid hb2; clear hb2)
    | (go_at_call 55; refine (token_any base b src tk nt 4 at_ n _ (HS.out.keep HB2.out) (by have := HZ.out; have := HLE.out; omega) hs hl).mono ?_; intro e w3 h
       rw [HRR.out] at h
       replace h := StepP.trans (Frm.of_below HB2.out hbw) h
       rcases R with _ | ⟨tk3, nt3, m⟩
       · obtain ⟨rfl, hf3⟩ := h
         exact ⟨rfl, rfl, hf3⟩
       obtain ⟨rfl, hs3, hf3⟩ := h))
  go_ret
  exact ⟨rfl, hs3, hf3⟩

include hS ha hs hl hm in
set_option maxHeartbeats 800000 in
theorem take_text (r : Int) (rest : ByteArray) (hrest : src.extract at_ src.size = rest) (r10 : r ≠ 10) (hr : blankI r = false) (hp1 : pre rest slash2 = false) (hp2 : pre rest slashStar = false) (hl1 : letterI r = false) (hf1 : figureI r = false) (r34 : r = 34) :
    Calls Tryd.prog 38 #[.pointer (some ⟨b, 0, none⟩), .int .i64 at_, .int .i32 r] w (StepP base b src at_ w (tokR src tk nt 5 at_ (quotedF (rest.extract 1 rest.size) rest.size 0 false).toNat)) := by
  have c0 := hS.src
  obtain ⟨hlt, hbw⟩ := hS.lt
  have e1 : (r == 10) = false := by simpa using r10
  have e2 : (r == 34) = true := by simpa using r34
  clear r34
  have hz : rest.size = src.size - at_ := by rw [← hrest]; simp
  obtain ⟨n, hn, hle⟩ := quotedF_nat (rest.extract 1 rest.size) rest.size 0 false
  have hle : n ≤ rest.size := by simp at hle; omega
  rw [hn, Int.toNat_natCast]
  generalize hRR : tokR src tk nt 5 at_ n = R
  have HR := Lib.hid hrest
  have HS := Lib.hid hS
  have HZ := Lib.hid hz
  have HLE := Lib.hid hle
  have HN := Lib.hid hn
  have HRR := Lib.hid hRR
  clear r10 hrest hS hz hle hn hRR
  go_enter Tryd.func38, Tryd.ntmps38
  go_wp2_with (first
    | (go_at_call 47; refine (blank_any r _).mono ?_; rintro e w2 ⟨rfl, hw2⟩; replace hw2 := hw2.symm; subst hw2; rw [hr])
    | (go_at_call 40; (try rw [HR.out]); first | (refine (hp_any rest slash2 _ (by have := HZ.out; omega) (by decide)).mono ?_; rintro e w2 ⟨rfl, hw2⟩; replace hw2 := hw2.symm; subst hw2; rw [hp1]) | (refine (hp_any rest slashStar _ (by have := HZ.out; omega) (by decide)).mono ?_; rintro e w2 ⟨rfl, hw2⟩; replace hw2 := hw2.symm; subst hw2; rw [hp2]))
    | (go_at_call 53; refine (letter_any r _).mono ?_; rintro e w2 ⟨rfl, hw2⟩; replace hw2 := hw2.symm; subst hw2; rw [hl1])
    | (go_at_call 57; refine (figure_any r _).mono ?_; rintro e w2 ⟨rfl, hw2⟩; replace hw2 := hw2.symm; subst hw2; rw [hf1])
    | (go_at_call 58; refine (quoted_any rest _ (by have := HZ.out; omega) (by have := HZ.out; omega)).mono ?_; rintro e w2 ⟨rfl, hb2⟩
       rw [HN.out]; have HB2 := Lib.hid hb2; clear hb2)
    | (go_at_call 55; refine (token_any base b src tk nt 5 at_ n _ (HS.out.keep HB2.out) (by have := HZ.out; have := HLE.out; omega) hs hl).mono ?_; intro e w3 h
       rw [HRR.out] at h
       replace h := StepP.trans (Frm.of_below HB2.out hbw) h
       rcases R with _ | ⟨tk3, nt3, m⟩
       · obtain ⟨rfl, hf3⟩ := h
         exact ⟨rfl, rfl, hf3⟩
       obtain ⟨rfl, hs3, hf3⟩ := h))
  go_ret
  exact ⟨rfl, hs3, hf3⟩

include hS ha hs hl hm in
set_option maxHeartbeats 800000 in
theorem take_raw (r : Int) (rest : ByteArray) (hrest : src.extract at_ src.size = rest) (r10 : r ≠ 10) (hr : blankI r = false) (hp1 : pre rest slash2 = false) (hp2 : pre rest slashStar = false) (hl1 : letterI r = false) (hf1 : figureI r = false) (r34 : r ≠ 34) (r96 : r = 96) (m : Int) (hg : w.cell? ⟨0, 0, none⟩ = some (.int .i64 m)) :
    Calls Tryd.prog 38 #[.pointer (some ⟨b, 0, none⟩), .int .i64 at_, .int .i32 r] w (StepP base b src at_ w (tokR src tk nt 5 at_ (throughF rest tick tick).toNat)) := by
  have c0 := hS.src
  obtain ⟨hlt, hbw⟩ := hS.lt
  have e1 : (r == 10) = false := by simpa using r10
  have e2 : (r == 34) = false := by simpa using r34
  have e3 : (r == 96) = true := by simpa using r96
  clear r34 r96
  have hz : rest.size = src.size - at_ := by rw [← hrest]; simp
  have ho : tick.size ≤ rest.size := by show 1 ≤ _; omega
  obtain ⟨n, hn, hle⟩ := throughF_nat rest tick tick ho
  rw [hn, Int.toNat_natCast]
  generalize hRR : tokR src tk nt 5 at_ n = R
  have HR := Lib.hid hrest
  have HS := Lib.hid hS
  have HZ := Lib.hid hz
  have HLE := Lib.hid hle
  have HN := Lib.hid hn
  have HRR := Lib.hid hRR
  clear r10 hrest hS hz hle hn hRR
  go_enter Tryd.func38, Tryd.ntmps38
  go_wp2_with (first
    | (go_at_call 47; refine (blank_any r _).mono ?_; rintro e w2 ⟨rfl, hw2⟩; replace hw2 := hw2.symm; subst hw2; rw [hr])
    | (go_at_call 40; (try rw [HR.out]); first | (refine (hp_any rest slash2 _ (by have := HZ.out; omega) (by decide)).mono ?_; rintro e w2 ⟨rfl, hw2⟩; replace hw2 := hw2.symm; subst hw2; rw [hp1]) | (refine (hp_any rest slashStar _ (by have := HZ.out; omega) (by decide)).mono ?_; rintro e w2 ⟨rfl, hw2⟩; replace hw2 := hw2.symm; subst hw2; rw [hp2]))
    | (go_at_call 53; refine (letter_any r _).mono ?_; rintro e w2 ⟨rfl, hw2⟩; replace hw2 := hw2.symm; subst hw2; rw [hl1])
    | (go_at_call 57; refine (figure_any r _).mono ?_; rintro e w2 ⟨rfl, hw2⟩; replace hw2 := hw2.symm; subst hw2; rw [hf1])
    | (go_at_call 52; refine (through_any rest tick tick m _ (by have := HZ.out; omega) ho (by decide) hg).mono ?_; rintro e w2 ⟨rfl, hw2⟩; replace hw2 := hw2.symm; subst hw2; rw [HN.out])
    | (go_at_call 55; refine (token_any base b src tk nt 5 at_ n _ HS.out (by have := HZ.out; have := HLE.out; omega) hs hl).mono ?_; intro e w3 h
       rw [HRR.out] at h
       replace h := StepP.trans ⟨Below.refl _ _, Lib.OthersKept.refl _ _ _⟩ h
       rcases R with _ | ⟨tk3, nt3, m⟩
       · obtain ⟨rfl, hf3⟩ := h
         exact ⟨rfl, rfl, hf3⟩
       obtain ⟨rfl, hs3, hf3⟩ := h))
  go_ret
  exact ⟨rfl, hs3, hf3⟩

include hS ha hs hl hm in
set_option maxHeartbeats 800000 in
theorem take_sign (r : Int) (rest : ByteArray) (hrest : src.extract at_ src.size = rest) (r10 : r ≠ 10) (hr : blankI r = false) (hp1 : pre rest slash2 = false) (hp2 : pre rest slashStar = false) (hl1 : letterI r = false) (hf1 : figureI r = false) (r34 : r ≠ 34) (r96 : r ≠ 96) (hg : SignsAt w) :
    Calls Tryd.prog 38 #[.pointer (some ⟨b, 0, none⟩), .int .i64 at_, .int .i32 r] w (StepP base b src at_ w (tokR src tk nt 6 at_ (firstSign rest signsL))) := by
  have c0 := hS.src
  obtain ⟨hlt, hbw⟩ := hS.lt
  have e1 : (r == 10) = false := by simpa using r10
  have e2 : (r == 34) = false := by simpa using r34
  have e3 : (r == 96) = false := by simpa using r96
  clear r34 r96
  have hz : rest.size = src.size - at_ := by rw [← hrest]; simp
  have hle := firstSign_le rest signsL
  generalize hn : firstSign rest signsL = n at hle ⊢
  generalize hRR : tokR src tk nt 6 at_ n = R
  have HR := Lib.hid hrest
  have HS := Lib.hid hS
  have HZ := Lib.hid hz
  have HLE := Lib.hid hle
  have HN := Lib.hid hn
  have HRR := Lib.hid hRR
  clear r10 hrest hS hz hle hn hRR
  go_enter Tryd.func38, Tryd.ntmps38
  go_wp2_with (first
    | (go_at_call 47; refine (blank_any r _).mono ?_; rintro e w2 ⟨rfl, hw2⟩; replace hw2 := hw2.symm; subst hw2; rw [hr])
    | (go_at_call 40; (try rw [HR.out]); first | (refine (hp_any rest slash2 _ (by have := HZ.out; omega) (by decide)).mono ?_; rintro e w2 ⟨rfl, hw2⟩; replace hw2 := hw2.symm; subst hw2; rw [hp1]) | (refine (hp_any rest slashStar _ (by have := HZ.out; omega) (by decide)).mono ?_; rintro e w2 ⟨rfl, hw2⟩; replace hw2 := hw2.symm; subst hw2; rw [hp2]))
    | (go_at_call 53; refine (letter_any r _).mono ?_; rintro e w2 ⟨rfl, hw2⟩; replace hw2 := hw2.symm; subst hw2; rw [hl1])
    | (go_at_call 57; refine (figure_any r _).mono ?_; rintro e w2 ⟨rfl, hw2⟩; replace hw2 := hw2.symm; subst hw2; rw [hf1])
    | (go_at_call 59; refine (signSize_any rest _ (by have := HZ.out; omega) hg).mono ?_; rintro e w2 ⟨rfl, hw2⟩; replace hw2 := hw2.symm; subst hw2; rw [HN.out])
    | (go_at_call 55; refine (token_any base b src tk nt 6 at_ n _ HS.out (by have := HZ.out; have := HLE.out; omega) hs hl).mono ?_; intro e w3 h
       rw [HRR.out] at h
       replace h := StepP.trans ⟨Below.refl _ _, Lib.OthersKept.refl _ _ _⟩ h
       rcases R with _ | ⟨tk3, nt3, m⟩
       · obtain ⟨rfl, hf3⟩ := h
         exact ⟨rfl, rfl, hf3⟩
       obtain ⟨rfl, hs3, hf3⟩ := h))
  go_ret
  exact ⟨rfl, hs3, hf3⟩
end
end Go.Proofs.YtlddbelpbgmljaaDoor
namespace Go.Proofs.YtlddbelpbgmljaaDoor
open Go.RowKit
set_option linter.unusedSimpArgs false
set_option linter.unusedVariables false
set_option linter.unusedSectionVars false

/-- What start-up has laid, as far as the scanner asks for it. -/
def Env (w : World) : Prop := SignsAt w ∧ ∃ m, w.cell? ⟨0, 0, none⟩ = some (.int .i64 m)
theorem Env.below {base : Nat} {w w' : World} (h : Env w) (hb : Below base w w') (h2 : 2 ≤ base) : Env w' := by
  obtain ⟨⟨t, fr, h0⟩, m, h1⟩ := h
  refine ⟨⟨t, fr, ?_⟩, m, ?_⟩
  · rw [hb.block 1 (by omega)]; exact h0
  · rw [hb.cell (p := ⟨0, 0, none⟩) (by show 0 < base; omega)]; exact h1

theorem take_any (base b : Nat) (src rest : ByteArray) (tk nt : List Tok) (at_ : Nat) (r : Int) (w : World) (hS : Sc base b src tk nt w) (hE : Env w) (ha : at_ < src.size) (hs : src.size ≤ 1000000) (hl : tk.length ≤ 1000000) (hm : nt.length ≤ 1000000)
    (hrest : src.extract at_ src.size = rest) :
    Calls Tryd.prog 38 #[.pointer (some ⟨b, 0, none⟩), .int .i64 at_, .int .i32 r] w (StepP base b src at_ w (takeF src rest tk nt at_ r)) := by
  obtain ⟨hg, m, hm1⟩ := hE
  unfold takeF
  by_cases c1 : r = 10
  · rw [if_pos c1]; subst c1; exact take_nl base b src tk nt at_ w hS ha hs hl
  rw [if_neg c1]
  cases c2 : blankI r with
  | true => exact take_blank base b src tk nt at_ w hS ha hs r c1 c2
  | false =>
  rw [if_neg (by decide)]
  cases c3 : pre rest slash2 with
  | true => exact take_line base b src tk nt at_ w hS ha hs hl hm r rest hrest c1 c2 c3
  | false =>
  rw [if_neg (by decide)]
  cases c4 : pre rest slashStar with
  | true => exact take_span base b src tk nt at_ w hS ha hs hl hm r rest hrest c1 c2 c3 c4 m hm1
  | false =>
  rw [if_neg (by decide)]
  cases c5 : letterI r with
  | true => exact take_word base b src tk nt at_ w hS ha hs hl hm r rest hrest c1 c2 c3 c4 c5
  | false =>
  rw [if_neg (by decide)]
  cases c6 : figureI r with
  | true => exact take_number base b src tk nt at_ w hS ha hs hl hm r rest hrest c1 c2 c3 c4 c5 c6
  | false =>
  rw [if_neg (by decide)]
  by_cases c7 : r = 34
  · rw [if_pos c7]; exact take_text base b src tk nt at_ w hS ha hs hl hm r rest hrest c1 c2 c3 c4 c5 c6 c7
  rw [if_neg c7]
  by_cases c8 : r = 96
  · rw [if_pos c8]; exact take_raw base b src tk nt at_ w hS ha hs hl hm r rest hrest c1 c2 c3 c4 c5 c6 c7 c8 m hm1
  rw [if_neg c8]
  exact take_sign base b src tk nt at_ w hS ha hs hl hm r rest hrest c1 c2 c3 c4 c5 c6 c7 c8 hg

theorem endF_len (tk : List Tok) (at_ : Nat) : (endF tk at_).length ≤ tk.length + 1 := by
  unfold endF
  split
  · split <;> simp
  · omega
theorem noteF_len (tk : List Tok) (s : ByteArray) (at_ : Nat) : (noteF tk s at_).length ≤ tk.length + 1 := by
  unfold noteF
  split
  · exact endF_len _ _
  · omega
theorem noteR_len {src : ByteArray} {tk nt tk' nt' : List Tok} {at_ size n : Nat} (h : noteR src tk nt at_ size = some (tk', nt', n)) : tk'.length ≤ tk.length + 1 ∧ nt'.length ≤ nt.length + 1 := by
  unfold noteR at h
  split at h
  · cases h
  · cases h
    exact ⟨noteF_len _ _ _, by simp⟩
theorem tokR_len {src : ByteArray} {tk nt tk' nt' : List Tok} {k : Int} {at_ size n : Nat} (h : tokR src tk nt k at_ size = some (tk', nt', n)) : tk'.length ≤ tk.length + 1 ∧ nt'.length ≤ nt.length + 1 := by
  unfold tokR at h
  split at h
  · cases h
  · cases h
    exact ⟨by simp, by omega⟩
theorem takeF_len {src rest : ByteArray} {tk nt tk' nt' : List Tok} {at_ n : Nat} {r : Int} (h : takeF src rest tk nt at_ r = some (tk', nt', n)) : tk'.length ≤ tk.length + 1 ∧ nt'.length ≤ nt.length + 1 := by
  unfold takeF at h
  split at h
  · cases h; exact ⟨endF_len _ _, by omega⟩
  split at h
  · cases h; exact ⟨by omega, by omega⟩
  split at h
  · exact noteR_len h
  split at h
  · exact noteR_len h
  split at h
  · exact tokR_len h
  split at h
  · exact tokR_len h
  split at h
  · exact tokR_len h
  split at h
  · exact tokR_len h
  · exact tokR_len h

/-- All steps of the scanner, from the byte pos on; signs ahead of next are passed over. What is told: where there is no token, or tokens and notes. -/
def allF (src : ByteArray) : Nat → Nat → Nat → List Tok → List Tok → Except Nat (List Tok × List Tok)
  | 0, _, _, tk, nt => .ok (tk, nt)
  | f + 1, pos, next, tk, nt => if pos < src.size then
      (if pos < next then allF src f (pos + (Utf8.decode src pos).2) next tk nt
       else match takeF src (src.extract pos src.size) tk nt pos ((Utf8.decode src pos).1 : Nat) with
        | none => .error pos
        | some (tk', nt', m) => allF src f (pos + (Utf8.decode src pos).2) (pos + m) tk' nt')
    else .ok (endF tk src.size, nt)

/-- What all steps together come to. -/
def AllP (base b : Nat) (src : ByteArray) (w : World) : Except Nat (List Tok × List Tok) → Ending → World → Prop
  | .ok (tk, nt), e, w' => e = .returned (.tuple #[]) ∧ Sc base b src tk nt w' ∧ Frm base b w w'
  | .error at_, e, w' => e = .panicked [{ v := .iface 45 (.int .i64 at_), recovered := false }] ∧ Frm base b w w'

theorem noteR_size {src : ByteArray} {tk nt tk' nt' : List Tok} {at_ size n k : Nat} (hk : size ≤ k) (h : noteR src tk nt at_ size = some (tk', nt', n)) : n ≤ k := by
  unfold noteR at h
  split at h
  · cases h
  · cases h; exact hk
theorem tokR_size {src : ByteArray} {tk nt tk' nt' : List Tok} {k : Int} {at_ size n m : Nat} (hk : size ≤ m) (h : tokR src tk nt k at_ size = some (tk', nt', n)) : n ≤ m := by
  unfold tokR at h
  split at h
  · cases h
  · cases h; exact hk
theorem takeF_size {src rest : ByteArray} {tk nt tk' nt' : List Tok} {at_ n : Nat} {r : Int} (h1 : 1 ≤ rest.size) (h : takeF src rest tk nt at_ r = some (tk', nt', n)) : n ≤ rest.size + 3 := by
  unfold takeF at h
  split at h
  · cases h; omega
  split at h
  · cases h; unfold blankN; split <;> simp
  split at h
  · exact Nat.le_trans (noteR_size (beforeF_le _ _ _ _) h) (by omega)
  split at h
  · rename_i hp
    have ho : slashStar.size ≤ rest.size := by simp [pre] at hp; exact hp.1
    obtain ⟨m, hm, hle⟩ := throughF_nat rest slashStar starSlash ho
    rw [hm, Int.toNat_natCast] at h
    exact Nat.le_trans (noteR_size hle h) (by omega)
  split at h
  · exact Nat.le_trans (tokR_size (beforeF_le _ _ _ _) h) (by omega)
  split at h
  · exact Nat.le_trans (tokR_size (beforeF_le _ _ _ _) h) (by omega)
  split at h
  · obtain ⟨m, hm, hle⟩ := quotedF_nat (rest.extract 1 rest.size) rest.size 0 false
    rw [hm, Int.toNat_natCast] at h
    have : (rest.extract 1 rest.size).size = rest.size - 1 := by simp
    exact Nat.le_trans (tokR_size hle h) (by omega)
  split at h
  · obtain ⟨m, hm, hle⟩ := throughF_nat rest tick tick (by show 1 ≤ _; omega)
    rw [hm, Int.toNat_natCast] at h
    exact Nat.le_trans (tokR_size hle h) (by omega)
  · exact Nat.le_trans (tokR_size (firstSign_le _ _) h) (by omega)

theorem own_ne_iter {w : World} {base e it n size : Nat} {v : Value} {xs : List Value} {s : ByteArray} {p : Nat} (h : w.ownsRow base e size v n xs) (hb : w.heap[it]? = some (.stringIter s p)) : v.ownBlock = none ∨ v.ownBlock ≠ some it := by
  rcases h.2 with ⟨rfl, _⟩ | ⟨g, cap, cur, rfl, _, hg, _⟩
  · exact .inl rfl
  · refine .inr ?_
    simp only [Value.ownBlock, ne_eq, Option.some.injEq]
    rintro rfl
    rw [hg] at hb
    simp at hb

theorem Sc.iter {base b it : Nat} {src s s' : ByteArray} {p q : Nat} {tk nt : List Tok} {w : World} (h : Sc base b src tk nt w) (hit : w.heap[it]? = some (.stringIter s p)) : Sc base b src tk nt (w.iterAt it s' q) := by
  obtain ⟨h0, vt, vn, h1, h2, h3, h4⟩ := h
  have hk : Keeps (fun k => k = it) w (w.iterAt it s' q) := (Keeps.refl (fun k => k = it) w).iterAt (.inl rfl) s' q
  have hg : w.grownBy (w.iterAt it s' q) (some it) := ⟨hk.os, hk.tape, hk.output, hk.size, fun k hk1 hk2 => hk.block k hk1 (fun e => hk2 (by rw [e]))⟩
  refine ⟨h0, vt, vn, ?_, h2.kept hg (own_ne_iter h2 hit), h3.kept hg (own_ne_iter h3 hit), h4⟩
  rw [hk.block b (lt_of_block h1) (fun e => by subst e; rw [h1] at hit; simp at hit)]
  exact h1

theorem Frm.iter {base b it : Nat} {w wr : World} (h : Frm base b w wr) (h1 : w.heap.size ≤ it) (h2 : base ≤ it) (s : ByteArray) (q : Nat) : Frm base b w (wr.iterAt it s q) := by
  have hk : Keeps (fun k => k = it) wr (wr.iterAt it s q) := (Keeps.refl (fun k => k = it) wr).iterAt (.inl rfl) s q
  refine ⟨Lib.below_iterAt h.1 h2 _ _, fun k o hk1 hb ho => ?_⟩
  have h3 := h.2 k o hk1 hb ho
  rw [hk.block k (lt_of_block h3) (fun e => by have := lt_of_block hk1; omega)]
  exact h3

set_option maxHeartbeats 1600000 in
theorem all_any (base b : Nat) (src : ByteArray) (w : World) (hS : Sc base b src [] [] w) (hE : Env w) (h2 : 2 ≤ base) (hs : src.size ≤ 100000) :
    Calls Tryd.prog 25 #[.pointer (some ⟨b, 0, none⟩)] w (AllP base b src w (allF src (src.size + 1) 0 0 [] [])) := by
  have c0 := hS.src
  obtain ⟨hlt, hbw⟩ := hS.lt
  have HS := Lib.hid hS
  have HE := Lib.hid hE
  clear hS hE
  generalize hA : allF src (src.size + 1) 0 0 [] [] = A
  have HA := Lib.hid hA
  clear hA
  go_enter Tryd.func25, Tryd.ntmps25
  go_wp2_with fail
  go_loopw [2] (fun v wr => ∃ (f pos next : Nat) (tk nt : List Tok), v = .int .i64 next ∧ src.size < f + pos ∧ pos ≤ src.size ∧ next ≤ src.size + 3 ∧ tk.length ≤ pos ∧ nt.length ≤ pos ∧ A = allF src f pos next tk nt ∧
     Sc base b src tk nt wr ∧ Frm base b w wr ∧ wr.heap[w.heap.size]? = some (.stringIter src pos)) (fun _ wr => src.size - wr.iterPos w.heap.size)
  case atStart =>
    refine ⟨src.size + 1, 0, 0, [], [], rfl, by omega, by omega, by omega, Nat.le_refl _, Nat.le_refl _, HA.out.symm, HS.out.keep ((Below.refl _ _).alloc (Nat.le_refl _) _), Frm.of_below ((Below.refl _ _).alloc (Nat.le_refl _) _) hbw, iter_at rfl _ _⟩
  case round =>
    obtain ⟨f, pos, next, tk, nt, rfl, hf, hpos, hnx, htl, hnl, he, hsc, hfr, hi⟩ := hrel
    obtain ⟨f, rfl⟩ : ∃ g, f = g + 1 := ⟨f - 1, by omega⟩
    have HEQ := Lib.hid he; clear he
    have HSC := Lib.hid hsc
    have HFR := Lib.hid hfr; clear hfr
    have HI := Lib.hid hi
    have c0 := hsc.src
    clear hsc
    by_cases hlt1 : pos < src.size
    · have hn := Lib.run_next_any_at (P := Tryd.prog) wr w.heap.size src pos 0 hi hlt1
      have hst : allF src (f + 1) pos next tk nt = (if pos < next then allF src f (pos + (Utf8.decode src pos).2) next tk nt
       else match takeF src (src.extract pos src.size) tk nt pos ((Utf8.decode src pos).1 : Nat) with
        | none => .error pos
        | some (tk', nt', m) => allF src f (pos + (Utf8.decode src pos).2) (pos + m) tk' nt') := by rw [allF, if_pos hlt1]
      obtain ⟨n1, n2⟩ := dec_width src pos hlt1
      generalize hw1 : wr.iterAt w.heap.size src (pos + (Utf8.decode src pos).2) = w1 at hn
      have HSC1 : Hid (Sc base b src tk nt w1) := by rw [← hw1]; exact Lib.hid (HSC.out.iter HI.out)
      have HFR1 : Hid (Frm base b w w1) := by rw [← hw1]; exact Lib.hid (HFR.out.iter (Nat.le_refl _) hbw _ _)
      have HI1 : Hid (w1.heap[w.heap.size]? = some (.stringIter src (pos + (Utf8.decode src pos).2))) := by rw [← hw1]; exact Lib.iterAt_heap _ _ _ _ _ hi
      have c1 := HSC1.out.src
      clear hw1 hi
      generalize Utf8.decode src pos = d at *
      obtain ⟨r, n⟩ := d
      simp only at n1 n2 hn hst HI1
      by_cases hnext : pos < next
      · have HN : Hid (A = allF src f (pos + n) next tk nt) := Lib.hid (by rw [HEQ.out, hst, if_pos hnext])
        clear hst
        go_wp2_with fail
        refine ⟨⟨f, pos + n, next, tk, nt, rfl, by omega, by omega, hnx, by omega, by omega, HN.out, HSC1.out, HFR1.out, HI1.out⟩, ?_⟩
        rw [iterPos_of HI.out, iterPos_of HI1.out]; omega
      · rw [if_neg hnext] at hst
        have HT := Lib.hid (take_any base b src _ tk nt pos r w1 HSC1.out (HE.out.below HFR1.out.1 h2) hlt1 (by omega) (by omega) (by omega) rfl)
        have hsz : ∀ t1 t2 m, takeF src (src.extract pos src.size) tk nt pos r = some (t1, t2, m) → m ≤ src.size - pos + 3 := by
          intro t1 t2 m h
          have := takeF_size (by simp; omega) h
          simpa using this
        have hln : ∀ t1 t2 m, takeF src (src.extract pos src.size) tk nt pos r = some (t1, t2, m) → t1.length ≤ tk.length + 1 ∧ t2.length ≤ nt.length + 1 := fun _ _ _ h => takeF_len h
        generalize takeF src (src.extract pos src.size) tk nt pos r = R at hst HT hsz hln
        rcases R with _ | ⟨tk2, nt2, m⟩
        · have HN : Hid (A = .error pos) := Lib.hid (by rw [HEQ.out, hst])
          clear hst hsz hln
          go_wp2_with (go_at_call 38; refine HT.out.mono ?_; rintro e w2 ⟨rfl, hf2⟩)
          rw [HN.out]
          exact ⟨rfl, rfl, HFR1.out.trans hf2⟩
        · have HN : Hid (A = allF src f (pos + n) (pos + m) tk2 nt2) := Lib.hid (by rw [HEQ.out, hst])
          have hsz2 := hsz _ _ _ rfl
          obtain ⟨hl1, hl2⟩ := hln _ _ _ rfl
          clear hst hsz hln
          go_wp2_with (go_at_call 38; refine HT.out.mono ?_; rintro e w2 ⟨rfl, hs2, hf2⟩)
          have hi2 := hf2.2 _ _ HI1.out (fun e => by simp only [Option.some.injEq] at e; omega) (fun c fz e => by simp at e)
          refine ⟨⟨f, pos + n, pos + m, tk2, nt2, by simp, by omega, by omega, by omega, by omega, by omega, HN.out, hs2, HFR1.out.trans hf2, hi2⟩, ?_⟩
          rw [iterPos_of HI.out, iterPos_of hi2]; omega
    · have hn := Lib.run_next_end_at (P := Tryd.prog) wr w.heap.size src pos 0 hi hlt1
      have HN : Hid (A = .ok (endF tk src.size, nt)) := Lib.hid (by rw [HEQ.out, allF, if_neg hlt1])
      clear hi
      go_wp2_with (go_at_call 39; refine (endLine_any base b src tk nt src.size _ HSC.out (by omega)).mono ?_; rintro e w4 ⟨rfl, hs4, hf4, _⟩)
      go_end0
      rw [HN.out]
      exact ⟨rfl, hs4, HFR.out.trans hf4⟩
end Go.Proofs.YtlddbelpbgmljaaDoor
namespace Go.Proofs.YtlddbelpbgmljaaDoor
open Go.RowKit
set_option linter.unusedSimpArgs false
set_option linter.unusedVariables false
set_option linter.unusedSectionVars false

theorem res17 {tmps : Array Value} {w : World} {A : Nat} {v0 v1 v2 v3 : Value} (t0 : tmps[2]? = some (.pointer (some ⟨A, 0, none⟩))) (t1 : tmps[3]? = some (.pointer (some ⟨A + 1, 0, none⟩)))
    (t2 : tmps[4]? = some (.pointer (some ⟨A + 1 + 1, 0, none⟩))) (t3 : tmps[5]? = some (.pointer (some ⟨A + 1 + 1 + 1, 0, none⟩)))
    (c0 : w.cell? ⟨A, 0, none⟩ = some v0) (c1 : w.cell? ⟨A + 1, 0, none⟩ = some v1) (c2 : w.cell? ⟨A + 1 + 1, 0, none⟩ = some v2) (c3 : w.cell? ⟨A + 1 + 1 + 1, 0, none⟩ = some v3) :
    (results Tryd.f15 tmps).run Tryd.prog w = .ok (.tuple #[v0, v1, v2, v3]) w := by
  simp [results, Tryd.results15, go_sem, t0, t1, t2, t3, c0, c1, c2, c3]

set_option maxHeartbeats 1600000 in
theorem scan_long (p : Option Addr) (cap : Nat) (s : ByteArray) (w : World) (hs : 65536 < s.size) (hs2 : s.size ≤ 4611686018427387904) :
    Calls Tryd.prog 15 #[.slice p s.size cap] w fun e w' => e = .returned (.tuple #[.slice none 0 0, .slice none 0 0, .int .i64 65536, .int .i64 12]) ∧ Below w.heap.size w w' := by
  have hmf : ∀ (fn : Fn) (first cap : Array Value) (w : World), (Instr.makeFunc fn first cap).run Tryd.prog w = .ok (.func fn first cap) w := fun _ _ _ _ => rfl
  go_enter_defers Tryd.func15, Tryd.ntmps15
  go_wp2_with fail
  refine ⟨_, res17 (A := w.heap.size) rfl rfl rfl rfl (v0 := .slice none 0 0) (v1 := .slice none 0 0) (v2 := .int .i64 65536) (v3 := .int .i64 12) ?_ ?_ ?_ ?_, rfl, ?_⟩
  · simp [go_sem]
  · simp [go_sem]
  · simp [go_sem]
  · simp [go_sem]
  · exact ((((Below.refl _ _).alloc (Nat.le_refl _) _).alloc (by simp) _).alloc (by simp; omega) _).alloc (by simp; omega) _

set_option maxHeartbeats 1600000 in
theorem catch_panicking (A : Nat) (va vb vc vd : Value) (at_ : Nat) (older : List PanicEntry) (w : World)
    (h0 : ∃ t, w.heap[A]? = some (.cells #[va] t (0, 0))) (h1 : ∃ t, w.heap[A + 1]? = some (.cells #[vb] t (0, 0))) (h2 : ∃ t, w.heap[A + 1 + 1]? = some (.cells #[vc] t (0, 0))) (h3 : ∃ t, w.heap[A + 1 + 1 + 1]? = some (.cells #[vd] t (0, 0))) :
    CallsD Tryd.prog 24 #[.pointer (some ⟨A, 0, none⟩), .pointer (some ⟨A + 1, 0, none⟩), .pointer (some ⟨A + 1 + 1, 0, none⟩), .pointer (some ⟨A + 1 + 1 + 1, 0, none⟩)] (.panicking ({ v := .iface 45 (.int .i64 at_), recovered := false } :: older)) w fun e u' w' =>
      e = .returned (.tuple #[]) ∧ u' = .panicking ({ v := .iface 45 (.int .i64 at_), recovered := true } :: older) ∧ w' = (((w.setCell ⟨A, 0, none⟩ (.slice none 0 0)).setCell ⟨A + 1, 0, none⟩ (.slice none 0 0)).setCell ⟨A + 1 + 1, 0, none⟩ (.int .i64 at_)).setCell ⟨A + 1 + 1 + 1, 0, none⟩ (.int .i64 3) := by
  refine callsD_of_wpS Tryd.func24 rfl fun c₀ cs hu => ?_
  apply wpS_seq
  apply wpS_region
  simp [wpOpsS, go_sem, recoverD, hu, Tryd.ntmps24, Exit.thenS]
  refine wpS_of_wp ?_
  have hz : #[Value.pointer (some ⟨A, 0, none⟩), .pointer (some ⟨A + 1, 0, none⟩), .pointer (some ⟨A + 1 + 1, 0, none⟩), .pointer (some ⟨A + 1 + 1 + 1, 0, none⟩)] ++
          ((Array.replicate 12 undef).setIfInBounds 3 (Value.iface 45 (Value.int IntKind.i64 ↑at_))).setIfInBounds 0
            (Value.iface 45 (Value.int IntKind.i64 ↑at_)) = #[.pointer (some ⟨A, 0, none⟩), .pointer (some ⟨A + 1, 0, none⟩), .pointer (some ⟨A + 1 + 1, 0, none⟩), .pointer (some ⟨A + 1 + 1 + 1, 0, none⟩), .iface 45 (.int .i64 at_), undef, undef, .iface 45 (.int .i64 at_), undef, undef, undef, undef, undef, undef, undef, undef] := rfl
  rw [hz]
  clear hz
  have hta : ∀ w, (Instr.typeAssert (.iface 45 (.int .i64 at_)) 20 45 true).run Tryd.prog w = .ok (.tuple #[.int .i64 at_, .bool true]) w := fun _ => by kernel_rfl
  obtain ⟨t0, h0⟩ := h0
  obtain ⟨t1, h1⟩ := h1
  obtain ⟨t2, h2⟩ := h2
  obtain ⟨t3, h3⟩ := h3
  have a0 := cell_of h0 0
  have a1 := cell_of h1 0
  have a2 := cell_of h2 0
  have a3 := cell_of h3 0
  have b0 := free_of h0 0
  have b1 := free_of h1 0
  have b2 := free_of h2 0
  have b3 := free_of h3 0
  go_wp2_with fail
  exact ⟨rfl, _, rfl, _, results_none rfl _ _ _, rfl, rfl, rfl⟩

set_option maxHeartbeats 400000 in
theorem catch_idle (a b c d : Value) (w : World) :
    CallsD Tryd.prog 24 #[a, b, c, d] .returning w fun e u' w' => e = .returned (.tuple #[]) ∧ u' = .returning ∧ w' = w := by
  refine callsD_of_wpS Tryd.func24 rfl fun c₀ cs hu => ?_
  apply wpS_seq
  apply wpS_region
  simp [wpOpsS, go_sem, recoverD, hu, Tryd.ntmps24, Exit.thenS]
  refine wpS_of_wp ?_
  have hz : #[a, b, c, d] ++ ((Array.replicate 12 undef).setIfInBounds 3 Value.nilIface).setIfInBounds 0 Value.nilIface = #[a, b, c, d, .nilIface, undef, undef, .nilIface, undef, undef, undef, undef, undef, undef, undef, undef] := rfl
  rw [hz]
  clear hz
  go_wp2_with fail
  refine ⟨rfl, .returning, ?_, _, results_none rfl _ _ _, rfl, rfl, rfl⟩
  cases c₀
  simp at hu
  subst hu
  rfl

/-- The four named results, in blocks of their own from A on. -/
structure Boxes (A : Nat) (w : World) (v0 v1 v2 v3 : Value) : Prop where
  h0 : w.heap[A]? = some (.cells #[v0] 26)
  h1 : w.heap[A + 1]? = some (.cells #[v1] 26)
  h2 : w.heap[A + 1 + 1]? = some (.cells #[v2] 3)
  h3 : w.heap[A + 1 + 1 + 1]? = some (.cells #[v3] 23)

def boxed (w : World) : World := (((w.alloc (.cells #[.slice none 0 0] 26)).alloc (.cells #[.slice none 0 0] 26)).alloc (.cells #[.int .i64 0] 3)).alloc (.cells #[.int .i64 0] 23)
theorem boxed_new (w : World) : Boxes w.heap.size (boxed w) (.slice none 0 0) (.slice none 0 0) (.int .i64 0) (.int .i64 0) ∧ (boxed w).heap.size = w.heap.size + 1 + 1 + 1 + 1 ∧ Below w.heap.size w (boxed w) := by
  have e1 := heap_alloc_new w (.cells #[.slice none 0 0] 26)
  have e2 := heap_alloc_new (w.alloc (.cells #[.slice none 0 0] 26)) (.cells #[.slice none 0 0] 26)
  have e3 := heap_alloc_new ((w.alloc (.cells #[.slice none 0 0] 26)).alloc (.cells #[.slice none 0 0] 26)) (.cells #[.int .i64 0] 3)
  have e4 := heap_alloc_new (((w.alloc (.cells #[.slice none 0 0] 26)).alloc (.cells #[.slice none 0 0] 26)).alloc (.cells #[.int .i64 0] 3)) (.cells #[.int .i64 0] 23)
  refine ⟨⟨?_, ?_, ?_, ?_⟩, by simp [boxed], ((((Below.refl _ _).alloc (Nat.le_refl _) _).alloc (by simp) _).alloc (by simp <;> omega) _).alloc (by simp <;> omega) _⟩
  · unfold boxed
    rw [Below.heap_alloc _ _ _ (by simp <;> omega), Below.heap_alloc _ _ _ (by simp <;> omega), Below.heap_alloc _ _ _ (by simp)]; exact e1
  · unfold boxed
    rw [Below.heap_alloc _ _ _ (by simp), Below.heap_alloc _ _ _ (by simp)]; simpa using e2
  · unfold boxed
    rw [Below.heap_alloc _ _ _ (by simp)]; simpa using e3
  · unfold boxed
    simpa using e4
theorem Boxes.below {A B : Nat} {w w' : World} {v0 v1 v2 v3 : Value} (h : Boxes A w v0 v1 v2 v3) (hb : Below B w w') (hB : A + 1 + 1 + 1 < B) : Boxes A w' v0 v1 v2 v3 :=
  ⟨(hb.block _ (by omega)).trans h.h0, (hb.block _ (by omega)).trans h.h1, (hb.block _ (by omega)).trans h.h2, (hb.block _ (by omega)).trans h.h3⟩
theorem Boxes.drew {A : Nat} {w : World} {v0 v1 v2 v3 : Value} (h : Boxes A w v0 v1 v2 v3) : Boxes A w.drew v0 v1 v2 v3 := ⟨h.h0, h.h1, h.h2, h.h3⟩
theorem Boxes.res {A : Nat} {w : World} {v0 v1 v2 v3 : Value} (h : Boxes A w v0 v1 v2 v3) {tmps : Array Value} (t0 : tmps[2]? = some (.pointer (some ⟨A, 0, none⟩))) (t1 : tmps[3]? = some (.pointer (some ⟨A + 1, 0, none⟩)))
    (t2 : tmps[4]? = some (.pointer (some ⟨A + 1 + 1, 0, none⟩))) (t3 : tmps[5]? = some (.pointer (some ⟨A + 1 + 1 + 1, 0, none⟩))) : (results Tryd.f15 tmps).run Tryd.prog w = .ok (.tuple #[v0, v1, v2, v3]) w :=
  res17 t0 t1 t2 t3 (cell_of h.h0 0) (cell_of h.h1 0) (cell_of h.h2 0) (cell_of h.h3 0)
theorem Boxes.set {A : Nat} {w : World} {v0 v1 v2 v3 : Value} (h : Boxes A w v0 v1 v2 v3) (u0 u1 u2 u3 : Value) :
    Boxes A ((((w.setCell ⟨A, 0, none⟩ u0).setCell ⟨A + 1, 0, none⟩ u1).setCell ⟨A + 1 + 1, 0, none⟩ u2).setCell ⟨A + 1 + 1 + 1, 0, none⟩ u3) u0 u1 u2 u3 := by
  have g0 := heap_setCell h.h0 (i := 0) u0
  have g1 : (w.setCell ⟨A, 0, none⟩ u0).heap[A + 1]? = some (.cells #[v1] 26) := by rw [Below.heap_setCell _ _ _ _ (by simp)]; exact h.h1
  have g2 : ((w.setCell ⟨A, 0, none⟩ u0).setCell ⟨A + 1, 0, none⟩ u1).heap[A + 1 + 1]? = some (.cells #[v2] 3) := by rw [Below.heap_setCell _ _ _ _ (by simp), Below.heap_setCell _ _ _ _ (by simp <;> omega)]; exact h.h2
  have g3 : (((w.setCell ⟨A, 0, none⟩ u0).setCell ⟨A + 1, 0, none⟩ u1).setCell ⟨A + 1 + 1, 0, none⟩ u2).heap[A + 1 + 1 + 1]? = some (.cells #[v3] 23) := by
    rw [Below.heap_setCell _ _ _ _ (by simp), Below.heap_setCell _ _ _ _ (by simp <;> omega), Below.heap_setCell _ _ _ _ (by simp <;> omega)]; exact h.h3
  have k1 := heap_setCell g1 (i := 0) u1
  have k2 := heap_setCell g2 (i := 0) u2
  have k3 := heap_setCell g3 (i := 0) u3
  refine ⟨?_, ?_, ?_, k3⟩
  · rw [Below.heap_setCell _ _ _ _ (by simp <;> omega), Below.heap_setCell _ _ _ _ (by simp <;> omega), Below.heap_setCell _ _ _ _ (by simp)]; exact g0
  · rw [Below.heap_setCell _ _ _ _ (by simp <;> omega), Below.heap_setCell _ _ _ _ (by simp)]; exact k1
  · rw [Below.heap_setCell _ _ _ _ (by simp)]; exact k2

theorem below_set {A : Nat} {w0 w : World} (h : Below A w0 w) (u0 u1 u2 u3 : Value) :
    Below A w0 ((((w.setCell ⟨A, 0, none⟩ u0).setCell ⟨A + 1, 0, none⟩ u1).setCell ⟨A + 1 + 1, 0, none⟩ u2).setCell ⟨A + 1 + 1 + 1, 0, none⟩ u3) :=
  (((h.setCell (p := ⟨A, 0, none⟩) (Nat.le_refl _) _).setCell (p := ⟨A + 1, 0, none⟩) (by show A ≤ A + 1; omega) _).setCell (p := ⟨A + 1 + 1, 0, none⟩) (by show A ≤ A + 1 + 1; omega) _).setCell (p := ⟨A + 1 + 1 + 1, 0, none⟩) (by show A ≤ A + 1 + 1 + 1; omega) _

set_option maxHeartbeats 1600000 in
theorem scan_wrong (p : Option Addr) (cap : Nat) (s : ByteArray) (w : World) (hb : BSl w p s) (hs : s.size ≤ 65536) (hw : 0 ≤ wrongF s) :
    Calls Tryd.prog 15 #[.slice p s.size cap] w fun e w' => e = .returned (.tuple #[.slice none 0 0, .slice none 0 0, .int .i64 (wrongF s), .int .i64 2]) ∧ Below w.heap.size w w' := by
  have hmf : ∀ (fn : Fn) (first cap : Array Value) (w : World), (Instr.makeFunc fn first cap).run Tryd.prog w = .ok (.func fn first cap) w := fun _ _ _ _ => rfl
  obtain ⟨hx, hz, hbl⟩ := boxed_new w
  have HB := Lib.hid hb
  clear hb
  generalize hr : wrongF s = r at hw ⊢
  have HR := Lib.hid hr
  clear hr
  go_enter_defers Tryd.func15, Tryd.ntmps15
  go_wp2_with fail
  change Calls Tryd.prog 19 _ (boxed w) _
  generalize boxed w = w1 at *
  have HW := Lib.hid hw
  have HBL := Lib.hid hbl
  have hb1 := HB.out.below hbl
  generalize hA : w.heap.size = A at *
  go_at_call 19
  refine (wrong_b p cap s w1 hb1 (by omega)).mono ?_
  rintro e w2 ⟨rfl, hb2⟩
  rw [HR.out]
  have hx2 := hx.below hb2 (by omega)
  have HX2 := Lib.hid hx2
  have a0 := cell_of hx2.h0 0
  have a1 := cell_of hx2.h1 0
  have a2 := cell_of hx2.h2 0
  have a3 := cell_of hx2.h3 0
  have b0 := free_of hx2.h0 0
  have b1 := free_of hx2.h1 0
  have b2 := free_of hx2.h2 0
  have b3 := free_of hx2.h3 0
  have HBB : Hid (Below A w w2) := Lib.hid (HBL.out.trans (hb2.mono (by omega)))
  clear hx2 hx hb2 hb1 hbl
  go_wp2_with fail
  refine ⟨_, (HX2.out.set (.slice none 0 0) (.slice none 0 0) (.int .i64 r) (.int .i64 2)).res rfl rfl rfl rfl, rfl, ?_⟩
  rw [hA]
  exact below_set HBB.out _ _ _ _

theorem own_nil (w : World) (base : Nat) : w.ownsRow base 31 3 (.slice none 0 0) ([] : List Tok).length (flat []) := ⟨rfl, .inl ⟨rfl, rfl⟩⟩
theorem own_base {w : World} {base base' e size n : Nat} {v : Value} {xs : List Value} (h : w.ownsRow base e size v n xs) (hb : base' ≤ base) : w.ownsRow base' e size v n xs := by
  refine ⟨h.1, ?_⟩
  rcases h.2 with h | ⟨g, cap, cur, a, b, c⟩
  · exact .inl h
  · exact .inr ⟨g, cap, cur, a, Nat.le_trans hb b, c⟩

theorem own_slice {w : World} {base e size n : Nat} {v : Value} {xs : List Value} (h : w.ownsRow base e size v n xs) : ∃ a c, v = .slice a n c := by
  rcases h.2 with ⟨rfl, rfl⟩ | ⟨g, cap, cur, rfl, _⟩
  · exact ⟨_, _, rfl⟩
  · exact ⟨_, _, rfl⟩

theorem own_set {w : World} {base e size n A : Nat} {v : Value} {xs : List Value} (h : w.ownsRow base e size v n xs) (hA : A + 1 + 1 + 1 < base) (u0 u1 u2 u3 : Value) :
    ((((w.setCell ⟨A, 0, none⟩ u0).setCell ⟨A + 1, 0, none⟩ u1).setCell ⟨A + 1 + 1, 0, none⟩ u2).setCell ⟨A + 1 + 1 + 1, 0, none⟩ u3).drew.ownsRow base e size v n xs := by
  have hne : ∀ k, k < base → v.ownBlock ≠ some k := fun k hk e => by have := (h.lt k e).1; omega
  exact ownsRow_setCell_other (ownsRow_setCell_other (ownsRow_setCell_other (ownsRow_setCell_other h (hne A (by omega)) _) (hne (A + 1) (by omega)) _) (hne (A + 1 + 1) (by omega)) _) (hne (A + 1 + 1 + 1) hA) _

/-- What the whole of the scanner comes to. -/
def scanF (s : ByteArray) : Except (Int × Int) (List Tok × List Tok) :=
  if 65536 < s.size then .error (65536, 12)
  else if 0 ≤ wrongF s then .error (wrongF s, 2)
  else match allF s (s.size + 1) 0 0 [] [] with
    | .ok r => .ok r
    | .error at_ => .error (at_, 3)
def ScanP (w : World) : Except (Int × Int) (List Tok × List Tok) → Ending → World → Prop
  | .ok (tk, nt), e, w' => ∃ vt vn, e = .returned (.tuple #[vt, vn, .int .i64 0, .int .i64 0]) ∧ Below w.heap.size w w' ∧ w'.ownsRow w.heap.size 31 3 vt tk.length (flat tk) ∧ w'.ownsRow w.heap.size 31 3 vn nt.length (flat nt)
  | .error (at_, n), e, w' => e = .returned (.tuple #[.slice none 0 0, .slice none 0 0, .int .i64 at_, .int .i64 n]) ∧ Below w.heap.size w w'

set_option maxHeartbeats 1600000 in
theorem scan_inner (p : Option Addr) (cap : Nat) (s : ByteArray) (w : World) (hb : BSl w p s) (hE : Env w) (h2 : 2 ≤ w.heap.size) (hs : s.size ≤ 65536) (hw : wrongF s < 0) (R : Except (Int × Int) (List Tok × List Tok))
    (hR : R = match allF s (s.size + 1) 0 0 [] [] with | .ok r => .ok r | .error at_ => .error (at_, 3)) :
    Calls Tryd.prog 15 #[.slice p s.size cap] w (ScanP w R) := by
  have hmf : ∀ (fn : Fn) (first cap : Array Value) (w : World), (Instr.makeFunc fn first cap).run Tryd.prog w = .ok (.func fn first cap) w := fun _ _ _ _ => rfl
  obtain ⟨hx, hz, hbl⟩ := boxed_new w
  have HB := Lib.hid hb
  have HRR := Lib.hid hR
  clear hb hR
  generalize hr : wrongF s = r at hw ⊢
  have HR := Lib.hid hr
  clear hr
  go_enter_defers Tryd.func15, Tryd.ntmps15
  go_wp2_with fail
  change Calls Tryd.prog 19 _ (boxed w) _
  generalize boxed w = w1 at *
  have HW := Lib.hid hw
  have HBL := Lib.hid hbl
  have hb1 := HB.out.below hbl
  have HE := Lib.hid hE
  clear hE
  generalize hA : w.heap.size = A at h2 hx hz hbl HBL ⊢
  go_at_call 19
  refine (wrong_b p cap s w1 hb1 (by omega)).mono ?_
  rintro e w2 ⟨rfl, hb2⟩
  rw [HR.out]
  have hcv := conv_at (hb1.below hb2) cap
  have hx2 := hx.below hb2 (by omega)
  have HX2 := Lib.hid hx2
  have a0 := cell_of hx2.h0 0
  have a1 := cell_of hx2.h1 0
  have a2 := cell_of hx2.h2 0
  have a3 := cell_of hx2.h3 0
  have b0 := free_of hx2.h0 0
  have b1 := free_of hx2.h1 0
  have b2 := free_of hx2.h2 0
  have b3 := free_of hx2.h3 0
  have HBB : Hid (Below A w w2) := Lib.hid (HBL.out.trans (hb2.mono (by omega)))
  have hsz2 : A + 1 + 1 + 1 < w2.heap.size := by have := hb2.size; omega
  clear hx2 hx hb2 hb1 hbl
  go_wp2_with fail
  clear a0 a1 a2 a3 b0 b1 b2 b3 hcv
  have HEE : Hid (Env w2) := Lib.hid (HE.out.below HBB.out h2)
  generalize hw3 : w2.alloc (Obj.cells #[Value.string s, Value.slice none 0 0, Value.slice none 0 0] 48) = w3
  have hal : Below w2.heap.size w2 w3 := by rw [← hw3]; exact (Below.refl _ _).alloc (Nat.le_refl _) _
  have hsc : Sc w2.heap.size w2.heap.size s [] [] w3 := ⟨Nat.le_refl _, _, _, by rw [← hw3]; exact heap_alloc_new w2 _, own_nil _ _, own_nil _ _, by simp [Value.ownBlock]⟩
  have hcall := all_any w2.heap.size w2.heap.size s w3 hsc (HEE.out.below hal (by omega)) (by omega) (by omega)
  have HAL := Lib.hid hal
  clear hw3 hsc hal
  generalize allF s (s.size + 1) 0 0 [] [] = X at hcall HRR
  go_at_call 25
  refine hcall.mono ?_
  intro e w4 h
  rcases X with at_ | ⟨tk, nt⟩
  · obtain ⟨rfl, hf4⟩ := h
    have hx4 := HX2.out.below ((HAL.out.mono (Nat.le_refl _)).trans hf4.1) hsz2
    have hb4 : Below A w w4 := HBB.out.trans ((HAL.out.trans hf4.1).mono (by omega))
    go_wp2_with fail
    refine leaves_cons (f := 24) (args := #[.pointer (some ⟨A, 0, none⟩), .pointer (some ⟨A + 1, 0, none⟩), .pointer (some ⟨A + 1 + 1, 0, none⟩), .pointer (some ⟨A + 1 + 1 + 1, 0, none⟩)]) (by simp) (by simp [go_sem]) ?_
    refine (catch_panicking A _ _ _ _ at_ [] w4 ⟨_, hx4.h0⟩ ⟨_, hx4.h1⟩ ⟨_, hx4.h2⟩ ⟨_, hx4.h3⟩).mono ?_
    rintro e u' w'' ⟨rfl, rfl, rfl⟩
    refine ⟨_, (hx4.set (.slice none 0 0) (.slice none 0 0) (.int .i64 at_) (.int .i64 3)).res rfl rfl rfl rfl, ?_⟩
    rw [HRR.out]
    refine ⟨rfl, ?_⟩
    rw [hA]
    exact below_set hb4 _ _ _ _
  · obtain ⟨rfl, hs4, hf4⟩ := h
    have hx4 := HX2.out.below ((HAL.out.mono (Nat.le_refl _)).trans hf4.1) hsz2
    have hb4 : Below A w w4 := HBB.out.trans ((HAL.out.trans hf4.1).mono (by omega))
    obtain ⟨_, vt, vn, k1, k2, k3, k4⟩ := hs4
    obtain ⟨p1, q1, rfl⟩ := own_slice k2
    obtain ⟨p2, q2, rfl⟩ := own_slice k3
    have c1 := cell_of k1 1
    have c2 := cell_of k1 2
    have a0 := cell_of hx4.h0 0
    have a1 := cell_of hx4.h1 0
    have a2 := cell_of hx4.h2 0
    have a3 := cell_of hx4.h3 0
    have b0 := free_of hx4.h0 0
    have b1 := free_of hx4.h1 0
    have b2 := free_of hx4.h2 0
    have b3 := free_of hx4.h3 0
    have HX4 := Lib.hid hx4
    have HB4 := Lib.hid hb4
    have K2 := Lib.hid k2
    have K3 := Lib.hid k3
    clear hx4 hb4 k1 k2 k3 k4 hf4
    go_wp2_with fail
    go_region
    all_goals
      go_wp2_with fail
      refine leaves_cons (f := 24) (args := #[.pointer (some ⟨A, 0, none⟩), .pointer (some ⟨A + 1, 0, none⟩), .pointer (some ⟨A + 1 + 1, 0, none⟩), .pointer (some ⟨A + 1 + 1 + 1, 0, none⟩)]) (by simp) (by simp [go_sem]) ?_
      refine (catch_idle _ _ _ _ _).mono ?_
      rintro e u' w'' ⟨rfl, rfl, rfl⟩
      have hset := HX4.out.set (.slice p1 tk.length q1) (.slice p2 nt.length q2) (.int .i64 0) (.int .i64 0)
      refine ⟨_, hset.drew.res rfl rfl rfl rfl, ?_⟩
      rw [HRR.out]
      have hbs := below_set HB4.out (.slice p1 tk.length q1) (.slice p2 nt.length q2) (.int .i64 0) (.int .i64 0)
      have hle : w.heap.size ≤ w2.heap.size := by rw [hA]; omega
      refine ⟨_, _, rfl, ?_, own_base (own_set K2.out hsz2 _ _ _ _) hle, own_base (own_set K3.out hsz2 _ _ _ _) hle⟩
      rw [hA]
      exact ⟨hbs.os, hbs.tape, hbs.output, hbs.size, hbs.block⟩

theorem scan_any (p : Option Addr) (cap : Nat) (s : ByteArray) (w : World) (hb : BSl w p s) (hE : Env w) (h2 : 2 ≤ w.heap.size) (hs : s.size ≤ 4611686018427387904) :
    Calls Tryd.prog 15 #[.slice p s.size cap] w (ScanP w (scanF s)) := by
  by_cases h1 : 65536 < s.size
  · rw [scanF, if_pos h1]
    exact scan_long p cap s w h1 hs
  · by_cases h3 : 0 ≤ wrongF s
    · rw [scanF, if_neg h1, if_pos h3]
      exact scan_wrong p cap s w hb (by omega) h3
    · refine scan_inner p cap s w hb hE h2 (by omega) (by omega) _ ?_
      rw [scanF, if_neg h1, if_neg h3]
end Go.Proofs.YtlddbelpbgmljaaDoor
namespace Go.Proofs.YtlddbelpbgmljaaDoor
open Go.RowKit
set_option linter.unusedSimpArgs false
set_option linter.unusedVariables false
set_option linter.unusedSectionVars false

/-- What Scan comes to. -/
def ScanQ (w : World) : Except (Int × Int) (List Tok × List Tok) → Ending → World → Prop
  | .ok (tk, _), e, w' => ∃ vt, e = .returned (.tuple #[vt, .int .i64 0, .int .i64 0]) ∧ Below w.heap.size w w' ∧ w'.ownsRow w.heap.size 31 3 vt tk.length (flat tk)
  | .error (at_, n), e, w' => e = .returned (.tuple #[.slice none 0 0, .int .i64 at_, .int .i64 n]) ∧ Below w.heap.size w w'
/-- What Notes comes to. -/
def NotesQ (w : World) : Except (Int × Int) (List Tok × List Tok) → Ending → World → Prop
  | .ok (_, nt), e, w' => ∃ vn, e = .returned vn ∧ Below w.heap.size w w' ∧ w'.ownsRow w.heap.size 31 3 vn nt.length (flat nt)
  | .error _, e, w' => e = .returned (.slice none 0 0) ∧ Below w.heap.size w w'

set_option maxHeartbeats 800000 in
theorem Scan_any (p : Option Addr) (cap : Nat) (s : ByteArray) (w : World) (hb : BSl w p s) (hE : Env w) (h2 : 2 ≤ w.heap.size) (hs : s.size ≤ 4611686018427387904) :
    Calls Tryd.prog 7 #[.slice p s.size cap] w (ScanQ w (scanF s)) := by
  have H := Lib.hid (scan_any p cap s w hb hE h2 hs)
  clear hb hE
  generalize scanF s = R at H ⊢
  rcases R with ⟨at_, n⟩ | ⟨tk, nt⟩
  · go_enter Tryd.func7, Tryd.ntmps7
    go_wp2_with (go_at_call 15; refine H.out.mono ?_; rintro e w2 ⟨rfl, hb2⟩)
    refine bodyPost_ret (v := .tuple #[.slice none 0 0, .int .i64 at_, .int .i64 n]) ?_ rfl ⟨rfl, hb2⟩
    simp [results, Tryd.results7, go_sem]
  · go_enter Tryd.func7, Tryd.ntmps7
    go_wp2_with (go_at_call 15; refine H.out.mono ?_; rintro e w2 ⟨vt, vn, rfl, hb2, ho, _⟩)
    refine bodyPost_ret (v := .tuple #[vt, .int .i64 0, .int .i64 0]) ?_ rfl ⟨vt, rfl, hb2, ho⟩
    simp [results, Tryd.results7, go_sem]

def exB : ByteArray := ⟨#[97, 10, 43, 98]⟩
def exL : List Tok := [⟨1, ⟨#[97]⟩, 0⟩, ⟨6, ⟨#[10]⟩, 1⟩, ⟨6, ⟨#[43]⟩, 2⟩, ⟨1, ⟨#[98]⟩, 3⟩, ⟨6, ⟨#[10]⟩, 4⟩]
theorem scan_ex : scanF exB = .ok (exL, []) := by kernel_rfl

theorem ex_scan (cap : Nat) (p : Option Addr) (w : World) (hb : BSl w p exB) (hE : Env w) (h2 : 2 ≤ w.heap.size) :
    Calls Tryd.prog 7 #[.slice p 4 cap] w fun e w' => ∃ g c, e = .returned (.tuple #[.slice (some ⟨g, 0, none⟩) 5 c, .int .i64 0, .int .i64 0]) ∧ Below w.heap.size w w' ∧ ∀ j v, (flat exL)[j]? = some v → w'.cell? ⟨g, j, none⟩ = some v := by
  have h := Scan_any p cap exB w hb hE h2 (by decide)
  rw [scan_ex] at h
  refine h.mono ?_
  rintro e w' ⟨vt, rfl, hb, ho⟩
  rcases ho.2 with ⟨_, h0⟩ | ⟨g, c, cur, rfl, _⟩
  · exact absurd h0 (by decide)
  · refine ⟨g, c, rfl, hb, fun j v hj => ?_⟩
    have := ho.cells (g := g) rfl _ _ hj
    have e : (⟨g, 0, none⟩ : Addr).add j = ⟨g, j, none⟩ := by unfold Addr.add; split <;> simp_all
    rwa [e] at this

end Go.Proofs.YtlddbelpbgmljaaDoor
