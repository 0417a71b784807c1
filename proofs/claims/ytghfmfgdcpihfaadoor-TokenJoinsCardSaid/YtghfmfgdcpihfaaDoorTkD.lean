import Derived.Test.YtghfmfgdcpihfaaDoorTkC
namespace Go.Proofs.YtghfmfgdcpihfaaDoor
open Go.RowKit

theorem ret_int {k : IntKind} {a b : Int} (h : a = b) : Ending.returned (.int k a) = Ending.returned (.int k b) := by rw [h]

/-- A token or a note. -/
structure Tok where
  kind : Int
  text : ByteArray
  at_ : Nat

def closers : List (List UInt8) := [[98, 114, 101, 97, 107], [99, 111, 110, 116, 105, 110, 117, 101], [114, 101, 116, 117, 114, 110], [102, 97, 108, 108, 116, 104, 114, 111, 117, 103, 104], [43, 43], [45, 45], [41], [93], [125]]
def closesB (k : Int) (l : List UInt8) : Bool := (k == 1) || (k == 4) || (k == 5) || decide (l ∈ closers)

set_option maxHeartbeats 1600000 in
theorem closes_any (k at_ : Int) (s : ByteArray) (w : World) :
    Calls Tryd.prog 29 #[.agg #[.int .i64 k, .string s, .int .i64 at_]] w fun e w' => e = .returned (.bool (closesB k s.toList)) ∧ Below w.heap.size w w' := by
  by_cases k1 : k = 1
  · have H : Hid (closesB k s.toList = true) := by show _ = _; simp [closesB, k1]
    subst k1
    go_enter Tryd.func29, Tryd.ntmps29
    go_wp2_with fail
    go_ret
    exact ⟨by rw [H.out]; rfl, (Below.refl _ _).alloc (Nat.le_refl _) _⟩
  by_cases k4 : k = 4
  · have H : Hid (closesB k s.toList = true) := by show _ = _; simp [closesB, k4]
    subst k4
    go_enter Tryd.func29, Tryd.ntmps29
    go_wp2_with fail
    go_ret
    exact ⟨by rw [H.out]; rfl, (Below.refl _ _).alloc (Nat.le_refl _) _⟩
  by_cases k5 : k = 5
  · have H : Hid (closesB k s.toList = true) := by show _ = _; simp [closesB, k5]
    subst k5
    go_enter Tryd.func29, Tryd.ntmps29
    go_wp2_with fail
    go_ret
    exact ⟨by rw [H.out]; rfl, (Below.refl _ _).alloc (Nat.le_refl _) _⟩
  have hc : closesB k s.toList = decide (s.toList ∈ closers) := by simp [closesB, k1, k4, k5]
  rw [hc]; clear hc
  replace k1 : (k == 1) = false := by simpa using k1
  replace k4 : (k == 4) = false := by simpa using k4
  replace k5 : (k == 5) = false := by simpa using k5
  by_cases c : s.toList ∈ closers
  · have H : Hid (decide (s.toList ∈ closers) = true) := by show _ = _; simp [c]
    simp only [closers, List.mem_cons, List.not_mem_nil, or_false] at c
    rcases c with c | c | c | c | c | c | c | c | c
    all_goals
      obtain rfl := ofL c
      clear c
      go_enter Tryd.func29, Tryd.ntmps29
      go_wp2_with fail
      go_ret
      exact ⟨by rw [H.out]; rfl, (Below.refl _ _).alloc (Nat.le_refl _) _⟩
  · have H : Hid (decide (s.toList ∈ closers) = false) := by show _ = _; simp [c]
    simp only [closers, List.mem_cons, List.not_mem_nil, or_false, not_or] at c
    obtain ⟨c1, c2, c3, c4, c5, c6, c7, c8, c9⟩ := c
    replace c1 : (s.toList == [98, 114, 101, 97, 107]) = false := by simpa using c1
    replace c2 : (s.toList == [99, 111, 110, 116, 105, 110, 117, 101]) = false := by simpa using c2
    replace c3 : (s.toList == [114, 101, 116, 117, 114, 110]) = false := by simpa using c3
    replace c4 : (s.toList == [102, 97, 108, 108, 116, 104, 114, 111, 117, 103, 104]) = false := by simpa using c4
    replace c5 : (s.toList == [43, 43]) = false := by simpa using c5
    replace c6 : (s.toList == [45, 45]) = false := by simpa using c6
    replace c7 : (s.toList == [41]) = false := by simpa using c7
    replace c8 : (s.toList == [93]) = false := by simpa using c8
    replace c9 : (s.toList == [125]) = false := by simpa using c9
    go_enter Tryd.func29, Tryd.ntmps29
    go_wp2_with fail
    go_ret
    exact ⟨by rw [H.out]; rfl, (Below.refl _ _).alloc (Nat.le_refl _) _⟩

/-- How many bytes a text in quotes has, looked at from behind its first sign on: t is what stands behind the quote. -/
def quotedF (t : ByteArray) : Nat → Nat → Bool → Int
  | 0, _, _ => 0
  | f + 1, i, behind => if i < t.size then
      (if (Utf8.decode t i).1 = 10 then 0
       else if behind then quotedF t f (i + (Utf8.decode t i).2) false
       else if (Utf8.decode t i).1 = 92 then quotedF t f (i + (Utf8.decode t i).2) true
       else if (Utf8.decode t i).1 = 34 then (i : Int) + 2
       else quotedF t f (i + (Utf8.decode t i).2) false)
    else 0

set_option maxHeartbeats 1600000 in
theorem quoted_any (s : ByteArray) (w : World) (h1 : 1 ≤ s.size) (hs : s.size ≤ 4611686018427387904) :
    Calls Tryd.prog 27 #[.string s] w fun e w' => e = .returned (.int .i64 (quotedF (s.extract 1 s.size) s.size 0 false)) ∧ Below w.heap.size w w' := by
  have hts : (s.extract 1 s.size).size = s.size - 1 := by simp
  generalize ht : s.extract 1 s.size = t at hts ⊢
  have HT := Lib.hid ht
  have HTS := Lib.hid hts
  clear ht
  go_enter Tryd.func27, Tryd.ntmps27
  go_wp2_with fail
  rw [HT.out]
  have hts2 : t.size ≤ 4611686018427387904 := by have := HTS.out; omega
  clear hts
  go_loopw [3] (fun b wr => ∃ (f pos : Nat) (q : Bool), b = .bool q ∧ t.size < f + pos ∧ pos ≤ t.size ∧ quotedF t s.size 0 false = quotedF t f pos q ∧ Below w.heap.size w wr ∧
     wr.heap[w.heap.size]? = some (.stringIter t pos)) (fun _ wr => t.size - wr.iterPos w.heap.size)
  case atStart => exact ⟨s.size, 0, false, rfl, by have := HTS.out; omega, by omega, rfl, (Below.refl _ _).alloc (Nat.le_refl _) _, iter_at rfl _ _⟩
  case round =>
    obtain ⟨f, pos, q, rfl, hf, hpos, he, hb, hi⟩ := hrel
    obtain ⟨f, rfl⟩ : ∃ g, f = g + 1 := ⟨f - 1, by omega⟩
    have HE := Lib.hid he; clear he
    have HB := Lib.hid hb; clear hb
    have HI := Lib.hid hi
    by_cases hlt : pos < t.size
    · have hn := Lib.run_next_any_at (P := Tryd.prog) wr w.heap.size t pos 0 hi hlt
      have hst : quotedF t (f + 1) pos q = if (Utf8.decode t pos).1 = 10 then 0
       else if q then quotedF t f (pos + (Utf8.decode t pos).2) false
       else if (Utf8.decode t pos).1 = 92 then quotedF t f (pos + (Utf8.decode t pos).2) true
       else if (Utf8.decode t pos).1 = 34 then (pos : Int) + 2
       else quotedF t f (pos + (Utf8.decode t pos).2) false := by rw [quotedF, if_pos hlt]
      obtain ⟨n1, n2⟩ := dec_width t pos hlt
      generalize hw1 : wr.iterAt w.heap.size t (pos + (Utf8.decode t pos).2) = w1 at hn
      have HB1 : Hid (Below w.heap.size w w1) := by rw [← hw1]; exact Lib.below_iterAt HB.out (Nat.le_refl _) _ _
      have HI1 : Hid (w1.heap[w.heap.size]? = some (.stringIter t (pos + (Utf8.decode t pos).2))) := by rw [← hw1]; exact Lib.iterAt_heap _ _ _ _ _ hi
      clear hw1 hi
      generalize Utf8.decode t pos = d at *
      obtain ⟨r, n⟩ := d
      simp only at n1 n2 hn hst HI1
      have HST := Lib.hid hst
      clear hst
      by_cases r10 : r = 10
      · have HN : Hid (quotedF t s.size 0 false = 0) := by show _ = _; rw [HE.out, HST.out, if_pos r10]
        have e1 : ((r : Int) == 10) = true := by simp [r10]
        clear r10
        go_wp2_with fail
        go_ret
        exact ⟨by rw [HN.out]; rfl, HB1.out⟩
      have e1 : ((r : Int) == 10) = false := by simp; omega
      cases q
      · by_cases r92 : r = 92
        · have HN : Hid (quotedF t s.size 0 false = quotedF t f (pos + n) true) := by show _ = _; rw [HE.out, HST.out, if_neg r10, if_neg (by decide), if_pos r92]
          have e2 : ((r : Int) == 92) = true := by simp [r92]
          clear r92 r10
          go_wp2_with fail
          go_roundw
          case rel => exact ⟨f, pos + n, true, rfl, by omega, by omega, HN.out, HB1.out, HI1.out⟩
          case measure => rw [iterPos_of HI.out, iterPos_of HI1.out]; omega
        have e2 : ((r : Int) == 92) = false := by simp; omega
        by_cases r34 : r = 34
        · have HN : Hid (quotedF t s.size 0 false = (pos : Int) + 2) := by show _ = _; rw [HE.out, HST.out, if_neg r10, if_neg (by decide), if_neg r92, if_pos r34]
          have e3 : ((r : Int) == 34) = true := by simp [r34]
          clear r34 r92 r10
          go_wp2_with fail
          go_ret
          refine ⟨?_, HB1.out⟩
          rw [HN.out]
          exact ret_int (by omega)
        · have HN : Hid (quotedF t s.size 0 false = quotedF t f (pos + n) false) := by show _ = _; rw [HE.out, HST.out, if_neg r10, if_neg (by decide), if_neg r92, if_neg r34]
          have e3 : ((r : Int) == 34) = false := by simp; omega
          clear r34 r92 r10
          go_wp2_with fail
          go_roundw
          case rel => exact ⟨f, pos + n, false, rfl, by omega, by omega, HN.out, HB1.out, HI1.out⟩
          case measure => rw [iterPos_of HI.out, iterPos_of HI1.out]; omega
      · have HN : Hid (quotedF t s.size 0 false = quotedF t f (pos + n) false) := by show _ = _; rw [HE.out, HST.out, if_neg r10, if_pos rfl]
        clear r10
        go_wp2_with fail
        go_roundw
        case rel => exact ⟨f, pos + n, false, rfl, by omega, by omega, HN.out, HB1.out, HI1.out⟩
        case measure => rw [iterPos_of HI.out, iterPos_of HI1.out]; omega
    · have hn := Lib.run_next_end_at (P := Tryd.prog) wr w.heap.size t pos 0 hi hlt
      have HN : Hid (quotedF t s.size 0 false = 0) := by show _ = _; rw [HE.out, quotedF, if_neg hlt]
      clear hi
      go_wp2_with fail
      go_ret
      exact ⟨by rw [HN.out]; rfl, HB.out⟩

end Go.Proofs.YtghfmfgdcpihfaaDoor
