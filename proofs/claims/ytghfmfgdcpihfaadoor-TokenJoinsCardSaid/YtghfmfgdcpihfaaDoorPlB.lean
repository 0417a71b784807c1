import Derived.Test.YtghfmfgdcpihfaaDoorPlA
import Derived.Lib.SlBytesRow
namespace Go.Proofs.YtghfmfgdcpihfaaDoor
open Go.RowKit

def pre (s p : ByteArray) : Bool := decide (p.size ≤ s.size) && ((s.extract 0 p.size).toList == p.toList)
theorem pre_no {s p : ByteArray} (h : ¬ p.size ≤ s.size) : pre s p = false := by simp [pre, h]
theorem pre_yes {s p : ByteArray} (h : p.size ≤ s.size) : pre s p = ((s.extract 0 p.size).toList == p.toList) := by simp [pre, h]

set_option maxHeartbeats 400000 in
theorem hp_lite (s p : ByteArray) (w : World) (_hs : s.size ≤ 9223372036854775807) (_hp : p.size ≤ 9223372036854775807) :
    Calls Tryd.prog 30 #[.string s, .string p] w fun e w' => e = .returned (.bool (pre s p)) ∧ w' = w := by
  by_cases h : p.size ≤ s.size
  · have H := Lib.hid (pre_yes h)
    go_enter Tryd.func30, Tryd.ntmps30
    go_wp2
    go_ret
    exact ⟨by rw [H.out]; rfl, rfl⟩
  · have H := Lib.hid (pre_no h)
    go_enter Tryd.func30, Tryd.ntmps30
    go_wp2
    go_ret
    exact ⟨by rw [H.out]; rfl, rfl⟩

set_option maxHeartbeats 400000 in
theorem hp_any (s p : ByteArray) (w : World) (hs : s.size ≤ 9223372036854775807) (hp : p.size ≤ 9223372036854775807) :
    Calls Tryd.prog 15 #[.string s, .string p] w fun e w' => e = .returned (.bool (pre s p)) ∧ w' = w := by
  go_enter Tryd.func15, Tryd.ntmps15
  go_wp2_with (go_at_call 30; refine (hp_lite _ _ _ hs hp).mono ?_; rintro e w' ⟨rfl, rfl⟩)
  go_ret
  exact ⟨rfl, rfl⟩

def mk3 : ByteArray := ⟨#[239, 191, 189]⟩
def noSg (s : ByteArray) (r : Int) : Bool := (r == 65533) && !(pre s mk3)

set_option maxHeartbeats 400000 in
theorem noSign_any (s : ByteArray) (r : Int) (w : World) (hs : s.size ≤ 9223372036854775807) :
    Calls Tryd.prog 12 #[.string s, .int .i32 r] w fun e w' => e = .returned (.bool (noSg s r)) ∧ w' = w := by
  by_cases h : r = 65533
  · subst h
    have H := Lib.hid (show noSg s 65533 = !(pre s mk3) from by simp [noSg])
    go_enter Tryd.func12, Tryd.ntmps12
    go_wp2_with (go_at_call 15; refine (hp_any _ mk3 _ hs (by decide)).mono ?_; rintro e w' ⟨rfl, rfl⟩)
    go_ret
    exact ⟨by rw [H.out]; rfl, rfl⟩
  · have H := Lib.hid (show noSg s r = false from by simp [noSg, h])
    have hb : (r == 65533) = false := by simp [h]
    clear h
    go_enter Tryd.func12, Tryd.ntmps12
    go_wp2_with fail
    go_ret
    exact ⟨by rw [H.out]; rfl, rfl⟩


/-- May the sign r at a byte not stand there? -/
def badAt (s : ByteArray) (i : Nat) (r : Int) : Bool := (r == 0) || ((r == 65279) && decide (0 < i)) || noSg (s.extract i s.size) r
def wrongStep (s : ByteArray) (st : Int) (i : Nat) (r : Int) (_ _ : Nat) : Int × Bool :=
  if badAt s i r then (i, false) else (st, decide (st < 0))
def WR (s : ByteArray) (b0 b1 : Nat) (st : Int) (w : World) : Prop :=
  w.heap[b0]? = some (.cells #[.string s] 9) ∧ w.heap[b1]? = some (.cells #[.int .i64 st] 3)

theorem WR_bad {s : ByteArray} {b0 b1 : Nat} {st : Int} {w : World} (hb : b0 ≠ b1) (h : WR s b0 b1 st w) (i : Int) (o : Obj) :
    WR s b0 b1 i ((w.setCell ⟨b1, 0, none⟩ (.int .i64 i)).alloc o) ∧ Keeps (· = b1) w ((w.setCell ⟨b1, 0, none⟩ (.int .i64 i)).alloc o) := by
  obtain ⟨h0, h1⟩ := h
  have l0 := lt_of_block h0
  have l1 := lt_of_block h1
  refine ⟨⟨?_, ?_⟩, (Keeps.setCell (S := fun k => k = b1) (Keeps.refl _ _) (.inl rfl) _).alloc _⟩
  · rw [Below.heap_alloc _ _ _ (by simpa using l0), Below.heap_setCell _ _ _ _ hb]; exact h0
  · rw [Below.heap_alloc _ _ _ (by simpa using l1)]; exact heap_setCell h1 _
theorem WR_good {s : ByteArray} {b0 b1 : Nat} {st : Int} {w : World} (h : WR s b0 b1 st w) (o : Obj) :
    WR s b0 b1 st (w.alloc o) ∧ Keeps (· = b1) w (w.alloc o) := by
  obtain ⟨h0, h1⟩ := h
  have l0 := lt_of_block h0
  have l1 := lt_of_block h1
  refine ⟨⟨?_, ?_⟩, (Keeps.refl _ _).alloc _⟩
  · rw [Below.heap_alloc _ _ _ (by simpa using l0)]; exact h0
  · rw [Below.heap_alloc _ _ _ (by simpa using l1)]; exact h1

set_option maxHeartbeats 400000 in
theorem wrong1_any (s : ByteArray) (b0 b1 : Nat) (hb : b0 ≠ b1) (st : Int) (i : Nat) (r : Int) (line col : Nat) (w : World) (h : WR s b0 b1 st w)
    (hs : s.size ≤ 4611686018427387904) (hi : i ≤ s.size) :
    Calls Tryd.prog 11 #[.int .i64 i, .int .i32 r, .agg #[.int .i64 line, .int .i64 col], .pointer (some ⟨b0, 0, none⟩), .pointer (some ⟨b1, 0, none⟩)] w fun e w' =>
      e = .returned (.bool (wrongStep s st i r line col).2) ∧ WR s b0 b1 (wrongStep s st i r line col).1 w' ∧ Keeps (· = b1) w w' := by
  have HW := Lib.hid h
  obtain ⟨h0, h1⟩ := h
  have c0 := cell_of h0 0
  have c1 := cell_of h1 0
  have f1 := free_of h1 0
  have l0 := lt_of_block h0
  have l1 := lt_of_block h1
  have H0 := Lib.hid h0; clear h0
  have H1 := Lib.hid h1; clear h1
  have bad (q : Int) (hq : badAt s i q = true) : wrongStep s st i q line col = ((i : Int), false) := by simp [wrongStep, hq]
  have good (q : Int) (hq : badAt s i q = false) : wrongStep s st i q line col = (st, decide (st < 0)) := by simp [wrongStep, hq]
  have HBad := Lib.hid bad; clear bad
  have HGood := Lib.hid good; clear good
  have HI := Lib.hid hi
  have hi' : ¬ (i : Int) < 0 := by omega
  by_cases ha : r = 0
  · subst ha
    have hst := HBad.out 0 (by simp [badAt])
    rw [hst]; clear hst
    go_enter Tryd.func11, Tryd.ntmps11
    go_wp2_with fail
    go_ret
    exact ⟨rfl, WR_bad hb HW.out _ _⟩
  by_cases hm : r = 65279
  · subst hm
    by_cases hp : 0 < i
    · have hst := HBad.out 65279 (by simp [badAt, hp])
      rw [hst]; clear hst
      have hp' : decide ((0 : Int) < (i : Int)) = true := by simp [hp]
      go_enter Tryd.func11, Tryd.ntmps11
      go_wp2_with fail
      go_ret
      exact ⟨rfl, WR_bad hb HW.out _ _⟩
    · have hst := HGood.out 65279 (by simp [badAt, hp, noSg])
      rw [hst]; clear hst
      have hp' : decide ((0 : Int) < (i : Int)) = false := by simp; omega
      have hn : noSg (s.extract i s.size) 65279 = false := by simp [noSg]
      go_enter Tryd.func11, Tryd.ntmps11
      go_wp2_with (go_at_call 12; refine (noSign_any _ _ _ (by simp; omega)).mono ?_; rintro e w' ⟨rfl, rfl⟩)
      go_ret
      exact ⟨rfl, WR_good HW.out _⟩
  have ha' : (r == 0) = false := by simp [ha]
  have hm' : (r == 65279) = false := by simp [hm]
  by_cases hn : noSg (s.extract i s.size) r = true
  · have hst := HBad.out r (by simp [badAt, hn])
    rw [hst]; clear hst ha hm
    go_enter Tryd.func11, Tryd.ntmps11
    go_wp2_with (go_at_call 12; refine (noSign_any _ _ _ (by simp; omega)).mono ?_; rintro e w' ⟨rfl, rfl⟩)
    go_ret
    exact ⟨rfl, WR_bad hb HW.out _ _⟩
  · replace hn : noSg (s.extract i s.size) r = false := by simpa using hn
    have hst := HGood.out r (by simp [badAt, hn, ha, hm])
    rw [hst]; clear hst ha hm
    go_enter Tryd.func11, Tryd.ntmps11
    go_wp2_with (go_at_call 12; refine (noSign_any _ _ _ (by simp; omega)).mono ?_; rintro e w' ⟨rfl, rfl⟩)
    go_ret
    exact ⟨rfl, WR_good HW.out _⟩

/-- What 'Wrong' tells of a text. -/
def wrongF (s : ByteArray) : Int := eachF s (wrongStep s) (s.size + 1) (-1) 0 1 1

theorem callf20 (args : Array Value) (w : World) : (callFunc 11 args).run Tryd.prog w = .ok (.enter 11 args) w := by
  simp [go_sem]

set_option maxHeartbeats 400000 in
theorem wrong_any (p : Option Addr) (cap : Nat) (s : ByteArray) (w : World) (hs : s.size ≤ 4611686018427387904)
    (hc : (convert 22 9 (.slice p s.size cap)).run Tryd.prog w = .ok (.string s) w) :
    Calls Tryd.prog 7 #[.slice p s.size cap] w fun e w' => e = .returned (.int .i64 (wrongF s)) ∧ Below w.heap.size w w' := by
  go_enter Tryd.func7, Tryd.ntmps7
  go_wp2_with fail
  refine (each_any (WR s w.heap.size (w.heap.size + 1)) (wrongStep s) (· = w.heap.size + 1) s 11 _ _ _ (-1) callf20 hs ?_ ?_ ?_ ?_).mono ?_
  · intro st pos r line col w' h _ hp
    exact wrong1_any s _ _ (by omega) st pos r line col w' h hs hp
  · rintro b rfl; simp
  · rintro st w1 w2 ⟨h1, h2⟩ hb
    exact ⟨by rw [hb.block _ (by simp; omega)]; exact h1, by rw [hb.block _ (by simp)]; exact h2⟩
  · exact ⟨by rw [Below.heap_alloc _ _ _ (by simp)]; exact alloc_at rfl _, alloc_at (by simp) _⟩
  · rintro e w' ⟨rfl, ⟨h0, h1⟩, hk⟩
    have c1 := cell_of h1 0
    clear h0 h1
    have HK := Lib.hid hk; clear hk
    go_wp2_with fail
    go_ret
    refine ⟨rfl, ?_⟩
    exact (((Below.refl _ _).alloc (Nat.le_refl _) _).alloc (by simp) _).trans (HK.out.below (by simp; omega) (by rintro k rfl; omega))

end Go.Proofs.YtghfmfgdcpihfaaDoor
