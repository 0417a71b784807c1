import Derived.Test.YtiifakdpacicjaaB
namespace Go.Proofs.Ytiifakdpacicjaa
open Go.RowKit

def ofStep (at_ : Int) (_ : Nat × Nat) (i : Nat) (_ : Int) (line col : Nat) : (Nat × Nat) × Bool := ((line, col), decide ((i : Int) < at_))
def OfR (at_ : Int) (b0 b1 : Nat) (st : Nat × Nat) (w : World) : Prop :=
  w.heap[b0]? = some (.cells #[.int .i64 st.1, .int .i64 st.2] 29) ∧ w.heap[b1]? = some (.cells #[.int .i64 at_] 3)

theorem OfR_next {at_ : Int} {b0 b1 : Nat} {st : Nat × Nat} {w : World} (hb : b0 ≠ b1) (h : OfR at_ b0 b1 st w) (x y : Nat) (o : Obj) :
    OfR at_ b0 b1 (x, y) (((w.setCell ⟨b0, 0, none⟩ (.int .i64 x)).setCell ⟨b0, 1, none⟩ (.int .i64 y)).alloc o) ∧ Keeps (· = b0) w (((w.setCell ⟨b0, 0, none⟩ (.int .i64 x)).setCell ⟨b0, 1, none⟩ (.int .i64 y)).alloc o) := by
  obtain ⟨h0, h1⟩ := h
  have l0 := lt_of_block h0
  have l1 := lt_of_block h1
  refine ⟨⟨?_, ?_⟩, (Keeps.setCell (S := fun k => k = b0) (Keeps.setCell (S := fun k => k = b0) (Keeps.refl _ _) (.inl rfl) _) (.inl rfl) _).alloc _⟩
  · rw [Below.heap_alloc _ _ _ (by simpa using l0)]; have := heap_setCell (heap_setCell h0 (i := 0) (.int .i64 x)) (i := 1) (.int .i64 y); simpa using this
  · rw [Below.heap_alloc _ _ _ (by simpa using l1), Below.heap_setCell _ _ _ _ hb.symm, Below.heap_setCell _ _ _ _ hb.symm]; exact h1

set_option maxHeartbeats 400000 in
theorem of1_any (at_ : Int) (b0 b1 : Nat) (hb : b0 ≠ b1) (st : Nat × Nat) (i : Nat) (r : Int) (line col : Nat) (w : World) (h : OfR at_ b0 b1 st w) :
    Calls Try.prog 22 #[.int .i64 i, .int .i32 r, .agg #[.int .i64 line, .int .i64 col], .pointer (some ⟨b0, 0, none⟩), .pointer (some ⟨b1, 0, none⟩)] w fun e w' =>
      e = .returned (.bool (ofStep at_ st i r line col).2) ∧ OfR at_ b0 b1 (ofStep at_ st i r line col).1 w' ∧ Keeps (· = b0) w w' := by
  have HW := Lib.hid h
  obtain ⟨h0, h1⟩ := h
  have c0 := cell_of h0 0
  have c1 := cell_of h0 1
  have d0 := cell_of h1 0
  have f0 := free_of h0 0
  have f1 := free_of h0 1
  have l0 := lt_of_block h0
  have l1 := lt_of_block h1
  clear h0 h1
  go_enter Try.func22, Try.ntmps22
  go_wp2_with fail
  go_ret
  exact ⟨rfl, OfR_next hb HW.out _ _ _⟩

/-- What 'Of' tells of a byte of the text. -/
def ofF (s : ByteArray) (at_ : Nat) : Nat × Nat := eachF s (ofStep at_) (s.size + 1) (0, 0) 0 1 1

theorem callf22 (args : Array Value) (w : World) : (callFunc 22 args).run Try.prog w = .ok (.enter 22 args) w := by
  simp [go_sem]
theorem callf23 (args : Array Value) (w : World) : (callFunc 23 args).run Try.prog w = .ok (.enter 23 args) w := by
  simp [go_sem]

set_option maxHeartbeats 400000 in
theorem of_yes (p : Option Addr) (cap : Nat) (s : ByteArray) (at_ : Nat) (w : World) (hs : s.size ≤ 4611686018427387904)
    (hc : ∀ x y z, (convert 22 9 (.slice p s.size cap)).run Try.prog (((w.alloc x).alloc y).alloc z) = .ok (.string s) (((w.alloc x).alloc y).alloc z)) (ha : at_ ≤ s.size) :
    Calls Try.prog 16 #[.slice p s.size cap, .int .i64 at_] w fun e w' => e = .returned (.agg #[.int .i64 (ofF s at_).1, .int .i64 (ofF s at_).2]) ∧ Below w.heap.size w w' := by
  have hn : ¬ (at_ : Int) < 0 := by omega
  have hn' : ¬ (s.size : Int) < (at_ : Int) := by omega
  go_enter Try.func16, Try.ntmps16
  go_wp2_with fail
  refine (each_any (OfR at_ (w.heap.size + 1 + 1) w.heap.size) (ofStep at_) (· = w.heap.size + 1 + 1) s 22 _ _ _ (0, 0) callf22 hs ?_ ?_ ?_ ?_).mono ?_
  · intro st pos r line col w' h _ hp
    exact of1_any at_ _ _ (by omega) st pos r line col w' h
  · rintro b rfl; simp
  · rintro st w1 w2 ⟨h1, h2⟩ hb
    exact ⟨by rw [hb.block _ (by simp)]; exact h1, by rw [hb.block _ (by simp; omega)]; exact h2⟩
  · exact ⟨alloc_at (by simp) _, by rw [Below.heap_alloc _ _ _ (by simp; omega), Below.heap_alloc _ _ _ (by simp)]; exact alloc_at rfl _⟩
  · rintro e w' ⟨rfl, ⟨h0, h1⟩, hk⟩
    have hr : w'.heap[w.heap.size + 1]? = some (.cells #[.int .i64 0, .int .i64 0] 29) := by
      rw [hk.block _ (by simp) (by omega), Below.heap_alloc _ _ _ (by simp)]; exact alloc_at (by simp) _
    have c0 := cell_of h0 0
    have c1 := cell_of h0 1
    have d0 := cell_of hr 0
    have d1 := cell_of hr 1
    have f0 := free_of hr 0
    have f1 := free_of hr 1
    have HRR := Lib.hid hr
    clear h0 h1 hr
    have HK := Lib.hid hk; clear hk
    go_wp2_with fail
    generalize hg : eachF s (ofStep at_) (s.size + 1) (0, 0) 0 1 1 = g
    have hg' : ofF s at_ = g := hg
    rw [hg']
    have hb : Below w.heap.size w w' := (((((Below.refl _ _).alloc (Nat.le_refl _) _).alloc (by simp) _).alloc (by simp; omega) _).trans (HK.out.below (by simp; omega) (by rintro k rfl; omega)))
    have hz := heap_setCell (heap_setCell HRR.out (i := 0) (.int .i64 g.1)) (i := 1) (.int .i64 g.2)
    have e0 := cell_of hz 0
    have e1 := cell_of hz 1
    refine bodyPost_ret (v := .agg #[.int .i64 g.1, .int .i64 g.2]) ?_ rfl ⟨rfl, ?_⟩
    · simp [results, Try.results16, go_sem, e0, e1]
    · exact (hb.setCell (by simp) _).setCell (by simp) _

set_option maxHeartbeats 400000 in
theorem of_no (p : Option Addr) (cap : Nat) (n : Nat) (at_ : Int) (w : World) (ha : at_ < 0 ∨ (n : Int) < at_) :
    Calls Try.prog 16 #[.slice p n cap, .int .i64 at_] w fun e w' => e = .returned (.agg #[.int .i64 0, .int .i64 0]) ∧ Below w.heap.size w w' := by
  by_cases hn : at_ < 0
  · clear ha
    go_enter Try.func16, Try.ntmps16
    go_wp2_with fail
    refine bodyPost_ret (v := .agg #[.int .i64 0, .int .i64 0]) ?_ rfl ⟨rfl, ?_⟩
    · simp [results, Try.results16, go_sem]
    · exact (((((Below.refl _ _).alloc (Nat.le_refl _) _).alloc (by simp) _).alloc (by simp; omega) _))
  · have hn' : (n : Int) < at_ := by omega
    clear ha
    go_enter Try.func16, Try.ntmps16
    go_wp2_with fail
    refine bodyPost_ret (v := .agg #[.int .i64 0, .int .i64 0]) ?_ rfl ⟨rfl, ?_⟩
    · simp [results, Try.results16, go_sem]
    · exact (((((Below.refl _ _).alloc (Nat.le_refl _) _).alloc (by simp) _).alloc (by simp; omega) _))

def atStep (pl pc : Int) (st : Int) (i : Nat) (_ : Int) (line col : Nat) : Int × Bool := if (line : Int) = pl ∧ (col : Int) = pc then ((i : Int), false) else (st, true)
def AtR (pl pc : Int) (b0 b1 : Nat) (st : Int) (w : World) : Prop :=
  w.heap[b0]? = some (.cells #[.int .i64 pl, .int .i64 pc] 29) ∧ w.heap[b1]? = some (.cells #[.int .i64 st] 3)
theorem AtR_bad {pl pc : Int} {b0 b1 : Nat} {st : Int} {w : World} (hb : b0 ≠ b1) (h : AtR pl pc b0 b1 st w) (i : Int) (o : Obj) :
    AtR pl pc b0 b1 i ((w.setCell ⟨b1, 0, none⟩ (.int .i64 i)).alloc o) ∧ Keeps (· = b1) w ((w.setCell ⟨b1, 0, none⟩ (.int .i64 i)).alloc o) := by
  obtain ⟨h0, h1⟩ := h
  have l0 := lt_of_block h0
  have l1 := lt_of_block h1
  refine ⟨⟨?_, ?_⟩, (Keeps.setCell (S := fun k => k = b1) (Keeps.refl _ _) (.inl rfl) _).alloc _⟩
  · rw [Below.heap_alloc _ _ _ (by simpa using l0), Below.heap_setCell _ _ _ _ hb]; exact h0
  · rw [Below.heap_alloc _ _ _ (by simpa using l1)]; exact heap_setCell h1 _
theorem AtR_good {pl pc : Int} {b0 b1 : Nat} {st : Int} {w : World} (h : AtR pl pc b0 b1 st w) (o : Obj) :
    AtR pl pc b0 b1 st (w.alloc o) ∧ Keeps (· = b1) w (w.alloc o) := by
  obtain ⟨h0, h1⟩ := h
  have l0 := lt_of_block h0
  have l1 := lt_of_block h1
  refine ⟨⟨?_, ?_⟩, (Keeps.refl _ _).alloc _⟩
  · rw [Below.heap_alloc _ _ _ (by simpa using l0)]; exact h0
  · rw [Below.heap_alloc _ _ _ (by simpa using l1)]; exact h1

set_option maxHeartbeats 400000 in
theorem at1_any (pl pc : Int) (b0 b1 : Nat) (hb : b0 ≠ b1) (st : Int) (i : Nat) (r : Int) (line col : Nat) (w : World) (h : AtR pl pc b0 b1 st w) :
    Calls Try.prog 23 #[.int .i64 i, .int .i32 r, .agg #[.int .i64 line, .int .i64 col], .pointer (some ⟨b0, 0, none⟩), .pointer (some ⟨b1, 0, none⟩)] w fun e w' =>
      e = .returned (.bool (atStep pl pc st i r line col).2) ∧ AtR pl pc b0 b1 (atStep pl pc st i r line col).1 w' ∧ Keeps (· = b1) w w' := by
  have HW := Lib.hid h
  obtain ⟨h0, h1⟩ := h
  have c0 := cell_of h0 0
  have c1 := cell_of h0 1
  have d0 := cell_of h1 0
  have f0 := free_of h1 0
  have l0 := lt_of_block h0
  have l1 := lt_of_block h1
  clear h0 h1
  by_cases hp : (line : Int) = pl ∧ (col : Int) = pc
  · have e1 : atStep pl pc st i r line col = ((i : Int), false) := by simp [atStep, hp]
    rw [e1]; clear e1
    obtain ⟨rfl, rfl⟩ := hp
    go_enter Try.func23, Try.ntmps23
    go_wp2_with fail
    go_ret
    exact ⟨rfl, AtR_bad hb HW.out _ _⟩
  · have e1 : atStep pl pc st i r line col = (st, true) := by simp only [atStep, if_neg hp]
    rw [e1]; clear e1
    by_cases h1 : (line : Int) = pl
    · have h2 : ((col : Int) == pc) = false := by simp; exact fun h => hp ⟨h1, h⟩
      clear hp
      subst h1
      go_enter Try.func23, Try.ntmps23
      go_wp2_with fail
      go_ret
      exact ⟨rfl, AtR_good HW.out _⟩
    · have h2 : ((line : Int) == pl) = false := by simpa using h1
      clear hp h1
      go_enter Try.func23, Try.ntmps23
      go_wp2_with fail
      all_goals (go_ret; exact ⟨rfl, AtR_good HW.out _⟩)

def atF (s : ByteArray) (pl pc : Int) : Int := eachF s (atStep pl pc) (s.size + 1) (-1) 0 1 1

set_option maxHeartbeats 400000 in
theorem at_any (p : Option Addr) (cap : Nat) (s : ByteArray) (pl pc : Int) (w : World) (hs : s.size ≤ 4611686018427387904)
    (hc : ∀ x y, (convert 22 9 (.slice p s.size cap)).run Try.prog ((w.alloc x).alloc y) = .ok (.string s) ((w.alloc x).alloc y)) :
    Calls Try.prog 17 #[.slice p s.size cap, .agg #[.int .i64 pl, .int .i64 pc]] w fun e w' => e = .returned (.int .i64 (atF s pl pc)) ∧ Below w.heap.size w w' := by
  go_enter Try.func17, Try.ntmps17
  go_wp2_with fail
  refine (each_any (AtR pl pc w.heap.size (w.heap.size + 1)) (atStep pl pc) (· = w.heap.size + 1) s 23 _ _ _ (-1) callf23 hs ?_ ?_ ?_ ?_).mono ?_
  · intro st pos r line col w' h _ hp
    exact at1_any pl pc _ _ (by omega) st pos r line col w' h
  · rintro b rfl; simp
  · rintro st w1 w2 ⟨h1, h2⟩ hb
    exact ⟨by rw [hb.block _ (by simp; omega)]; exact h1, by rw [hb.block _ (by simp)]; exact h2⟩
  · exact ⟨by rw [Below.heap_alloc _ _ _ (by simp)]; exact alloc_at rfl _, alloc_at (by simp) _⟩
  · rintro e w' ⟨rfl, ⟨h0, h1⟩, hk⟩
    have c1 := cell_of h1 0
    clear h0 h1
    have HK := Lib.hid hk; clear hk
    go_wp2_with fail
    go_ret
    refine ⟨rfl, ?_⟩
    exact (((Below.refl _ _).alloc (Nat.le_refl _) _).alloc (by simp) _).trans (HK.out.below (by simp; omega) (by rintro k rfl; omega))

end Go.Proofs.Ytiifakdpacicjaa
