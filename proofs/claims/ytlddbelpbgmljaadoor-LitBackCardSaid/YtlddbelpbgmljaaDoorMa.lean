import Derived.WalkKit
import Derived.WalkSpells
import Derived.WalkLawsBesides
import Derived.WalkSmall
import Derived.Lib.OthersKept
import Derived.Lib.Hide
import Derived.Deep.RegionHeld3
import Derived.BigQuiet
import Derived.Deep.QuietTactic
import Derived.Test.YtlddbelpbgmljaaDoorProg
import Derived.Lib.SlBytesRow
import Derived.Lib.SlBytesConst
import Derived.ProofKit
namespace Go.Proofs.YtlddbelpbgmljaaDoor
open Go.RowKit

/-- Every block of w but those of S stands in w' as it stood. -/
structure Keeps (S : Nat → Prop) (w w' : World) : Prop where
  os : w'.os = w.os
  tape : w'.tape = w.tape
  output : w'.output = w.output
  size : w.heap.size ≤ w'.heap.size
  block : ∀ k, k < w.heap.size → ¬ S k → w'.heap[k]? = w.heap[k]?

theorem Keeps.refl (S : Nat → Prop) (w : World) : Keeps S w w := ⟨rfl, rfl, rfl, Nat.le_refl _, fun _ _ _ => rfl⟩

theorem Keeps.trans {S : Nat → Prop} {a b c : World} (h : Keeps S a b) (k : Keeps S b c) : Keeps S a c :=
  ⟨k.os.trans h.os, k.tape.trans h.tape, k.output.trans h.output, Nat.le_trans h.size k.size,
    fun i hi hs => (k.block i (Nat.lt_of_lt_of_le hi h.size) hs).trans (h.block i hi hs)⟩

theorem Keeps.mono {S T : Nat → Prop} {w w' : World} (h : Keeps S w w') (hst : ∀ k, k < w.heap.size → S k → T k) : Keeps T w w' :=
  ⟨h.os, h.tape, h.output, h.size, fun k hk ht => h.block k hk (fun hs => ht (hst k hk hs))⟩

theorem Keeps.alloc {S : Nat → Prop} {a w : World} (h : Keeps S a w) (o : Obj) : Keeps S a (w.alloc o) :=
  h.trans ⟨rfl, rfl, rfl, by simp, fun k hk _ => Below.heap_alloc _ _ _ hk⟩

theorem Keeps.drew {S : Nat → Prop} {a w : World} (h : Keeps S a w) : Keeps S a w.drew := ⟨h.os, h.tape, h.output, h.size, h.block⟩

theorem Keeps.setCell {S : Nat → Prop} {a w : World} (h : Keeps S a w) {p : Addr} (hp : S p.block ∨ a.heap.size ≤ p.block) (u : Value) : Keeps S a (w.setCell p u) :=
  ⟨h.os, h.tape, h.output, by simpa [World.setCell] using h.size, fun k hk hs => by
    rw [Below.heap_setCell _ _ _ _ (fun e => by subst e; exact hp.elim hs (by omega))]
    exact h.block k hk hs⟩

theorem Keeps.iterAt {S : Nat → Prop} {a w : World} (h : Keeps S a w) {b : Nat} (hb : S b ∨ a.heap.size ≤ b) (s : ByteArray) (pos : Nat) : Keeps S a (w.iterAt b s pos) :=
  ⟨h.os, h.tape, h.output, by rw [Lib.iterAt_size]; exact h.size, fun k hk hs => by
    rw [Lib.iterAt_other _ _ _ _ _ (fun e => by subst e; exact hb.elim hs (by omega))]
    exact h.block k hk hs⟩

theorem Keeps.below {S : Nat → Prop} {w w' : World} (h : Keeps S w w') {B : Nat} (hB : B ≤ w.heap.size) (hS : ∀ k, S k → B ≤ k) : Below B w w' :=
  ⟨h.os, h.tape, h.output, h.size, fun k hk => h.block k (by omega) (fun hs => by have := hS k hs; omega)⟩

theorem Keeps.of_below {w w' : World} (h : Below w.heap.size w w') (S : Nat → Prop) : Keeps S w w' :=
  ⟨h.os, h.tape, h.output, h.size, fun k hk _ => h.block k hk⟩

theorem iter_at {w : World} {k : Nat} (h : k = w.heap.size) (s : ByteArray) (pos : Nat) : (w.iter s pos).heap[k]? = some (.stringIter s pos) := by
  subst h; exact World.iter_heap _ _ _
theorem iter_old (w : World) (k : Nat) (h : k < w.heap.size) (s : ByteArray) (pos : Nat) : (w.iter s pos).heap[k]? = w.heap[k]? := Below.heap_alloc _ _ _ h
theorem alloc_at {w : World} {k : Nat} (h : k = w.heap.size) (o : Obj) : (w.alloc o).heap[k]? = some o := by
  subst h; show (w.heap.push o)[w.heap.size]? = _; simp
/-- The cells of a block known whole. -/
theorem cell_of {w : World} {b : Nat} {c : Array Value} {t : TypeId} {f : Nat × Nat} (h : w.heap[b]? = some (.cells c t f)) (i : Nat) : w.cell? ⟨b, i, none⟩ = c[i]? := by simp [World.cell?, h]
theorem free_of {w : World} {b : Nat} {c : Array Value} {t : TypeId} (h : w.heap[b]? = some (.cells c t (0, 0))) (i : Nat) : w.frozen? ⟨b, i, none⟩ = false := by simp [World.frozen?, h]
theorem heap_setCell {w : World} {b i : Nat} {c : Array Value} {t : TypeId} {f : Nat × Nat} (h : w.heap[b]? = some (.cells c t f)) (u : Value) :
    (w.setCell ⟨b, i, none⟩ u).heap[b]? = some (.cells (c.setIfInBounds i u) t f) := by
  have hlt := lt_of_block h
  have h' : w.heap[b] = .cells c t f := by simpa [Array.getElem?_eq_getElem hlt] using h
  show (w.heap.modify b _)[b]? = _
  rw [Array.getElem?_eq_getElem (by simpa using hlt), Array.getElem_modify_self, h']
  rfl

end Go.Proofs.YtlddbelpbgmljaaDoor
namespace Go.Proofs.YtlddbelpbgmljaaDoor
open Go.RowKit

/-- The worlds that an invariant holds of, as a type: so that facts on all of them are plain rewrite rules. -/
structure Wld (Inv : World → Prop) where
  w : World
  ok : Inv w

/-- A region that draws its order, whose own operations only read, and whose calls only make memory: one walk, in the order of the text. -/
theorem wp_region_inv {P : Program} (Inv : World → Prop) {id : Nat} {Q : Exit → Act → World → Prop} {a : Act} {w : World} {l : List Oper} (hm : P.follows .mixedOrders = true) (hB : Region.lexB .any l.toArray = true)
    (hC : Inv w.drew)
    (h : wpQuiet P l.toArray (fun w' => ∃ i : Wld Inv, w' = i.w) (fun a' => ∀ w', (∃ i : Wld Inv, w' = i.w) → Q .normal a' w') l a) : (Code.region id l.toArray true).wp P Q a w :=
  wp_region_quiet (C := fun w' => ∃ i : Wld Inv, w' = i.w) hm hB ⟨⟨_, hC⟩, rfl⟩ (by simpa using h)

/-- Nothing that was there in w0 has turned; these cells hold these values. -/
def InvC (w0 : World) (cs : List (Nat × Nat × Value)) (w : World) : Prop :=
  Below w0.heap.size w0 w ∧ ∀ x ∈ cs, x.1 < w.heap.size ∧ w.cell? ⟨x.1, x.2.1, none⟩ = some x.2.2

theorem InvC.step {w0 w w' : World} {cs : List (Nat × Nat × Value)} (h : InvC w0 cs w) (hb : Below w.heap.size w w') : InvC w0 cs w' :=
  ⟨h.1.trans (hb.mono h.1.size), fun x hx => ⟨Nat.lt_of_lt_of_le (h.2 x hx).1 hb.size, by rw [hb.cell (h.2 x hx).1]; exact (h.2 x hx).2⟩⟩

theorem InvC.cell {w0 : World} {cs : List (Nat × Nat × Value)} (i : Wld (InvC w0 cs)) {b o : Nat} {v : Value} (h : (b, o, v) ∈ cs) : i.w.cell? ⟨b, o, none⟩ = some v :=
  (i.ok.2 _ h).2

theorem InvC.held {w0 w : World} {cs : List (Nat × Nat × Value)} (h : InvC w0 cs w) {b o : Nat} {v : Value} (hm : (b, o, v) ∈ cs) : w.cell? ⟨b, o, none⟩ = some v :=
  (h.2 _ hm).2

theorem InvC.start {w0 w : World} {cs : List (Nat × Nat × Value)} (hb : Below w0.heap.size w0 w) (h : ∀ x ∈ cs, w.cell? ⟨x.1, x.2.1, none⟩ = some x.2.2) : InvC w0 cs w.drew :=
  ⟨hb.drew, fun x hx => ⟨World.block_lt_of_cell? _ _ (h x hx), h x hx⟩⟩

/-- A call that only makes memory, inside such a region. -/
theorem Calls.inv {P : Program} {f : FuncId} {args : Array Value} {w0 : World} {cs : List (Nat × Nat × Value)} {i : Wld (InvC w0 cs)} {v : Value}
    (h : Calls P f args i.w fun e w' => e = .returned v ∧ Below i.w.heap.size i.w w') :
    Calls P f args i.w fun e w' => e = .returned v ∧ ∃ j : Wld (InvC w0 cs), w' = j.w :=
  h.mono fun _ w' ⟨he, hb⟩ => ⟨he, ⟨w', i.ok.step hb⟩, rfl⟩
theorem Calls.inv_same {P : Program} {f : FuncId} {args : Array Value} {w0 : World} {cs : List (Nat × Nat × Value)} {i : Wld (InvC w0 cs)} {v : Value}
    (h : Calls P f args i.w fun e w' => e = .returned v ∧ w' = i.w) :
    Calls P f args i.w fun e w' => e = .returned v ∧ ∃ j : Wld (InvC w0 cs), w' = j.w :=
  h.mono fun _ _ ⟨he, hb⟩ => ⟨he, i, hb⟩

end Go.Proofs.YtlddbelpbgmljaaDoor
namespace Go.Proofs.YtlddbelpbgmljaaDoor
open Go.RowKit

theorem dec_width (s : ByteArray) (pos : Nat) (h : pos < s.size) : 1 ≤ (Utf8.decode s pos).2 ∧ pos + (Utf8.decode s pos).2 ≤ s.size := by
  simp only [Utf8.decode]
  repeat' split
  all_goals simp_all
  all_goals omega

def eachF {σ : Type} (s : ByteArray) (step : σ → Nat → Int → Nat → Nat → σ × Bool) : Nat → σ → Nat → Nat → Nat → σ
  | 0, st, _, _, _ => st
  | f + 1, st, pos, line, col =>
    if pos < s.size then
      if (step st pos (Utf8.decode s pos).1 line col).2 then
        eachF s step f (step st pos (Utf8.decode s pos).1 line col).1 (pos + (Utf8.decode s pos).2)
          (if (Utf8.decode s pos).1 = 10 then line + 1 else line) (if (Utf8.decode s pos).1 = 10 then 1 else col + 1)
      else (step st pos (Utf8.decode s pos).1 line col).1
    else (step st s.size (-1) line col).1

section
variable {σ : Type} {s : ByteArray} {step : σ → Nat → Int → Nat → Nat → σ × Bool} {f : Nat} {st st2 : σ} {pos line col : Nat}
theorem eachF_go (hlt : pos < s.size) (hq : step st pos (Utf8.decode s pos).1 line col = (st2, true)) :
    eachF s step (f + 1) st pos line col = eachF s step f st2 (pos + (Utf8.decode s pos).2) (if (Utf8.decode s pos).1 = 10 then line + 1 else line) (if (Utf8.decode s pos).1 = 10 then 1 else col + 1) := by
  simp [eachF, hlt, hq]
theorem eachF_stop (hlt : pos < s.size) (hq : step st pos (Utf8.decode s pos).1 line col = (st2, false)) :
    eachF s step (f + 1) st pos line col = st2 := by
  simp [eachF, hlt, hq]
theorem eachF_end (hlt : ¬ pos < s.size) : eachF s step (f + 1) st pos line col = (step st s.size (-1) line col).1 := by
  simp [eachF, hlt]
end

set_option maxHeartbeats 400000 in
theorem each_any {σ : Type} (R : σ → World → Prop) (step : σ → Nat → Int → Nat → Nat → σ × Bool) (S : Nat → Prop)
    (s : ByteArray) (k : Nat) (c0 c1 : Value) (W : World) (st0 : σ)
    (hk : ∀ args (w : World), (callFunc k args).run Tryd.prog w = .ok (.enter k args) w) (hs : s.size ≤ 4611686018427387904)
    (hdo : ∀ st (pos : Nat) (r : Int) (line col : Nat) w, R st w → W.heap.size ≤ w.heap.size → pos ≤ s.size → 
      Calls Tryd.prog k #[.int .i64 pos, .int .i32 r, .agg #[.int .i64 line, .int .i64 col], c0, c1] w fun e w' =>
        e = .returned (.bool (step st pos r line col).2) ∧ R (step st pos r line col).1 w' ∧ Keeps S w w')
    (hS : ∀ b, S b → b < W.heap.size)
    (hR : ∀ st w w', R st w → Below W.heap.size w w' → R st w')
    (h0 : R st0 W) :
    Calls Tryd.prog 30 #[.string s, .func (.func k) #[] #[c0, c1]] W fun e w' => e = .returned (.tuple #[]) ∧ R (eachF s step (s.size + 1) st0 0 1 1) w' ∧ Keeps S W w' := by
  go_enter Tryd.func30, Tryd.ntmps30
  go_wp2
  go_loopw [5] (fun _ wr => ∃ (f pos line col : Nat) (st : σ), s.size < f + pos ∧ pos ≤ s.size ∧ col ≤ pos + 1 ∧ line ≤ pos + 1 ∧ eachF s step (s.size + 1) st0 0 1 1 = eachF s step f st pos line col ∧ R st wr ∧ Keeps S W wr ∧
     wr.heap[W.heap.size]? = some (.cells #[.int .i64 line, .int .i64 col] 57) ∧ wr.heap[W.heap.size + 1]? = some (.stringIter s pos)) (fun _ wr => s.size - wr.iterPos (W.heap.size + 1))
  case atStart =>
    refine ⟨s.size + 1, 0, 1, 1, st0, by omega, by omega, by omega, by omega, rfl, hR _ _ _ h0 ?_, ?_, ?_, ?_⟩
    · exact ((Below.refl _ _).alloc (Nat.le_refl _) _).alloc (by simp) _
    · exact ((Keeps.refl _ _).alloc _).alloc _
    · rw [iter_old _ _ (by simp)]; exact alloc_at rfl _
    · exact iter_at (by simp) _ _
  case round =>
    obtain ⟨f, pos, line, col, st, hf, hpos, hcol, hline, he, hst, hkeep, hp, hi⟩ := hrel
    obtain ⟨f, rfl⟩ : ∃ g, f = g + 1 := ⟨f - 1, by omega⟩
    have HE := Lib.hid he; clear he
    have Hst := Lib.hid hst; clear hst
    have HP := Lib.hid hp
    have HI := Lib.hid hi
    have HS := Lib.hid hS; clear hS
    have HR := Lib.hid hR; clear hR
    have HD := Lib.hid hdo; clear hdo h0
    by_cases hlt : pos < s.size
    · have hn := Lib.run_next_any_at (P := Tryd.prog) wr (W.heap.size+1) s pos 0 hi hlt
      generalize hw1 : wr.iterAt (W.heap.size + 1) s (pos + (Utf8.decode s pos).2) = w1 at hn
      have HW1 := Lib.hid hw1
      have hp1 : w1.heap[W.heap.size]? = some (.cells #[.int .i64 line, .int .i64 col] 57) := by
        rw [← hw1, Lib.iterAt_other _ _ _ _ _ (by omega)]; exact hp
      have c0 := cell_of hp1 0
      have c1 := cell_of hp1 1
      have f0 := free_of hp1 0
      have f1 := free_of hp1 1
      have HP1 := Lib.hid hp1
      clear hw1 hp1 hp hi
      have hdw : 1 ≤ (Utf8.decode s pos).2 ∧ pos + (Utf8.decode s pos).2 ≤ s.size := dec_width s pos hlt
      have hkw1 : Keeps S W w1 := by rw [← HW1.out]; exact hkeep.iterAt (.inr (by omega)) _ _
      have hR1 : R st w1 := HR.out _ _ _ Hst.out (by rw [← HW1.out]; exact Lib.below_iterAt (Below.refl _ _) (by omega) _ _)
      have HR1 := Lib.hid hR1; clear hR1
      have HI1 : Hid (w1.heap[W.heap.size + 1]? = some (.stringIter s (pos + (Utf8.decode s pos).2))) := by
        rw [← HW1.out]; exact Lib.iterAt_heap _ _ _ _ _ HI.out
      go_wp2
      refine (HD.out st pos _ line col w1 HR1.out hkw1.size (by omega)).mono ?_
      rintro e w2 ⟨rfl, hr, hk2⟩
      generalize hq : step st pos ((Utf8.decode s pos).1 : Int) line col = r at hr ⊢
      have HQ := Lib.hid hq; clear hq
      have HR2 := Lib.hid hr; clear hr
      have hlt1 : W.heap.size + 1 < w1.heap.size := lt_of_block HI1.out
      have hp2 : w2.heap[W.heap.size]? = some (.cells #[.int .i64 line, .int .i64 col] 57) := by
        rw [hk2.block _ (by omega) (fun h => by have := HS.out _ h; omega)]; exact HP1.out
      have hi2 : w2.heap[W.heap.size+1]? = some (.stringIter s (pos + (Utf8.decode s pos).2)) := by
        rw [hk2.block _ (by omega) (fun h => by have := HS.out _ h; omega)]; exact HI1.out
      clear c0 c1 f0 f1 hn
      have c0 := cell_of hp2 0
      have c1 := cell_of hp2 1
      have f0 := free_of hp2 0
      have f1 := free_of hp2 1
      have HP2 := Lib.hid hp2; clear hp2
      have HI2 := Lib.hid hi2; clear hi2
      obtain ⟨st2, b⟩ := r
      cases b
      · go_wp2
        refine bodyPost_ret (results_none rfl _ _ _) rfl ⟨rfl, ?_, hkw1.trans hk2⟩
        rw [HE.out, eachF_stop hlt HQ.out]; exact HR2.out
      · by_cases h10 : (Utf8.decode s pos).1 = 10
        · have hb : (((Utf8.decode s pos).1 : Int) == 10) = true := by simp [h10]
          have H10 := Lib.hid h10
          clear h10
          go_wp2
          go_roundw
          case rel =>
            refine ⟨f, pos + (Utf8.decode s pos).2, line + 1, 1, st2, by omega, by omega, by omega, by omega, ?_, ?_, ?_, ?_, ?_⟩
            · rw [HE.out, eachF_go hlt HQ.out, if_pos H10.out, if_pos H10.out]
            · exact HR.out _ _ _ HR2.out (((Below.refl _ _).setCell (by simp) _).setCell (by simp) _ |>.setCell (by simp) _)
            · exact (((hkw1.trans hk2).setCell (.inr (by simp)) _).setCell (.inr (by simp)) _).setCell (.inr (by simp)) _
            · have := heap_setCell (heap_setCell (heap_setCell HP2.out (i := 1) (.int .i64 (col + 1))) (i := 0) (.int .i64 (line + 1))) (i := 1) (.int .i64 1); simpa using this
            · rw [Below.heap_setCell _ _ _ _ (by simp), Below.heap_setCell _ _ _ _ (by simp), Below.heap_setCell _ _ _ _ (by simp)]; exact HI2.out
          case measure =>
            rw [iterPos_of HI.out]
            rw [iterPos_of (p := pos + (Utf8.decode s pos).2) (s := s)]
            · omega
            · repeat rw [Below.heap_setCell _ _ _ _ (by simp)]
              exact HI2.out
        · have hb : (((Utf8.decode s pos).1 : Int) == 10) = false := by simp; omega
          have H10 := Lib.hid h10
          clear h10
          go_wp2
          go_roundw
          case rel =>
            refine ⟨f, pos + (Utf8.decode s pos).2, line, col + 1, st2, by omega, by omega, by omega, by omega, ?_, ?_, ?_, ?_, ?_⟩
            · rw [HE.out, eachF_go hlt HQ.out, if_neg H10.out, if_neg H10.out]
            · exact HR.out _ _ _ HR2.out ((Below.refl _ _).setCell (by simp) _)
            · exact (hkw1.trans hk2).setCell (.inr (by simp)) _
            · have := heap_setCell HP2.out (i := 1) (.int .i64 (col + 1)); simpa using this
            · rw [Below.heap_setCell _ _ _ _ (by simp)]; exact HI2.out
          case measure =>
            rw [iterPos_of HI.out]
            rw [iterPos_of (p := pos + (Utf8.decode s pos).2) (s := s)]
            · omega
            · repeat rw [Below.heap_setCell _ _ _ _ (by simp)]
              exact HI2.out
    · have hn := Lib.run_next_end_at (P := Tryd.prog) wr (W.heap.size+1) s pos 0 hi hlt
      have c0 := cell_of hp 0
      have c1 := cell_of hp 1
      have f0 := free_of hp 0
      have f1 := free_of hp 1
      clear hp hi
      go_wp2
      refine (HD.out st s.size (-1) line col wr Hst.out hkeep.size (by omega)).mono ?_
      rintro e w' ⟨rfl, hr, hk2⟩
      go_wp2
      go_end0
      refine ⟨rfl, ?_, ?_⟩
      · rw [HE.out, eachF_end hlt]; exact hr
      · exact hkeep.trans hk2
end Go.Proofs.YtlddbelpbgmljaaDoor
namespace Go.Proofs.YtlddbelpbgmljaaDoor
open Go.RowKit

def pre (s p : ByteArray) : Bool := decide (p.size ≤ s.size) && ((s.extract 0 p.size).toList == p.toList)
theorem pre_no {s p : ByteArray} (h : ¬ p.size ≤ s.size) : pre s p = false := by simp [pre, h]
theorem pre_yes {s p : ByteArray} (h : p.size ≤ s.size) : pre s p = ((s.extract 0 p.size).toList == p.toList) := by simp [pre, h]

set_option maxHeartbeats 400000 in
theorem hp_lite (s p : ByteArray) (w : World) (_hs : s.size ≤ 9223372036854775807) (_hp : p.size ≤ 9223372036854775807) :
    Calls Tryd.prog 61 #[.string s, .string p] w fun e w' => e = .returned (.bool (pre s p)) ∧ w' = w := by
  by_cases h : p.size ≤ s.size
  · have H := Lib.hid (pre_yes h)
    go_enter Tryd.func61, Tryd.ntmps61
    go_wp2
    go_ret
    exact ⟨by rw [H.out]; rfl, rfl⟩
  · have H := Lib.hid (pre_no h)
    go_enter Tryd.func61, Tryd.ntmps61
    go_wp2
    go_ret
    exact ⟨by rw [H.out]; rfl, rfl⟩

set_option maxHeartbeats 400000 in
theorem hp_any (s p : ByteArray) (w : World) (hs : s.size ≤ 9223372036854775807) (hp : p.size ≤ 9223372036854775807) :
    Calls Tryd.prog 40 #[.string s, .string p] w fun e w' => e = .returned (.bool (pre s p)) ∧ w' = w := by
  go_enter Tryd.func40, Tryd.ntmps40
  go_wp2_with (go_at_call 61; refine (hp_lite _ _ _ hs hp).mono ?_; rintro e w' ⟨rfl, rfl⟩)
  go_ret
  exact ⟨rfl, rfl⟩

def mk3 : ByteArray := ⟨#[239, 191, 189]⟩
def noSg (s : ByteArray) (r : Int) : Bool := (r == 65533) && !(pre s mk3)

set_option maxHeartbeats 400000 in
theorem noSign_any (s : ByteArray) (r : Int) (w : World) (hs : s.size ≤ 9223372036854775807) :
    Calls Tryd.prog 32 #[.string s, .int .i32 r] w fun e w' => e = .returned (.bool (noSg s r)) ∧ w' = w := by
  by_cases h : r = 65533
  · subst h
    have H := Lib.hid (show noSg s 65533 = !(pre s mk3) from by simp [noSg])
    go_enter Tryd.func32, Tryd.ntmps32
    go_wp2_with (go_at_call 40; refine (hp_any _ mk3 _ hs (by decide)).mono ?_; rintro e w' ⟨rfl, rfl⟩)
    go_ret
    exact ⟨by rw [H.out]; rfl, rfl⟩
  · have H := Lib.hid (show noSg s r = false from by simp [noSg, h])
    have hb : (r == 65533) = false := by simp [h]
    clear h
    go_enter Tryd.func32, Tryd.ntmps32
    go_wp2_with fail
    go_ret
    exact ⟨by rw [H.out]; rfl, rfl⟩


/-- May the sign r at a byte not stand there? -/
def badAt (s : ByteArray) (i : Nat) (r : Int) : Bool := (r == 0) || ((r == 65279) && decide (0 < i)) || noSg (s.extract i s.size) r
def wrongStep (s : ByteArray) (st : Int) (i : Nat) (r : Int) (_ _ : Nat) : Int × Bool :=
  if badAt s i r then (i, false) else (st, decide (st < 0))
def WR (s : ByteArray) (b0 b1 : Nat) (st : Int) (w : World) : Prop :=
  w.heap[b0]? = some (.cells #[.string s] 9) ∧ w.heap[b1]? = some (.cells #[.int .i64 st] 3)

theorem WR_bad {s : ByteArray} {b0 b1 : Nat} {st : Int} {w : World} (hb : b0 ≠ b1) (h : WR s b0 b1 st w) (i : Int) (o : Obj) :
    WR s b0 b1 i ((w.setCell ⟨b1, 0, none⟩ (.int .i64 i)).alloc o) ∧ Keeps (· = b1) w ((w.setCell ⟨b1, 0, none⟩ (.int .i64 i)).alloc o) := by
  obtain ⟨h0, h1⟩ := h
  have l0 := lt_of_block h0
  have l1 := lt_of_block h1
  refine ⟨⟨?_, ?_⟩, (Keeps.setCell (S := fun k => k = b1) (Keeps.refl _ _) (.inl rfl) _).alloc _⟩
  · rw [Below.heap_alloc _ _ _ (by simpa using l0), Below.heap_setCell _ _ _ _ hb]; exact h0
  · rw [Below.heap_alloc _ _ _ (by simpa using l1)]; exact heap_setCell h1 _
theorem WR_good {s : ByteArray} {b0 b1 : Nat} {st : Int} {w : World} (h : WR s b0 b1 st w) (o : Obj) :
    WR s b0 b1 st (w.alloc o) ∧ Keeps (· = b1) w (w.alloc o) := by
  obtain ⟨h0, h1⟩ := h
  have l0 := lt_of_block h0
  have l1 := lt_of_block h1
  refine ⟨⟨?_, ?_⟩, (Keeps.refl _ _).alloc _⟩
  · rw [Below.heap_alloc _ _ _ (by simpa using l0)]; exact h0
  · rw [Below.heap_alloc _ _ _ (by simpa using l1)]; exact h1

set_option maxHeartbeats 400000 in
theorem wrong1_any (s : ByteArray) (b0 b1 : Nat) (hb : b0 ≠ b1) (st : Int) (i : Nat) (r : Int) (line col : Nat) (w : World) (h : WR s b0 b1 st w)
    (hs : s.size ≤ 4611686018427387904) (hi : i ≤ s.size) :
    Calls Tryd.prog 31 #[.int .i64 i, .int .i32 r, .agg #[.int .i64 line, .int .i64 col], .pointer (some ⟨b0, 0, none⟩), .pointer (some ⟨b1, 0, none⟩)] w fun e w' =>
      e = .returned (.bool (wrongStep s st i r line col).2) ∧ WR s b0 b1 (wrongStep s st i r line col).1 w' ∧ Keeps (· = b1) w w' := by
  have HW := Lib.hid h
  obtain ⟨h0, h1⟩ := h
  have c0 := cell_of h0 0
  have c1 := cell_of h1 0
  have f1 := free_of h1 0
  have l0 := lt_of_block h0
  have l1 := lt_of_block h1
  have H0 := Lib.hid h0; clear h0
  have H1 := Lib.hid h1; clear h1
  have bad (q : Int) (hq : badAt s i q = true) : wrongStep s st i q line col = ((i : Int), false) := by simp [wrongStep, hq]
  have good (q : Int) (hq : badAt s i q = false) : wrongStep s st i q line col = (st, decide (st < 0)) := by simp [wrongStep, hq]
  have HBad := Lib.hid bad; clear bad
  have HGood := Lib.hid good; clear good
  have HI := Lib.hid hi
  have hi' : ¬ (i : Int) < 0 := by omega
  by_cases ha : r = 0
  · subst ha
    have hst := HBad.out 0 (by simp [badAt])
    rw [hst]; clear hst
    go_enter Tryd.func31, Tryd.ntmps31
    go_wp2_with fail
    go_ret
    exact ⟨rfl, WR_bad hb HW.out _ _⟩
  by_cases hm : r = 65279
  · subst hm
    by_cases hp : 0 < i
    · have hst := HBad.out 65279 (by simp [badAt, hp])
      rw [hst]; clear hst
      have hp' : decide ((0 : Int) < (i : Int)) = true := by simp [hp]
      go_enter Tryd.func31, Tryd.ntmps31
      go_wp2_with fail
      go_ret
      exact ⟨rfl, WR_bad hb HW.out _ _⟩
    · have hst := HGood.out 65279 (by simp [badAt, hp, noSg])
      rw [hst]; clear hst
      have hp' : decide ((0 : Int) < (i : Int)) = false := by simp; omega
      have hn : noSg (s.extract i s.size) 65279 = false := by simp [noSg]
      go_enter Tryd.func31, Tryd.ntmps31
      go_wp2_with (go_at_call 32; refine (noSign_any _ _ _ (by simp; omega)).mono ?_; rintro e w' ⟨rfl, rfl⟩)
      go_ret
      exact ⟨rfl, WR_good HW.out _⟩
  have ha' : (r == 0) = false := by simp [ha]
  have hm' : (r == 65279) = false := by simp [hm]
  by_cases hn : noSg (s.extract i s.size) r = true
  · have hst := HBad.out r (by simp [badAt, hn])
    rw [hst]; clear hst ha hm
    go_enter Tryd.func31, Tryd.ntmps31
    go_wp2_with (go_at_call 32; refine (noSign_any _ _ _ (by simp; omega)).mono ?_; rintro e w' ⟨rfl, rfl⟩)
    go_ret
    exact ⟨rfl, WR_bad hb HW.out _ _⟩
  · replace hn : noSg (s.extract i s.size) r = false := by simpa using hn
    have hst := HGood.out r (by simp [badAt, hn, ha, hm])
    rw [hst]; clear hst ha hm
    go_enter Tryd.func31, Tryd.ntmps31
    go_wp2_with (go_at_call 32; refine (noSign_any _ _ _ (by simp; omega)).mono ?_; rintro e w' ⟨rfl, rfl⟩)
    go_ret
    exact ⟨rfl, WR_good HW.out _⟩

/-- What 'Wrong' tells of a text. -/
def wrongF (s : ByteArray) : Int := eachF s (wrongStep s) (s.size + 1) (-1) 0 1 1

theorem callf20 (args : Array Value) (w : World) : (callFunc 31 args).run Tryd.prog w = .ok (.enter 31 args) w := by
  simp [go_sem]

set_option maxHeartbeats 400000 in
theorem wrong_any (p : Option Addr) (cap : Nat) (s : ByteArray) (w : World) (hs : s.size ≤ 4611686018427387904)
    (hc : (convert 29 9 (.slice p s.size cap)).run Tryd.prog w = .ok (.string s) w) :
    Calls Tryd.prog 19 #[.slice p s.size cap] w fun e w' => e = .returned (.int .i64 (wrongF s)) ∧ Below w.heap.size w w' := by
  go_enter Tryd.func19, Tryd.ntmps19
  go_wp2_with fail
  refine (each_any (WR s w.heap.size (w.heap.size + 1)) (wrongStep s) (· = w.heap.size + 1) s 31 _ _ _ (-1) callf20 hs ?_ ?_ ?_ ?_).mono ?_
  · intro st pos r line col w' h _ hp
    exact wrong1_any s _ _ (by omega) st pos r line col w' h hs hp
  · rintro b rfl; simp
  · rintro st w1 w2 ⟨h1, h2⟩ hb
    exact ⟨by rw [hb.block _ (by simp; omega)]; exact h1, by rw [hb.block _ (by simp)]; exact h2⟩
  · exact ⟨by rw [Below.heap_alloc _ _ _ (by simp)]; exact alloc_at rfl _, alloc_at (by simp) _⟩
  · rintro e w' ⟨rfl, ⟨h0, h1⟩, hk⟩
    have c1 := cell_of h1 0
    clear h0 h1
    have HK := Lib.hid hk; clear hk
    go_wp2_with fail
    go_ret
    refine ⟨rfl, ?_⟩
    exact (((Below.refl _ _).alloc (Nat.le_refl _) _).alloc (by simp) _).trans (HK.out.below (by simp; omega) (by rintro k rfl; omega))

end Go.Proofs.YtlddbelpbgmljaaDoor
namespace Go.Proofs.YtlddbelpbgmljaaDoor
open Go.RowKit

/-- The byte at a place, as a number; 0 beyond the end. -/
def byteN (s : ByteArray) (i : Nat) : Nat := (s.data.toList.getD i 0).toNat
theorem byteN_lt (s : ByteArray) (i : Nat) : byteN s i < 256 := UInt8.toNat_lt _

/-- The bytes of a slice that came in. -/
def BytesN (w : World) (b o : Nat) (s : ByteArray) : Prop := ∀ i, i < s.size → w.cell? ⟨b, o + i, none⟩ = some (.int .u8 (byteN s i))

def contV (s : ByteArray) (at_ : Nat) : Nat → Nat → Int → Option Int
  | 0, _, v => some v
  | k + 1, i, v => if byteN s (at_ + i) < 128 ∨ 191 < byteN s (at_ + i) then none else contV s at_ k (i + 1) (64 * v + byteN s (at_ + i) - 128)

def oddV (v least : Int) : Bool := decide (v < least) || decide (1114111 < v) || (decide (55296 ≤ v) && decide (v ≤ 57343))
def tailV (s : ByteArray) (at_ n : Nat) (v least : Int) : Int × Int :=
  if s.size < at_ + n then (1, -1) else
  match contV s at_ (n - 1) 1 v with
  | none => (1, -1)
  | some v => if oddV v least then (1, -1) else ((n : Int), v)
def signF (s : ByteArray) (at_ : Nat) : Int × Int :=
  let c := byteN s at_
  if c < 128 then (1, (c : Int))
  else if 194 ≤ c ∧ c ≤ 223 then tailV s at_ 2 ((c : Int) - 192) 128
  else if 224 ≤ c ∧ c ≤ 239 then tailV s at_ 3 ((c : Int) - 224) 2048
  else if 240 ≤ c ∧ c ≤ 244 then tailV s at_ 4 ((c : Int) - 240) 65536
  else (1, -1)

end Go.Proofs.YtlddbelpbgmljaaDoor
namespace Go.Proofs.YtlddbelpbgmljaaDoor
open Go.RowKit

theorem tailV_size {s : ByteArray} {i n : Nat} {v l : Int} (h : i < s.size) (hn : 1 ≤ n) : 1 ≤ (tailV s i n v l).1 ∧ (i : Int) + (tailV s i n v l).1 ≤ s.size := by
  unfold tailV
  split
  · exact ⟨by decide, by simp only; omega⟩
  · split
    · exact ⟨by decide, by simp only; omega⟩
    · split
      · exact ⟨by decide, by simp only; omega⟩
      · exact ⟨by simp only; omega, by simp only; omega⟩
theorem signF_size {s : ByteArray} {i : Nat} (h : i < s.size) : 1 ≤ (signF s i).1 ∧ (i : Int) + (signF s i).1 ≤ s.size := by
  unfold signF
  simp only
  split
  · exact ⟨by simp only; omega, by simp only; omega⟩
  split
  · exact tailV_size h (by decide)
  split
  · exact tailV_size h (by decide)
  split
  · exact tailV_size h (by decide)
  · exact ⟨by decide, by simp only; omega⟩
/-- How many bytes the sign at a place has. -/
def signN (s : ByteArray) (i : Nat) : Nat := (signF s i).1.toNat
theorem signN_size {s : ByteArray} {i : Nat} (h : i < s.size) : 1 ≤ signN s i ∧ i + signN s i ≤ s.size ∧ (signF s i).1 = signN s i := by
  have := signF_size h
  unfold signN
  omega
def signV (s : ByteArray) (i : Nat) : Int := (signF s i).2

/-- The bytes of a slice. -/
def BSl (w : World) (p : Option Addr) (s : ByteArray) : Prop := s.size = 0 ∨ ∃ b o, p = some ⟨b, o, none⟩ ∧ BytesN w b o s ∧ b < w.heap.size

def wrongR (s : ByteArray) : Nat → Nat → Int
  | 0, _ => -1
  | f + 1, i => if i < s.size then (if signV s i ≤ 0 ∨ (signV s i = 65279 ∧ 0 < i) then (i : Int) else wrongR s f (i + signN s i)) else -1

end Go.Proofs.YtlddbelpbgmljaaDoor
namespace Go.Proofs.YtlddbelpbgmljaaDoor
open Go.RowKit

theorem BSl.below {w w' : World} {p : Option Addr} {s : ByteArray} (h : BSl w p s) (hb : Below w.heap.size w w') : BSl w' p s := by
  rcases h with h | ⟨b, o, hp, hc, hlt⟩
  · exact .inl h
  · refine .inr ⟨b, o, hp, fun i hi => ?_, Nat.lt_of_lt_of_le hlt hb.size⟩
    rw [hb.cell (p := ⟨b, o + i, none⟩) hlt]
    exact hc i hi
theorem BSl.alloc {w : World} {p : Option Addr} {s : ByteArray} (h : BSl w p s) (x : Obj) : BSl (w.alloc x) p s :=
  h.below ((Below.refl _ _).alloc (Nat.le_refl _) _)

theorem conv_at {w : World} {p : Option Addr} {s : ByteArray} (h : BSl w p s) (cap : Nat) : (convert 29 9 (.slice p s.size cap)).run Tryd.prog w = .ok (.string s) w := by
  rcases h with h0 | ⟨b, o, rfl, hc, _⟩
  · have he : s = ByteArray.empty := by
      apply ByteArray.ext
      have : s.data = #[] := by apply Array.eq_empty_of_size_eq_zero; exact h0
      rw [this]; rfl
    subst he
    cases p with
    | none => exact run_convert_bytes_nil w 29 5 Tryd.underlying29 Tryd.underlying5 _ cap 9 Tryd.underlying9
    | some a =>
      rw [run_convert_bytes_string w 29 9 5 _ _ cap Tryd.underlying29 Tryd.underlying5 Tryd.underlying9]
      exact run_bytesToString w a 0 cap [] (by simp [loadCells, loadCellsFrom])
  · refine Lib.run_convert_whole w 29 5 9 Tryd.underlying29 Tryd.underlying5 Tryd.underlying9 b o s (fun i hi => ?_) cap
    rw [hc i hi]
    simp only [byteN]
    congr 3
    have := byte_at s i hi
    simp [List.getD, this]

theorem wrong_b (p : Option Addr) (cap : Nat) (s : ByteArray) (w : World) (hb : BSl w p s) (hs : s.size ≤ 4611686018427387904) :
    Calls Tryd.prog 19 #[.slice p s.size cap] w fun e w' => e = .returned (.int .i64 (wrongF s)) ∧ Below w.heap.size w w' :=
  wrong_any p cap s w hs (conv_at hb cap)

end Go.Proofs.YtlddbelpbgmljaaDoor
namespace Go.Proofs.YtlddbelpbgmljaaDoor
open Go.RowKit

theorem get_byteN (s : ByteArray) (j : Nat) : (s.get! j).toNat = byteN s j := by
  unfold byteN ByteArray.get!
  cases s with
  | mk d =>
    show (d[j]!).toNat = _
    rw [getElem!_def, List.getD]
    simp only [Array.getElem?_toList]
    cases h : d[j]? <;> simp
    rfl

def decB (b0 b1 b2 b3 n : Nat) : Nat × Nat :=
  if b0 < 128 then (b0, 1)
  else if 192 ≤ b0 ∧ b0 < 224 ∧ 1 < n ∧ 128 ≤ b1 ∧ b1 < 192 then
    (if 128 ≤ (b0 - 192) * 64 + (b1 - 128) then ((b0 - 192) * 64 + (b1 - 128), 2) else (65533, 1))
  else if 224 ≤ b0 ∧ b0 < 240 ∧ (1 < n ∧ 128 ≤ b1 ∧ b1 < 192) ∧ (2 < n ∧ 128 ≤ b2 ∧ b2 < 192) then
    (if 2048 ≤ (b0 - 224) * 4096 + (b1 - 128) * 64 + (b2 - 128) ∧ ((b0 - 224) * 4096 + (b1 - 128) * 64 + (b2 - 128) < 55296 ∨ 57344 ≤ (b0 - 224) * 4096 + (b1 - 128) * 64 + (b2 - 128)) then
      ((b0 - 224) * 4096 + (b1 - 128) * 64 + (b2 - 128), 3) else (65533, 1))
  else if 240 ≤ b0 ∧ b0 < 248 ∧ (1 < n ∧ 128 ≤ b1 ∧ b1 < 192) ∧ (2 < n ∧ 128 ≤ b2 ∧ b2 < 192) ∧ (3 < n ∧ 128 ≤ b3 ∧ b3 < 192) then
    (if 65536 ≤ (b0 - 240) * 262144 + (b1 - 128) * 4096 + (b2 - 128) * 64 + (b3 - 128) ∧ (b0 - 240) * 262144 + (b1 - 128) * 4096 + (b2 - 128) * 64 + (b3 - 128) ≤ 1114111 then
      ((b0 - 240) * 262144 + (b1 - 128) * 4096 + (b2 - 128) * 64 + (b3 - 128), 4) else (65533, 1))
  else (65533, 1)

theorem decode_B (s : ByteArray) (i : Nat) (h : i < s.size) : Utf8.decode s i = decB (byteN s i) (byteN s (i + 1)) (byteN s (i + 2)) (byteN s (i + 3)) (s.size - i) := by
  have h0 := byteN_lt s i
  have h1 := byteN_lt s (i + 1)
  have h2 := byteN_lt s (i + 2)
  have h3 := byteN_lt s (i + 3)
  simp only [Utf8.decode, get_byteN, Nat.add_zero, decB]
  generalize byteN s i = b0 at *
  generalize byteN s (i + 1) = b1 at *
  generalize byteN s (i + 2) = b2 at *
  generalize byteN s (i + 3) = b3 at *
  have e1 : (b0 / 32 == 6 && (decide (i + 1 < s.size) && b1 / 64 == 2)) = decide (192 ≤ b0 ∧ b0 < 224 ∧ 1 < s.size - i ∧ 128 ≤ b1 ∧ b1 < 192) := by
    rw [Bool.eq_iff_iff]; simp only [Bool.and_eq_true, decide_eq_true_eq, beq_iff_eq]; omega
  have e2 : (b0 / 16 == 14 && (decide (i + 1 < s.size) && b1 / 64 == 2) && (decide (i + 2 < s.size) && b2 / 64 == 2)) = decide (224 ≤ b0 ∧ b0 < 240 ∧ (1 < s.size - i ∧ 128 ≤ b1 ∧ b1 < 192) ∧ (2 < s.size - i ∧ 128 ≤ b2 ∧ b2 < 192)) := by
    rw [Bool.eq_iff_iff]; simp only [Bool.and_eq_true, decide_eq_true_eq, beq_iff_eq]; omega
  have e3 : (b0 / 8 == 30 && (decide (i + 1 < s.size) && b1 / 64 == 2) && (decide (i + 2 < s.size) && b2 / 64 == 2) && (decide (i + 3 < s.size) && b3 / 64 == 2)) = decide (240 ≤ b0 ∧ b0 < 248 ∧ (1 < s.size - i ∧ 128 ≤ b1 ∧ b1 < 192) ∧ (2 < s.size - i ∧ 128 ≤ b2 ∧ b2 < 192) ∧ (3 < s.size - i ∧ 128 ≤ b3 ∧ b3 < 192)) := by
    rw [Bool.eq_iff_iff]; simp only [Bool.and_eq_true, decide_eq_true_eq, beq_iff_eq]; omega
  rw [e1, e2, e3]
  simp only [decide_eq_true_eq]
  clear e1 e2 e3
  split
  · rfl
  split
  · rename_i hc
    rw [show b0 % 32 = b0 - 192 by omega, show b1 % 64 = b1 - 128 by omega]
    rfl
  split
  · rename_i hc
    rw [show b0 % 16 = b0 - 224 by omega, show b1 % 64 = b1 - 128 by omega, show b2 % 64 = b2 - 128 by omega]
    have hb : (b0 - 224) * 4096 + (b1 - 128) * 64 + (b2 - 128) ≤ 65535 := by omega
    generalize (b0 - 224) * 4096 + (b1 - 128) * 64 + (b2 - 128) = c at hb ⊢
    have e : (decide (c ≥ 2048) && Utf8.valid c) = decide (2048 ≤ c ∧ (c < 55296 ∨ 57344 ≤ c)) := by
      rw [Bool.eq_iff_iff]; simp only [Utf8.valid, Bool.and_eq_true, Bool.or_eq_true, decide_eq_true_eq]; omega
    rw [e]
    simp only [decide_eq_true_eq]
    rfl
  split
  · rename_i hc
    rw [show b0 % 8 = b0 - 240 by omega, show b1 % 64 = b1 - 128 by omega, show b2 % 64 = b2 - 128 by omega, show b3 % 64 = b3 - 128 by omega]
    generalize (b0 - 240) * 262144 + (b1 - 128) * 4096 + (b2 - 128) * 64 + (b3 - 128) = c
    have e : (decide (c ≥ 65536) && Utf8.valid c) = decide (65536 ≤ c ∧ c ≤ 1114111) := by
      rw [Bool.eq_iff_iff]; simp only [Utf8.valid, Bool.and_eq_true, Bool.or_eq_true, decide_eq_true_eq]; omega
    rw [e]
    simp only [decide_eq_true_eq]
    rfl
  · rfl

def sgT (n k : Nat) (r : Option Int) (least : Int) : Int × Int :=
  if n < k then (1, -1) else match r with
  | none => (1, -1)
  | some v => if oddV v least then (1, -1) else ((k : Int), v)
def c1B (b1 : Nat) (v : Int) : Option Int := if b1 < 128 ∨ 191 < b1 then none else some (64 * v + b1 - 128)

/-- What is told of a sign, out of what is decoded. -/
def told (d : Nat × Nat) : Int × Int := ((d.2 : Int), if d = (65533, 1) then -1 else (d.1 : Int))
theorem told_bad : told (65533, 1) = (1, -1) := rfl
theorem told_ok {c k : Nat} (h : 1 < k ∨ c < 128) : told (c, k) = ((k : Int), (c : Int)) := by
  unfold told; rw [if_neg (by simp; omega)]

theorem oddV_no {v l : Int} (h : l ≤ v) (h2 : v ≤ 1114111) (h3 : v < 55296 ∨ 57343 < v) : oddV v l = false := by
  simp [oddV]; omega
theorem oddV_yes {v l : Int} (h : v < l ∨ 1114111 < v ∨ (55296 ≤ v ∧ v ≤ 57343)) : oddV v l = true := by
  simp [oddV]; omega

theorem signF_told (s : ByteArray) (i : Nat) (h : i < s.size) : signF s i = told (Utf8.decode s i) := by
  rw [decode_B s i h]
  have h0 := byteN_lt s i
  have h1 := byteN_lt s (i + 1)
  have h2 := byteN_lt s (i + 2)
  have h3 := byteN_lt s (i + 3)
  simp only [signF, tailV, contV, decB]
  rw [show i + (1 + 1) = i + 2 from rfl, show i + (1 + 1 + 1) = i + 3 from rfl]
  generalize byteN s i = b0 at *
  generalize byteN s (i + 1) = b1 at *
  generalize byteN s (i + 2) = b2 at *
  generalize byteN s (i + 3) = b3 at *
  by_cases g0 : b0 < 128
  · rw [if_pos g0, if_pos g0, told_ok (.inr g0)]; rfl
  rw [if_neg g0, if_neg g0]
  by_cases g1 : 194 ≤ b0 ∧ b0 ≤ 223
  · rw [if_pos g1]
    by_cases n1 : s.size < i + 2
    · rw [if_pos n1, if_neg (by omega), if_neg (by omega), if_neg (by omega)]; rfl
    rw [if_neg n1]
    by_cases k1 : b1 < 128 ∨ 191 < b1
    · rw [if_pos k1, if_neg (by omega), if_neg (by omega), if_neg (by omega)]; rfl
    rw [if_neg k1, if_pos (by omega), if_pos (by omega), told_ok (.inl (by omega))]
    simp only
    rw [oddV_no (by omega) (by omega) (by omega)]
    simp; omega
  rw [if_neg g1]
  by_cases g2 : 224 ≤ b0 ∧ b0 ≤ 239
  · rw [if_pos g2]
    by_cases n1 : s.size < i + 3
    · rw [if_pos n1, if_neg (by omega), if_neg (by omega), if_neg (by omega)]; rfl
    rw [if_neg n1]
    by_cases k1 : b1 < 128 ∨ 191 < b1
    · rw [if_pos k1, if_neg (by omega), if_neg (by omega), if_neg (by omega)]; rfl
    rw [if_neg k1]
    by_cases k2 : b2 < 128 ∨ 191 < b2
    · rw [if_pos k2, if_neg (by omega), if_neg (by omega), if_neg (by omega)]; rfl
    rw [if_neg k2, if_neg (by omega), if_pos (show 224 ≤ b0 ∧ b0 < 240 ∧ (1 < s.size - i ∧ 128 ≤ b1 ∧ b1 < 192) ∧ 2 < s.size - i ∧ 128 ≤ b2 ∧ b2 < 192 by omega)]
    simp only
    have e : (64 * (64 * ((b0 : Int) - 224) + b1 - 128) + b2 - 128) = (((b0 - 224) * 4096 + (b1 - 128) * 64 + (b2 - 128) : Nat) : Int) := by omega
    rw [e]
    have hb : (b0 - 224) * 4096 + (b1 - 128) * 64 + (b2 - 128) ≤ 65535 := by omega
    generalize (b0 - 224) * 4096 + (b1 - 128) * 64 + (b2 - 128) = c at hb ⊢
    by_cases hc : 2048 ≤ c ∧ (c < 55296 ∨ 57344 ≤ c)
    · rw [if_pos hc, oddV_no (by omega) (by omega) (by omega), told_ok (.inl (by omega))]; rfl
    · rw [if_neg hc, oddV_yes (by omega)]; rfl
  rw [if_neg g2]
  by_cases g3 : 240 ≤ b0 ∧ b0 ≤ 244
  · rw [if_pos g3]
    by_cases n1 : s.size < i + 4
    · rw [if_pos n1, if_neg (by omega), if_neg (by omega), if_neg (by omega)]; rfl
    rw [if_neg n1]
    by_cases k1 : b1 < 128 ∨ 191 < b1
    · rw [if_pos k1, if_neg (by omega), if_neg (by omega), if_neg (by omega)]; rfl
    rw [if_neg k1]
    by_cases k2 : b2 < 128 ∨ 191 < b2
    · rw [if_pos k2, if_neg (by omega), if_neg (by omega), if_neg (by omega)]; rfl
    rw [if_neg k2]
    by_cases k3 : b3 < 128 ∨ 191 < b3
    · rw [if_pos k3, if_neg (by omega), if_neg (by omega), if_neg (by omega)]; rfl
    rw [if_neg k3, if_neg (by omega), if_neg (by omega), if_pos (by omega)]
    simp only
    have e : (64 * (64 * (64 * ((b0 : Int) - 240) + b1 - 128) + b2 - 128) + b3 - 128) = (((b0 - 240) * 262144 + (b1 - 128) * 4096 + (b2 - 128) * 64 + (b3 - 128) : Nat) : Int) := by omega
    rw [e]
    generalize (b0 - 240) * 262144 + (b1 - 128) * 4096 + (b2 - 128) * 64 + (b3 - 128) = c
    by_cases hc : 65536 ≤ c ∧ c ≤ 1114111
    · rw [if_pos hc, oddV_no (by omega) (by omega) (by omega), told_ok (.inl (by omega))]; rfl
    · rw [if_neg hc, oddV_yes (by omega)]; rfl
  rw [if_neg g3]
  by_cases q1 : 192 ≤ b0 ∧ b0 < 224 ∧ 1 < s.size - i ∧ 128 ≤ b1 ∧ b1 < 192
  · rw [if_pos q1, if_neg (by omega)]; rfl
  rw [if_neg q1, if_neg (by omega)]
  split
  · rw [if_neg (by omega)]; rfl
  · rfl

end Go.Proofs.YtlddbelpbgmljaaDoor
namespace Go.Proofs.YtlddbelpbgmljaaDoor
open Go.RowKit

theorem drop3 (L : List UInt8) (i : Nat) (h : i + 3 ≤ L.length) : (L.drop i).take 3 = [L.getD i 0, L.getD (i + 1) 0, L.getD (i + 2) 0] := by
  have e0 := List.drop_eq_getElem_cons (show i < L.length by omega)
  have e1 := List.drop_eq_getElem_cons (show i + 1 < L.length by omega)
  have e2 := List.drop_eq_getElem_cons (show i + 1 + 1 < L.length by omega)
  rw [e0, e1, e2]
  have d0 : L.getD i 0 = L[i] := by simp [List.getD, List.getElem?_eq_getElem (show i < L.length by omega)]
  have d1 : L.getD (i + 1) 0 = L[i + 1] := by simp [List.getD, List.getElem?_eq_getElem (show i + 1 < L.length by omega)]
  have d2 : L.getD (i + 2) 0 = L[i + 2] := by simp [List.getD, List.getElem?_eq_getElem (show i + 2 < L.length by omega)]
  rw [d0, d1, d2]
  rfl

theorem pre_mk3 (s : ByteArray) (i : Nat) (hi : i ≤ s.size) : pre (s.extract i s.size) mk3 = decide (i + 3 ≤ s.size ∧ byteN s i = 239 ∧ byteN s (i + 1) = 191 ∧ byteN s (i + 2) = 189) := by
  have hs : (s.extract i s.size).size = s.size - i := by simp
  have h3 : mk3.size = 3 := rfl
  have hL : s.data.toList.length = s.size := by simp
  by_cases h : i + 3 ≤ s.size
  · rw [pre_yes (by omega), h3]
    rw [Lib.extract_toList, Lib.extract_data, List.drop_zero, Nat.sub_zero, List.take_take, Nat.min_eq_left (by omega), drop3 _ _ (by omega)]
    have : mk3.toList = [239, 191, 189] := by decide +kernel
    rw [this, Bool.eq_iff_iff]
    simp only [byteN, beq_iff_eq, List.cons.injEq, decide_eq_true_eq, h, true_and, and_true, ← UInt8.toNat_inj]
    rfl
  · rw [pre_no (by omega)]
    symm; simp; omega

theorem byteN_hi (s : ByteArray) (i : Nat) : byteN s i < 256 := byteN_lt s i

/-- FFFD is decoded where no sign begins, and where it is written out. -/
theorem dec_fffd (s : ByteArray) (i : Nat) (h : i < s.size) (hd : (Utf8.decode s i).1 = 65533) :
    (Utf8.decode s i = (65533, 1)) ↔ ¬ (i + 3 ≤ s.size ∧ byteN s i = 239 ∧ byteN s (i + 1) = 191 ∧ byteN s (i + 2) = 189) := by
  rw [decode_B s i h] at hd ⊢
  have h0 := byteN_lt s i
  have h1 := byteN_lt s (i + 1)
  have h2 := byteN_lt s (i + 2)
  have h3 := byteN_lt s (i + 3)
  revert hd
  simp only [decB]
  generalize byteN s i = b0 at *
  generalize byteN s (i + 1) = b1 at *
  generalize byteN s (i + 2) = b2 at *
  generalize byteN s (i + 3) = b3 at *
  repeat' split
  all_goals (intro hd; (try simp only at hd); simp only [Prod.mk.injEq, true_iff, and_true]; omega)

theorem bad_iff (s : ByteArray) (i : Nat) (h : i < s.size) : badAt s i (Utf8.decode s i).1 = true ↔ (signV s i ≤ 0 ∨ (signV s i = 65279 ∧ 0 < i)) := by
  have hv : signV s i = (told (Utf8.decode s i)).2 := by rw [signV, signF_told s i h]
  rw [hv]
  unfold badAt noSg
  rw [pre_mk3 s i (by omega)]
  have hf := dec_fffd s i h
  generalize Utf8.decode s i = d at *
  obtain ⟨c, k⟩ := d
  simp only at hf ⊢
  by_cases hc : c = 65533
  · subst hc
    simp only [true_implies] at hf
    by_cases hk : k = 1
    · subst hk
      have := hf.1 rfl
      simp [told, this]
    · have : ¬¬ _ := fun hn => hk (by have := hf.2 hn; simpa using this)
      have := Decidable.not_not.1 this
      simp [told, hk, this]
  · have e : told (c, k) = ((k : Int), (c : Int)) := by unfold told; rw [if_neg (by simp [hc])]
    rw [e]
    simp
    omega

end Go.Proofs.YtlddbelpbgmljaaDoor
namespace Go.Proofs.YtlddbelpbgmljaaDoor
open Go.RowKit

theorem signN_dec (s : ByteArray) (i : Nat) (h : i < s.size) : (Utf8.decode s i).2 = signN s i := by
  rw [signN, signF_told s i h]; simp [told]
theorem signV_dec (s : ByteArray) (i : Nat) (h : i < s.size) : signV s i = if Utf8.decode s i = (65533, 1) then -1 else ((Utf8.decode s i).1 : Int) := by
  rw [signV, signF_told s i h]; simp [told]
theorem ten_dec (s : ByteArray) (i : Nat) (h : i < s.size) : ((Utf8.decode s i).1 = 10) = (signV s i = 10) := by
  rw [signV_dec s i h]
  split
  · rename_i e; rw [e]; simp
  · apply propext; omega

def SC (s : ByteArray) (i : Nat) (d : Nat × Nat) : Prop :=
    (d.2 = 1 ∧ byteN s i < 128 ∧ (if d = (65533, 1) then (-1 : Int) else (d.1 : Int)) = byteN s i) ∨ (d.2 = 1 ∧ 128 ≤ byteN s i ∧ (if d = (65533, 1) then (-1 : Int) else (d.1 : Int)) = -1) ∨
    (2 ≤ d.2 ∧ d.2 ≤ 4 ∧ 128 ≤ (if d = (65533, 1) then (-1 : Int) else (d.1 : Int)) ∧ ∀ j, j < d.2 → 128 ≤ byteN s (i + j))
theorem sc_bad {s : ByteArray} {i : Nat} (h : 128 ≤ byteN s i) : SC s i (65533, 1) := .inr (.inl ⟨rfl, h, rfl⟩)
theorem sc_good {s : ByteArray} {i c k : Nat} (h : 2 ≤ k) (h4 : k ≤ 4) (hc : 128 ≤ c) (hb : 128 ≤ byteN s i ∧ 128 ≤ byteN s (i + 1) ∧ (2 < k → 128 ≤ byteN s (i + 2)) ∧ (3 < k → 128 ≤ byteN s (i + 3))) : SC s i (c, k) := by
  refine .inr (.inr ⟨h, h4, ?_, ?_⟩)
  · rw [if_neg (by simp; omega)]; simp only; omega
  · intro j hj
    simp only at hj
    have : j = 0 ∨ j = 1 ∨ j = 2 ∨ j = 3 := by omega
    rcases this with rfl | rfl | rfl | rfl
    · exact hb.1
    · exact hb.2.1
    · exact hb.2.2.1 (by omega)
    · exact hb.2.2.2 (by omega)
theorem sc_low {s : ByteArray} {i c : Nat} (hc : c = byteN s i) (h : c < 128) : SC s i (c, 1) := by
  refine Or.inl ⟨rfl, by omega, ?_⟩
  rw [if_neg (by simp; omega)]
  simp only; omega
theorem sc_dec (s : ByteArray) (i : Nat) : SC s i (decB (byteN s i) (byteN s (i + 1)) (byteN s (i + 2)) (byteN s (i + 3)) (s.size - i)) := by
  unfold decB
  by_cases g0 : byteN s i < 128
  · rw [if_pos g0]
    exact sc_low rfl g0
  rw [if_neg g0]
  repeat' split
  all_goals (first | exact sc_good (by omega) (by omega) (by omega) ⟨by omega, by omega, by omega, by omega⟩ | exact sc_bad (by omega))

theorem sign_cases (s : ByteArray) (i : Nat) (h : i < s.size) :
    (signN s i = 1 ∧ byteN s i < 128 ∧ signV s i = byteN s i) ∨ (signN s i = 1 ∧ 128 ≤ byteN s i ∧ signV s i = -1) ∨
    (2 ≤ signN s i ∧ signN s i ≤ 4 ∧ 128 ≤ signV s i ∧ ∀ j, j < signN s i → 128 ≤ byteN s (i + j)) := by
  rw [signV_dec s i h, ← signN_dec s i h, decode_B s i h]
  exact sc_dec s i

theorem wrong_eq (s : ByteArray) : ∀ (f i l c : Nat), s.size < f + i → i ≤ s.size → eachF s (wrongStep s) f (-1) i l c = wrongR s f i := by
  intro f
  induction f with
  | zero => intro i l c h1 h2; omega
  | succ f ih =>
    intro i l c h1 h2
    by_cases hlt : i < s.size
    · have hb := bad_iff s i hlt
      obtain ⟨n1, n2, _⟩ := signN_size hlt
      rw [wrongR, if_pos hlt]
      by_cases hbad : badAt s i (Utf8.decode s i).1 = true
      · rw [eachF_stop hlt (st2 := (i : Int)) (by simp [wrongStep, hbad]), if_pos (hb.1 hbad)]
      · have hbad' : badAt s i (Utf8.decode s i).1 = false := by simpa using hbad
        rw [eachF_go hlt (st2 := (-1 : Int)) (by simp [wrongStep, hbad']), if_neg (fun h => hbad (hb.2 h)), signN_dec s i hlt]
        exact ih _ _ _ (by omega) (by omega)
    · obtain rfl : i = s.size := by omega
      rw [eachF_end hlt, wrongR, if_neg hlt]
      have : badAt s s.size (-1) = false := by simp [badAt, noSg]
      simp [wrongStep, this]
theorem wrongF_eq (s : ByteArray) : wrongF s = wrongR s (s.size + 1) 0 := wrong_eq s _ _ _ _ (by omega) (by omega)

end Go.Proofs.YtlddbelpbgmljaaDoor
namespace Go.Proofs.YtlddbelpbgmljaaDoor
open Go.RowKit

/-- A slice of bytes that came in. -/
theorem bsl_of {w : World} {a : Option Addr} {len cap : Nat} {zs : List Int}
    (h : (a = none ∧ len = 0 ∧ cap = 0 ∧ zs = []) ∨
      ∃ x, a = some x ∧ len ≤ cap ∧ cap ≤ maxLen ∧ zs.length = cap ∧ (∀ i, i < zs.length → w.cell? (x.add i) = some (.int .u8 (zs.getD i 0))) ∧ ∀ n ∈ zs, (Lit.int .u8 n).wf = true) :
    ∃ s : ByteArray, s.size = len ∧ BSl w a s ∧ len ≤ cap ∧ (a = none → cap = 0) := by
  rcases h with ⟨rfl, rfl, rfl, rfl⟩ | ⟨x, rfl, hl, hm, hz, hc, hw⟩
  · exact ⟨⟨#[]⟩, rfl, .inl rfl, Nat.le_refl _, fun _ => rfl⟩
  · refine ⟨strOfNums (zs.take len), by rw [strOfNums_size]; simp; omega, ?_, hl, fun h => by cases h⟩
    by_cases h0 : len = 0
    · subst h0; exact .inl (by rw [strOfNums_size]; simp)
    · obtain ⟨b, o, spot⟩ := x
      have hc0 := hc 0 (by omega)
      have hspot : spot = none := by simpa [Addr.add] using World.cell?_spot hc0
      subst hspot
      refine .inr ⟨b, o, rfl, fun i hi => ?_, ?_⟩
      · rw [strOfNums_size, List.length_take] at hi
        have := hc i (by omega)
        have e : (⟨b, o, none⟩ : Addr).add i = ⟨b, o + i, none⟩ := by unfold Addr.add; split <;> simp_all
        rw [e] at this
        rw [this]
        have hil : i < zs.length := by omega
        have hb : 0 ≤ zs[i] ∧ zs[i] < 256 := by
          have h1 : IntKind.u8.min = 0 := rfl
          have h2 : IntKind.u8.max = 255 := rfl
          have := hw zs[i] (List.getElem_mem hil)
          simp only [Lit.wf, Bool.and_eq_true, decide_eq_true_eq] at this
          omega
        congr 2
        simp only [byteN, strOfNums_data]
        rw [List.getD, List.getD, List.getElem?_map, List.getElem?_take_of_lt (by omega), List.getElem?_eq_getElem hil]
        simp only [Option.map_some, Option.getD_some]
        have h3 : (UInt8.ofNat zs[i].toNat).toNat = zs[i].toNat := by
          simp; omega
        rw [h3]; omega
      · have := World.block_lt_of_cell? _ _ hc0
        simpa [Addr.add] using this

end Go.Proofs.YtlddbelpbgmljaaDoor
