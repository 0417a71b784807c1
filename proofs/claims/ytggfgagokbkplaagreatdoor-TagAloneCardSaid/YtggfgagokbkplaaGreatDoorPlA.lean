import Derived.Test.YtggfgagokbkplaaGreatDoorProg
import Derived.Test.YtggfgagokbkplaaGreatDoorKit
namespace Go.Proofs.YtggfgagokbkplaaGreatDoor
open Go.RowKit

theorem dec_width (s : ByteArray) (pos : Nat) (h : pos < s.size) : 1 ≤ (Utf8.decode s pos).2 ∧ pos + (Utf8.decode s pos).2 ≤ s.size := by
  simp only [Utf8.decode]
  repeat' split
  all_goals simp_all
  all_goals omega

def eachF {σ : Type} (s : ByteArray) (step : σ → Nat → Int → Nat → Nat → σ × Bool) : Nat → σ → Nat → Nat → Nat → σ
  | 0, st, _, _, _ => st
  | f + 1, st, pos, line, col =>
    if pos < s.size then
      if (step st pos (Utf8.decode s pos).1 line col).2 then
        eachF s step f (step st pos (Utf8.decode s pos).1 line col).1 (pos + (Utf8.decode s pos).2)
          (if (Utf8.decode s pos).1 = 10 then line + 1 else line) (if (Utf8.decode s pos).1 = 10 then 1 else col + 1)
      else (step st pos (Utf8.decode s pos).1 line col).1
    else (step st s.size (-1) line col).1

section
variable {σ : Type} {s : ByteArray} {step : σ → Nat → Int → Nat → Nat → σ × Bool} {f : Nat} {st st2 : σ} {pos line col : Nat}
theorem eachF_go (hlt : pos < s.size) (hq : step st pos (Utf8.decode s pos).1 line col = (st2, true)) :
    eachF s step (f + 1) st pos line col = eachF s step f st2 (pos + (Utf8.decode s pos).2) (if (Utf8.decode s pos).1 = 10 then line + 1 else line) (if (Utf8.decode s pos).1 = 10 then 1 else col + 1) := by
  simp [eachF, hlt, hq]
theorem eachF_stop (hlt : pos < s.size) (hq : step st pos (Utf8.decode s pos).1 line col = (st2, false)) :
    eachF s step (f + 1) st pos line col = st2 := by
  simp [eachF, hlt, hq]
theorem eachF_end (hlt : ¬ pos < s.size) : eachF s step (f + 1) st pos line col = (step st s.size (-1) line col).1 := by
  simp [eachF, hlt]
end

set_option maxHeartbeats 400000 in
theorem each_any {σ : Type} (R : σ → World → Prop) (step : σ → Nat → Int → Nat → Nat → σ × Bool) (S : Nat → Prop)
    (s : ByteArray) (k : Nat) (c0 c1 : Value) (W : World) (st0 : σ)
    (hk : ∀ args (w : World), (callFunc k args).run Tryz.prog w = .ok (.enter k args) w) (hs : s.size ≤ 4611686018427387904)
    (hdo : ∀ st (pos : Nat) (r : Int) (line col : Nat) w, R st w → W.heap.size ≤ w.heap.size → pos ≤ s.size → 
      Calls Tryz.prog k #[.int .i64 pos, .int .i32 r, .agg #[.int .i64 line, .int .i64 col], c0, c1] w fun e w' =>
        e = .returned (.bool (step st pos r line col).2) ∧ R (step st pos r line col).1 w' ∧ Keeps S w w')
    (hS : ∀ b, S b → b < W.heap.size)
    (hR : ∀ st w w', R st w → Below W.heap.size w w' → R st w')
    (h0 : R st0 W) :
    Calls Tryz.prog 112 #[.string s, .func (.func k) #[] #[c0, c1]] W fun e w' => e = .returned (.tuple #[]) ∧ R (eachF s step (s.size + 1) st0 0 1 1) w' ∧ Keeps S W w' := by
  go_enter Tryz.func112, Tryz.ntmps112
  go_wp2
  go_loopw [5] (fun _ wr => ∃ (f pos line col : Nat) (st : σ), s.size < f + pos ∧ pos ≤ s.size ∧ col ≤ pos + 1 ∧ line ≤ pos + 1 ∧ eachF s step (s.size + 1) st0 0 1 1 = eachF s step f st pos line col ∧ R st wr ∧ Keeps S W wr ∧
     wr.heap[W.heap.size]? = some (.cells #[.int .i64 line, .int .i64 col] 136) ∧ wr.heap[W.heap.size + 1]? = some (.stringIter s pos)) (fun _ wr => s.size - wr.iterPos (W.heap.size + 1))
  case atStart =>
    refine ⟨s.size + 1, 0, 1, 1, st0, by omega, by omega, by omega, by omega, rfl, hR _ _ _ h0 ?_, ?_, ?_, ?_⟩
    · exact ((Below.refl _ _).alloc (Nat.le_refl _) _).alloc (by simp) _
    · exact ((Keeps.refl _ _).alloc _).alloc _
    · rw [iter_old _ _ (by simp)]; exact alloc_at rfl _
    · exact iter_at (by simp) _ _
  case round =>
    obtain ⟨f, pos, line, col, st, hf, hpos, hcol, hline, he, hst, hkeep, hp, hi⟩ := hrel
    obtain ⟨f, rfl⟩ : ∃ g, f = g + 1 := ⟨f - 1, by omega⟩
    have HE := Lib.hid he; clear he
    have Hst := Lib.hid hst; clear hst
    have HP := Lib.hid hp
    have HI := Lib.hid hi
    have HS := Lib.hid hS; clear hS
    have HR := Lib.hid hR; clear hR
    have HD := Lib.hid hdo; clear hdo h0
    by_cases hlt : pos < s.size
    · have hn := Lib.run_next_any_at (P := Tryz.prog) wr (W.heap.size+1) s pos 0 hi hlt
      generalize hw1 : wr.iterAt (W.heap.size + 1) s (pos + (Utf8.decode s pos).2) = w1 at hn
      have HW1 := Lib.hid hw1
      have hp1 : w1.heap[W.heap.size]? = some (.cells #[.int .i64 line, .int .i64 col] 136) := by
        rw [← hw1, Lib.iterAt_other _ _ _ _ _ (by omega)]; exact hp
      have c0 := cell_of hp1 0
      have c1 := cell_of hp1 1
      have f0 := free_of hp1 0
      have f1 := free_of hp1 1
      have HP1 := Lib.hid hp1
      clear hw1 hp1 hp hi
      have hdw : 1 ≤ (Utf8.decode s pos).2 ∧ pos + (Utf8.decode s pos).2 ≤ s.size := dec_width s pos hlt
      have hkw1 : Keeps S W w1 := by rw [← HW1.out]; exact hkeep.iterAt (.inr (by omega)) _ _
      have hR1 : R st w1 := HR.out _ _ _ Hst.out (by rw [← HW1.out]; exact Lib.below_iterAt (Below.refl _ _) (by omega) _ _)
      have HR1 := Lib.hid hR1; clear hR1
      have HI1 : Hid (w1.heap[W.heap.size + 1]? = some (.stringIter s (pos + (Utf8.decode s pos).2))) := by
        rw [← HW1.out]; exact Lib.iterAt_heap _ _ _ _ _ HI.out
      go_wp2
      refine (HD.out st pos _ line col w1 HR1.out hkw1.size (by omega)).mono ?_
      rintro e w2 ⟨rfl, hr, hk2⟩
      generalize hq : step st pos ((Utf8.decode s pos).1 : Int) line col = r at hr ⊢
      have HQ := Lib.hid hq; clear hq
      have HR2 := Lib.hid hr; clear hr
      have hlt1 : W.heap.size + 1 < w1.heap.size := lt_of_block HI1.out
      have hp2 : w2.heap[W.heap.size]? = some (.cells #[.int .i64 line, .int .i64 col] 136) := by
        rw [hk2.block _ (by omega) (fun h => by have := HS.out _ h; omega)]; exact HP1.out
      have hi2 : w2.heap[W.heap.size+1]? = some (.stringIter s (pos + (Utf8.decode s pos).2)) := by
        rw [hk2.block _ (by omega) (fun h => by have := HS.out _ h; omega)]; exact HI1.out
      clear c0 c1 f0 f1 hn
      have c0 := cell_of hp2 0
      have c1 := cell_of hp2 1
      have f0 := free_of hp2 0
      have f1 := free_of hp2 1
      have HP2 := Lib.hid hp2; clear hp2
      have HI2 := Lib.hid hi2; clear hi2
      obtain ⟨st2, b⟩ := r
      cases b
      · go_wp2
        refine bodyPost_ret (results_none rfl _ _ _) rfl ⟨rfl, ?_, hkw1.trans hk2⟩
        rw [HE.out, eachF_stop hlt HQ.out]; exact HR2.out
      · by_cases h10 : (Utf8.decode s pos).1 = 10
        · have hb : (((Utf8.decode s pos).1 : Int) == 10) = true := by simp [h10]
          have H10 := Lib.hid h10
          clear h10
          go_wp2
          go_roundw
          case rel =>
            refine ⟨f, pos + (Utf8.decode s pos).2, line + 1, 1, st2, by omega, by omega, by omega, by omega, ?_, ?_, ?_, ?_, ?_⟩
            · rw [HE.out, eachF_go hlt HQ.out, if_pos H10.out, if_pos H10.out]
            · exact HR.out _ _ _ HR2.out (((Below.refl _ _).setCell (by simp) _).setCell (by simp) _ |>.setCell (by simp) _)
            · exact (((hkw1.trans hk2).setCell (.inr (by simp)) _).setCell (.inr (by simp)) _).setCell (.inr (by simp)) _
            · have := heap_setCell (heap_setCell (heap_setCell HP2.out (i := 1) (.int .i64 (col + 1))) (i := 0) (.int .i64 (line + 1))) (i := 1) (.int .i64 1); simpa using this
            · rw [Below.heap_setCell _ _ _ _ (by simp), Below.heap_setCell _ _ _ _ (by simp), Below.heap_setCell _ _ _ _ (by simp)]; exact HI2.out
          case measure =>
            rw [iterPos_of HI.out]
            rw [iterPos_of (p := pos + (Utf8.decode s pos).2) (s := s)]
            · omega
            · repeat rw [Below.heap_setCell _ _ _ _ (by simp)]
              exact HI2.out
        · have hb : (((Utf8.decode s pos).1 : Int) == 10) = false := by simp; omega
          have H10 := Lib.hid h10
          clear h10
          go_wp2
          go_roundw
          case rel =>
            refine ⟨f, pos + (Utf8.decode s pos).2, line, col + 1, st2, by omega, by omega, by omega, by omega, ?_, ?_, ?_, ?_, ?_⟩
            · rw [HE.out, eachF_go hlt HQ.out, if_neg H10.out, if_neg H10.out]
            · exact HR.out _ _ _ HR2.out ((Below.refl _ _).setCell (by simp) _)
            · exact (hkw1.trans hk2).setCell (.inr (by simp)) _
            · have := heap_setCell HP2.out (i := 1) (.int .i64 (col + 1)); simpa using this
            · rw [Below.heap_setCell _ _ _ _ (by simp)]; exact HI2.out
          case measure =>
            rw [iterPos_of HI.out]
            rw [iterPos_of (p := pos + (Utf8.decode s pos).2) (s := s)]
            · omega
            · repeat rw [Below.heap_setCell _ _ _ _ (by simp)]
              exact HI2.out
    · have hn := Lib.run_next_end_at (P := Tryz.prog) wr (W.heap.size+1) s pos 0 hi hlt
      have c0 := cell_of hp 0
      have c1 := cell_of hp 1
      have f0 := free_of hp 0
      have f1 := free_of hp 1
      clear hp hi
      go_wp2
      refine (HD.out st s.size (-1) line col wr Hst.out hkeep.size (by omega)).mono ?_
      rintro e w' ⟨rfl, hr, hk2⟩
      go_wp2
      go_end0
      refine ⟨rfl, ?_, ?_⟩
      · rw [HE.out, eachF_end hlt]; exact hr
      · exact hkeep.trans hk2
end Go.Proofs.YtggfgagokbkplaaGreatDoor
