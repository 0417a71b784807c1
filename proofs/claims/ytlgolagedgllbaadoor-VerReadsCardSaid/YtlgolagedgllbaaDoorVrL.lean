import Derived.RangeFuncNested
import Derived.RangeFuncBound
import Derived.RangeFuncCalls
import Derived.RangeFuncLeaves
import Derived.Test.YtlgolagedgllbaaDoorKit
namespace Go.Proofs.YtlgolagedgllbaaDoor
open Go.RowKit
set_option linter.unusedSimpArgs false
set_option linter.unusedVariables false
set_option linter.unusedSectionVars false

/-! A range over a function whose iterator keeps its state in a cell (block b) that lay ahead of the loop. -/
theorem Keeps.grown {S : Nat → Prop} {a w w' : World} {row : Option Nat} (h : Keeps S a w) (hg : w.grownBy w' row) (hr : ∀ k, row = some k → S k ∨ a.heap.size ≤ k) : Keeps S a w' :=
  ⟨hg.os.trans h.os, hg.tape.trans h.tape, hg.output.trans h.output, Nat.le_trans h.size hg.size, fun k hk hs =>
    (hg.block k (Nat.lt_of_lt_of_le hk h.size) (fun e => (hr k e.symm).elim hs (by omega))).trans (h.block k hk hs)⟩
theorem Keeps.putObj {S : Nat → Prop} {a w : World} (h : Keeps S a w) {k : Nat} (hk : S k ∨ a.heap.size ≤ k) (hlt : k < w.heap.size) (o : Obj) : Keeps S a (w.putObj k o) :=
  h.grown (grownBy_putObj' w k o) (fun j e => by cases e; exact hk)

/-- What an iterator says that tells xs, one behind the other, and ends; its state lies in block b; rounds turn the blocks of T alone, and new ones. -/
def IterB {α : Type} (P : Program) (n gf : Nat) (lb : Array Value) (R : α → Value → World → Prop) (xs : List α) (b : Nat) (T : Nat → Prop) (w : World) : Prop :=
  ∀ (l : Nat) (J Jx : List α → World → Prop) (W : World), Keeps T w W → w.heap.size + 2 ≤ W.heap.size →
    (∀ pre A B, J pre A → Keeps (fun k => k = b) A B → J pre B) → (∀ pre A B, Jx pre A → Keeps (fun k => k = b) A B → Jx pre B) →
    (∀ pre x rest v W1, xs = pre ++ x :: rest → J pre W1 → R x v W1 → YieldAt Fence.wide (n - 1) P l #[v] W1 fun e W' =>
      (e = .returned (.bool true) ∧ J (pre ++ [x]) W' ∧ Keeps (fun k => T k ∨ w.heap.size ≤ k) W1 W') ∨ (e = .returned (.bool false) ∧ Jx (pre ++ [x]) W')) →
    J [] W →
    CallsIn Fence.wide n P gf (#[.func (.yield l) #[] #[]] ++ lb) W fun e W' => (∃ v, e = .returned v) ∧ (J xs W' ∨ ∃ pre, Jx pre W')

/-- How the body of a round may be left. -/
def bodyQ {α : Type} (T : Nat → Prop) (I Ix : List α → World → Prop) (xs : List α) (W : World) : Exit → Act → World → Prop
  | .normal, _, W' => Keeps T W W' ∧ I xs W'
  | .ret, _, W' => Keeps T W W' ∧ Ix xs W'
  | .exit _, _, _ => False
  | .goto _, _, _ => False
  | .panic _, _, _ => False
  | .outgrown, _, _ => False

theorem wpIn_range_st {n : Nat} {P : Program} {α : Type} {g : Operand} {ps : Array Tmp} {assign body : Code} {Q : Exit → Act → World → Prop} {a : Act} {w : World} (h1 : 1 ≤ n)
    {gf : Nat} {lb : Array Value} (hg : a.eval g = .func (.func gf) #[] lb) (eg : ∀ args w, (callFunc gf args).run P w = .ok (.enter gf args) w)
    {R : α → Value → World → Prop} (hps : ps.size = 1) (xs : List α) (b : Nat) (T : Nat → Prop) (hT : ∀ k, T k → k < w.heap.size) (hb : b < w.heap.size)
    (hit : IterB P (n - 1) gf lb R xs b T w) (hR : ∀ x v A B, R x v A → Keeps (fun k => k = w.heap.size + 1) A B → R x v B)
    (I Ix : List α → World → Prop) (hI : ∀ pre A B, w.heap.size ≤ A.heap.size → I pre A → Keeps (fun k => k = b ∨ w.heap.size ≤ k) A B → I pre B)
    (hIx : ∀ pre A B, w.heap.size ≤ A.heap.size → Ix pre A → Keeps (fun k => k = b ∨ w.heap.size ≤ k) A B → Ix pre B) (h0 : I [] w) (a1 : Value → Act)
    (hassign : ∀ (l : Nat) (v : Value) (W : World) (K : Act → World → Prop), K (a1 v) W →
      assign.wpIn (Fence.wide.inRound l) (n - 1 - 1) P (Exit.then K (fun _ _ _ => False)) { tmps := (ps.zip #[v]).foldl (fun t (p, v) => t.setIfInBounds p v) a.tmps, defers := [] } W)
    (hbody : ∀ (l : Nat) (pre : List α) (x : α) (rest : List α) (v : Value) (W : World), xs = pre ++ x :: rest → I pre W → R x v W → w.heap.size + 2 ≤ W.heap.size →
      body.wpIn (Fence.wide.inRound l) (n - 1 - 1) P (bodyQ T I Ix (pre ++ [x]) W) (a1 v) W)
    (hdone : ∀ W, I xs W → W.heap[w.heap.size]? = some (.deferred (some [])) → Q .normal { a with defers := { target := .collected w.heap.size, args := #[] } :: a.defers } W)
    (hstop : ∀ pre W, Ix pre W → W.heap[w.heap.size]? = some (.deferred (some [])) → Code.ret.wpIn Fence.wide n P Q { a with defers := { target := .collected w.heap.size, args := #[] } :: a.defers } W) :
    (Code.rangeFunc g ps assign body).wpIn Fence.wide n P Q a w := by
  refine wpIn_rangeFunc fun fn hfn => ?_
  obtain ⟨rec, hrec⟩ : ∃ rec : LoopState → Option Code → Loop, rec = fun st pe => { state := st, pending := pe, fn, tmps := a.tmps, params := ps, assign, body, defers := w.heap.size } := ⟨_, rfl⟩
  obtain ⟨W1, hW1⟩ : ∃ W1, (w.alloc (.deferred (some []))).alloc (.loop (rec .ready none)) = W1 := ⟨_, rfl⟩
  have hK : Keeps (fun _ => False) w W1 := by rw [← hW1]; exact ((Keeps.refl _ _).alloc _).alloc _
  have hsz : W1.heap.size = w.heap.size + 2 := by rw [← hW1]; simp
  have hL1 : W1.heap[w.heap.size + 1]? = some (.loop (rec .ready none)) := by
    rw [← hW1]; exact alloc_at (by simp) _
  have hK1 : W1.heap[w.heap.size]? = some (.deferred (some [])) := by
    rw [← hW1]; exact (Below.heap_alloc _ _ _ (by simp)).trans (alloc_at rfl _)
  have hI1 : I [] W1 := hI _ _ _ (Nat.le_refl _) h0 (hK.mono fun k _ h => h.elim)
  refine ⟨w.heap.size + 1, [{ target := .collected w.heap.size, args := #[] }], W1, { target := .fn (.func gf) lb, args := #[.func (.yield (w.heap.size + 1)) #[] #[]] }, W1, gf,
    #[.func (.yield (w.heap.size + 1)) #[] #[]] ++ lb, W1, ?_, ?_, fun _ _ => trivial, ?_, fun _ => h1, ?_⟩
  · rw [← hW1, hrec]; exact run_enterLoop_outer _ _ _ _ _
  · simp only [resolve, hg]
    simp [go_sem]
  · simp [invoke, go_sem, eg]
  have hbook : ∀ {st : LoopState} {pe : Option Code} {A B : World}, (w.heap.size + 2 ≤ A.heap.size ∧ A.heap[w.heap.size + 1]? = some (.loop (rec st pe)) ∧ A.heap[w.heap.size]? = some (.deferred (some []))) → Keeps (fun k => k = b) A B →
      (w.heap.size + 2 ≤ B.heap.size ∧ B.heap[w.heap.size + 1]? = some (.loop (rec st pe)) ∧ B.heap[w.heap.size]? = some (.deferred (some []))) := by
    rintro st pe A B ⟨h2, h3, h4⟩ hk
    exact ⟨Nat.le_trans h2 hk.size, by rw [hk.block _ (by omega) (by omega)]; exact h3, by rw [hk.block _ (by omega) (by omega)]; exact h4⟩
  refine (hit (w.heap.size + 1)
    (fun pre W => I pre W ∧ w.heap.size + 2 ≤ W.heap.size ∧ W.heap[w.heap.size + 1]? = some (.loop (rec .ready none)) ∧ W.heap[w.heap.size]? = some (.deferred (some [])))
    (fun pre W => Ix pre W ∧ w.heap.size + 2 ≤ W.heap.size ∧ W.heap[w.heap.size + 1]? = some (.loop (rec .done (some .ret))) ∧ W.heap[w.heap.size]? = some (.deferred (some [])))
    W1 (hK.mono fun k _ h => h.elim) (by omega)
    (fun pre A B h hk => ⟨hI _ _ _ (by omega) h.1 (hk.mono fun k _ e => .inl e), hbook h.2 hk⟩)
    (fun pre A B h hk => ⟨hIx _ _ _ (by omega) h.1 (hk.mono fun k _ e => .inl e), hbook h.2 hk⟩)
    ?_ ⟨hI1, by omega, hL1, hK1⟩).mono ?_
  · rintro pre x rest v W hx ⟨hi, h2, hl, hd⟩ hrx
    have hy := run_yield (P := P) (args := #[v]) hl (by rw [hrec]; exact hps.symm)
    rw [hrec] at hy
    refine ⟨fn, _, assign, body, hy, roundIn_of_wpIn hfn (hassign _ v W _ ?_)⟩
    refine ⟨_, run_beginRound hl (by rw [hrec]), ?_⟩
    obtain ⟨W2, hW2⟩ : ∃ W2, W.putObj (w.heap.size + 1) (.loop { rec .ready none with state := .busy }) = W2 := ⟨_, rfl⟩
    have hk2 : Keeps (fun k => w.heap.size ≤ k) W W2 := by rw [← hW2]; exact (Keeps.refl _ _).putObj (.inl (by omega)) (by omega) _
    have hl2 : W2.heap[w.heap.size + 1]? = some (.loop { rec .ready none with state := .busy }) := by rw [← hW2]; exact World.putObj_heap_same (by omega)
    have hd2 : W2.heap[w.heap.size]? = some (.deferred (some [])) := by rw [← hW2]; exact (World.putObj_heap_other (by omega)).trans hd
    have hs2 := hk2.size
    have hrx2 : R x v W2 := hR _ _ _ _ hrx (by rw [← hW2]; exact (Keeps.refl (fun k => k = w.heap.size + 1) W).putObj (.inl rfl) (by omega) _)
    rw [hW2]
    refine wpIn_mono (hbody _ pre x rest v W2 hx (hI _ _ _ (by omega) hi (hk2.mono fun k _ h => .inr h)) hrx2 (by omega)) ?_
    have fin : ∀ (jump : Option Code) (W3 : World), Keeps T W2 W3 →
        (Instr.endRound (w.heap.size + 1) jump).run P W3 = .ok (.bool jump.isNone) (W3.putObj (w.heap.size + 1) (.loop (rec (if jump.isNone then .ready else .done) jump))) ∧
        w.heap.size + 2 ≤ W3.heap.size ∧
        (W3.putObj (w.heap.size + 1) (.loop (rec (if jump.isNone then .ready else .done) jump))).heap[w.heap.size + 1]? = some (.loop (rec (if jump.isNone then .ready else .done) jump)) ∧
        (W3.putObj (w.heap.size + 1) (.loop (rec (if jump.isNone then .ready else .done) jump))).heap[w.heap.size]? = some (.deferred (some [])) ∧
        Keeps (fun k => w.heap.size ≤ k) W3 (W3.putObj (w.heap.size + 1) (.loop (rec (if jump.isNone then .ready else .done) jump))) := fun jump W3 hk3 => by
      have hs3 := hk3.size
      have hl3 : W3.heap[w.heap.size + 1]? = some (.loop { rec .ready none with state := .busy }) := by rw [hk3.block _ (by omega) (fun h => by have := hT _ h; omega)]; exact hl2
      have hd3 : W3.heap[w.heap.size]? = some (.deferred (some [])) := by rw [hk3.block _ (by omega) (fun h => by have := hT _ h; omega)]; exact hd2
      have := run_endRound (P := P) jump hl3
      rw [hrec] at this ⊢
      exact ⟨this, by omega, World.putObj_heap_same (by omega), (World.putObj_heap_other (by omega)).trans hd3, (Keeps.refl _ _).putObj (.inl (by omega)) (by omega) _⟩
    rintro e a3 W3 hp
    cases e with
    | normal =>
      obtain ⟨hk3, hi3⟩ := hp
      obtain ⟨hr, hs4, hl4, hd4, hk4⟩ := fin none W3 hk3
      refine ⟨_, _, hr, .inl ⟨rfl, ⟨hI _ _ _ (by omega) hi3 (hk4.mono fun k _ h => .inr h), ?_, hl4, hd4⟩, ?_⟩⟩
      · have := hk4.size; omega
      · exact ((hk2.mono fun k _ h => .inr h).trans (hk3.mono fun k _ h => .inl h)).trans (hk4.mono fun k _ h => .inr h)
    | ret =>
      obtain ⟨hk3, hi3⟩ := hp
      obtain ⟨hr, hs4, hl4, hd4, hk4⟩ := fin (some .ret) W3 hk3
      refine ⟨_, _, hr, .inr ⟨rfl, hIx _ _ _ (by omega) hi3 (hk4.mono fun k _ h => .inr h), ?_, hl4, hd4⟩⟩
      have := hk4.size; omega
    | exit id => exact hp.elim
    | goto t => exact hp.elim
    | panic ch => exact hp.elim
    | outgrown => exact hp.elim
  · rintro e W2 ⟨⟨v, rfl⟩, (⟨hi, h2, hl, hd⟩ | ⟨pre, hi, h2, hl, hd⟩)⟩
    · have hr := run_endLoop (P := P) hl (by rw [hrec]; simp)
      rw [hrec] at hr
      exact ⟨none, _, hr, hdone _ (hI _ _ _ (by omega) hi ((Keeps.refl _ _).putObj (.inl (.inr (by omega))) (by omega) _)) ((World.putObj_heap_other (by omega)).trans hd)⟩
    · have hr := run_endLoop (P := P) hl (by rw [hrec]; simp)
      rw [hrec] at hr
      exact ⟨some .ret, _, hr, hstop pre _ (hIx _ _ _ (by omega) hi ((Keeps.refl _ _).putObj (.inl (.inr (by omega))) (by omega) _)) ((World.putObj_heap_other (by omega)).trans hd)⟩
end Go.Proofs.YtlgolagedgllbaaDoor
