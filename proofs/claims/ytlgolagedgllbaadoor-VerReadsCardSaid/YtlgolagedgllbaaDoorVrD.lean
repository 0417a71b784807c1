import Derived.Test.YtlgolagedgllbaaDoorVrC
import Derived.Test.YtlgolagedgllbaaDoorVrL
import Derived.Shelf.Abstract
import Derived.OwnWalkIn
import Derived.TacticsInMore
import Derived.LoopNIn
import Derived.LoopIn
namespace Go.Proofs.YtlgolagedgllbaaDoor
open Go.RowKit Go.Shelf
set_option linter.unusedSimpArgs false
set_option linter.unusedVariables false
set_option linter.unusedSectionVars false
attribute [local go_sem] Oper.semAt_some

/-! Layer 4: what stands between strokes. -/
def partsV : Nat → ByteArray → List ByteArray
  | 0, s => [s]
  | f + 1, s => if 0 ≤ Lib.indexByte s.data.toList 47 then s.extract 0 (Lib.indexByte s.data.toList 47).toNat :: partsV f (s.extract ((Lib.indexByte s.data.toList 47).toNat + 1) s.size) else [s]
/-- What a cell with a text in it holds. -/
def Str (w : World) (b : Nat) (s : ByteArray) : Prop := w.heap[b]? = some (.cells #[.string s] 9 (0, 0))
def strLeft (w : World) (b : Nat) : Nat := match w.cell? ⟨b, 0, none⟩ with
  | some (.string s) => s.size
  | _ => 0
theorem Str.cell {w : World} {b : Nat} {s : ByteArray} (h : Str w b s) : w.cell? ⟨b, 0, none⟩ = some (.string s) := cell_of h 0
theorem Str.lft {w : World} {b : Nat} {s : ByteArray} (h : Str w b s) : strLeft w b = s.size := by unfold strLeft; rw [h.cell]
theorem Str.free {w : World} {b : Nat} {s : ByteArray} (h : Str w b s) : w.frozen? ⟨b, 0, none⟩ = false := free_of h 0
theorem Str.set {w : World} {b : Nat} {s : ByteArray} (h : Str w b s) (r : ByteArray) : Str (w.setCell ⟨b, 0, none⟩ (.string r)) b r := heap_setCell h (.string r)
theorem Str.keep {S : Nat → Prop} {w w' : World} {b : Nat} {s : ByteArray} (h : Str w b s) (hk : Keeps S w w') (hb : ¬ S b) : Str w' b s := (hk.block b (lt_of_block h) hb).trans h
theorem Str.lt {w : World} {b : Nat} {s : ByteArray} (h : Str w b s) : b < w.heap.size := lt_of_block h
theorem idx_lt (l : List UInt8) (c : UInt8) : Lib.indexByte l c < l.length ∨ Lib.indexByte l c = -1 := by
  by_cases h : Lib.indexByte l c = -1
  · exact .inr h
  · have hge := Lib.indexByte_ge l c
    obtain ⟨o, ho⟩ : ∃ o : Nat, Lib.indexByte l c = o := ⟨(Lib.indexByte l c).toNat, by omega⟩
    obtain ⟨h1, _⟩ := Lib.indexByte_some ho
    have := (List.getElem?_eq_some_iff.1 h1).1
    exact .inl (by omega)

set_option maxRecDepth 100000 in
set_option maxHeartbeats 3200000 in
theorem split_iter (n : Nat) (hn : 1 ≤ n) (sB b zB : Nat) (s : ByteArray) (T : Nat → Prop) (w : World) (hs : s.size ≤ 1000000) (h1 : Str w sB ⟨#[47]⟩) (h2 : Str w b s) (h3 : w.heap[zB]? = some (.cells #[.int .i64 0] 3 (0, 0)))
    (t1 : ¬ T sB) (t2 : ¬ T b) (t3 : ¬ T zB) (n12 : sB ≠ b) (n32 : zB ≠ b) :
    IterB Tryd.prog n 48 #[.pointer (some ⟨sB, 0, none⟩), .pointer (some ⟨b, 0, none⟩), .pointer (some ⟨zB, 0, none⟩)] (fun (x : ByteArray) v _ => v = .string x) (partsV s.size s) b T w := by
  intro l J Jx W hW _ hJ hJx hY h0
  have s1 := h1.lt
  have s2 := h2.lt
  have s3 := lt_of_block h3
  have g1 := h1.keep hW t1
  have g2 := h2.keep hW t2
  have g3 := (hW.block _ s3 t3).trans h3
  refine callsIn_of_wp Tryd.func48 rfl trivial ?_ rfl
  simp only [Tryd.ntmps48, List.size_toArray, List.length_cons, List.length_nil, Nat.reduceAdd, Nat.reduceSub, Array.replicate_succ, Array.replicate_zero, List.push_toArray, List.append_toArray, List.nil_append, List.cons_append]
  have c1 := g1.cell
  gi_wp2
  gi_loopw [7] (fun _ wr => ∃ (pre : List ByteArray) (f : Nat) (r : ByteArray), partsV s.size s = pre ++ partsV f r ∧ r.size ≤ f ∧ r.size ≤ s.size ∧ Str wr b r ∧ Str wr sB ⟨#[47]⟩ ∧ wr.heap[zB]? = some (.cells #[.int .i64 0] 3 (0, 0)) ∧ J pre wr) (fun _ wr => strLeft wr b)
  case atStart => exact ⟨[], s.size, s, rfl, Nat.le_refl _, Nat.le_refl _, g2, g1, g3, h0⟩
  case round =>
    obtain ⟨pre, f, r, hx, hf, hrs, k2, k1, k3, hJp⟩ := hrel
    clear g1 g2 g3 c1
    have hI := fun w => Tryd.strings_Index_one r 47 w
    have kc1 := k1.cell
    have kc2 := k2.cell
    have kc3 : wr.cell? ⟨zB, 0, none⟩ = some (.int .i64 0) := cell_of k3 0
    by_cases hno : Lib.indexByte r.data.toList 47 = -1
    · have hp : partsV f r = [r] := by
        cases f with
        | zero => rfl
        | succ f => rw [partsV, hno, if_neg (by decide)]
      rw [hp] at hx
      obtain ⟨fn, tm, asg, body, hy, hR⟩ := hY pre r [] _ wr hx hJp rfl
      (try dsimp only at hy)
      rw [hno] at hI
      clear k1 k2 k3 hp
      gi_wp2_with (refine ⟨trivial, ?_⟩; gi_at_call 50; refine (callsIn_wide.2 (hI _)).mono ?_; rintro e w2 ⟨rfl, hw2⟩; replace hw2 := hw2.symm; subst hw2)
      refine hR.mono ?_
      rintro e W' (⟨rfl, hJ2, _⟩ | ⟨rfl, hx2⟩)
      · gi_wp2
        go_end0
        exact ⟨⟨_, rfl⟩, .inl (by rw [hx]; exact hJ2)⟩
      · gi_wp2
        go_end0
        exact ⟨⟨_, rfl⟩, .inr ⟨_, hx2⟩⟩
    · have hlt := (idx_lt r.data.toList 47).resolve_right hno
      have hge := Lib.indexByte_ge r.data.toList 47
      obtain ⟨i, hi⟩ : ∃ i : Nat, Lib.indexByte r.data.toList 47 = i := ⟨(Lib.indexByte r.data.toList 47).toNat, by omega⟩
      rw [hi] at hI hlt
      have hlr : r.data.toList.length = r.size := by simp
      have hir : i < r.size := by omega
      obtain ⟨f, rfl⟩ : ∃ g, f = g + 1 := ⟨f - 1, by omega⟩
      have hp : partsV (f + 1) r = r.extract 0 i :: partsV f (r.extract (i + 1) r.size) := by rw [partsV, hi, if_pos (by omega), Int.toNat_natCast]
      rw [hp] at hx
      obtain ⟨fn, tm, asg, body, hy, hR⟩ := hY pre (r.extract 0 i) _ _ wr hx hJp rfl
      have hil : i ≤ r.size := by omega
      have hilI : (i : Int) ≤ (r.size : Int) := by omega
      have hi1 : i + 1 ≤ r.size := by omega
      have hi1I : (i : Int) + 1 ≤ (r.size : Int) := by omega
      have hK1 := Lib.hid k1
      have hK2 := Lib.hid k2
      have hK3 := Lib.hid k3
      clear k1 k2 k3 hp
      gi_wp2_with (refine ⟨trivial, ?_⟩; gi_at_call 50; refine (callsIn_wide.2 (hI _)).mono ?_; rintro e w2 ⟨rfl, hw2⟩; replace hw2 := hw2.symm; subst hw2)
      refine hR.mono ?_
      rintro e W' (⟨rfl, hJ2, hk⟩ | ⟨rfl, hx2⟩)
      · have m1 := hK1.out.keep hk (fun h => h.elim t1 (by omega))
        have m2 := hK2.out.keep hk (fun h => h.elim t2 (by omega))
        have m3 := (hk.block zB (lt_of_block hK3.out) (fun h => h.elim t3 (by omega))).trans hK3.out
        have M1 := Lib.hid m1
        have M2 := Lib.hid m2
        have M3 := Lib.hid m3
        have mc1 := m1.cell
        have mc2 := m2.cell
        have mf2 := m2.free
        have mc3 : W'.cell? ⟨zB, 0, none⟩ = some (.int .i64 0) := cell_of m3 0
        have hks : ∀ v, Keeps (fun k => k = b) W' (W'.setCell ⟨b, 0, none⟩ v) := fun v => (Keeps.refl (fun k => k = b) W').setCell (p := ⟨b, 0, none⟩) (.inl rfl) v
        have HKS := Lib.hid hks
        clear m1 m2 m3 hks hk kc1 kc2 kc3 hI
        gi_wp2
        go_roundw
        case rel => exact ⟨pre ++ [r.extract 0 i], f, r.extract (i + 1) r.size, by rw [hx]; simp, by simp; omega, by simp; omega, M2.out.set _, M1.out.keep (HKS.out _) n12, ((HKS.out _).block zB (lt_of_block M3.out) n32).trans M3.out, hJ _ _ _ hJ2 (HKS.out _)⟩
        case measure => rw [(M2.out.set _).lft, hK2.out.lft]; simp; omega
      · gi_wp2
        refine bodyPost_ret (results_none rfl _ _ _) rfl ?_
        exact ⟨⟨_, rfl⟩, .inr ⟨_, hx2⟩⟩
end Go.Proofs.YtlgolagedgllbaaDoor
