import Derived.Test.YtppnjliamfnlkaaLtC
import Derived.Defers
import Derived.Recover
import Derived.Laws.Pointers
namespace Go.Proofs.Ytppnjliamfnlkaa
open Go.RowKit
set_option linter.unusedSimpArgs false
set_option linter.unusedVariables false
set_option linter.unusedSectionVars false

/-! Layer 3: answer, with its deferred closure. -/
theorem resA {tmps : Array Value} {w : World} {A : Nat} {v0 v1 : Value} (t0 : tmps[2]? = some (.pointer (some ⟨A, 0, none⟩))) (t1 : tmps[3]? = some (.pointer (some ⟨A + 1, 0, none⟩)))
    (c0 : w.cell? ⟨A, 0, none⟩ = some v0) (c1 : w.cell? ⟨A + 1, 0, none⟩ = some v1) :
    (results Try.f17 tmps).run Try.prog w = .ok (.tuple #[v0, v1]) w := by
  simp [results, Try.results17, go_sem, t0, t1, c0, c1]

set_option maxHeartbeats 1600000 in
theorem caught (A : Nat) (va vb : Value) (n : Int) (older : List PanicEntry) (w : World)
    (h0 : ∃ t, w.heap[A]? = some (.cells #[va] t (0, 0))) (h1 : ∃ t, w.heap[A + 1]? = some (.cells #[vb] t (0, 0))) :
    CallsD Try.prog 27 #[.pointer (some ⟨A, 0, none⟩), .pointer (some ⟨A + 1, 0, none⟩)] (.panicking ({ v := .iface 22 (.int .i64 n), recovered := false } :: older)) w fun e u' w' =>
      e = .returned (.tuple #[]) ∧ u' = .panicking ({ v := .iface 22 (.int .i64 n), recovered := true } :: older) ∧ w' = ((w.setCell ⟨A, 0, none⟩ (.string ⟨#[]⟩)).setCell ⟨A + 1, 0, none⟩ (.int .i64 4)).setCell ⟨A + 1, 0, none⟩ (.int .i64 n) := by
  refine callsD_of_wpS Try.func27 rfl fun c₀ cs hu => ?_
  apply wpS_seq
  apply wpS_region
  simp [wpOpsS, go_sem, recoverD, hu, Try.ntmps27, Exit.thenS]
  refine wpS_of_wp ?_
  have hz : #[Value.pointer (some ⟨A, 0, none⟩), .pointer (some ⟨A + 1, 0, none⟩)] ++
          ((Array.replicate 13 undef).setIfInBounds 3 (Value.iface 22 (Value.int IntKind.i64 n))).setIfInBounds 0
            (Value.iface 22 (Value.int IntKind.i64 n)) = #[.pointer (some ⟨A, 0, none⟩), .pointer (some ⟨A + 1, 0, none⟩), .iface 22 (.int .i64 n), undef, undef, .iface 22 (.int .i64 n), undef, undef, undef, undef, undef, undef, undef, undef, undef] := rfl
  rw [hz]
  clear hz
  have hta : ∀ w, (Instr.typeAssert (.iface 22 (.int .i64 n)) 20 22 true).run Try.prog w = .ok (.tuple #[.int .i64 n, .bool true]) w := fun _ => by kernel_rfl
  obtain ⟨t0, h0⟩ := h0
  obtain ⟨t1, h1⟩ := h1
  have a0 := cell_of h0 0
  have a1 := cell_of h1 0
  have b0 := free_of h0 0
  have b1 := free_of h1 0
  go_wp2_with fail
  exact ⟨rfl, _, rfl, _, results_none rfl _ _ _, rfl, rfl, rfl⟩

set_option maxHeartbeats 400000 in
theorem idle (a b : Value) (w : World) :
    CallsD Try.prog 27 #[a, b] .returning w fun e u' w' => e = .returned (.tuple #[]) ∧ u' = .returning ∧ w' = w := by
  refine callsD_of_wpS Try.func27 rfl fun c₀ cs hu => ?_
  apply wpS_seq
  apply wpS_region
  simp [wpOpsS, go_sem, recoverD, hu, Try.ntmps27, Exit.thenS]
  refine wpS_of_wp ?_
  have hz : #[a, b] ++ ((Array.replicate 13 undef).setIfInBounds 3 Value.nilIface).setIfInBounds 0 Value.nilIface = #[a, b, .nilIface, undef, undef, .nilIface, undef, undef, undef, undef, undef, undef, undef, undef, undef] := rfl
  rw [hz]
  clear hz
  go_wp2_with fail
  refine ⟨rfl, .returning, ?_, _, results_none rfl _ _ _, rfl, rfl, rfl⟩
  cases c₀
  simp at hu
  subst hu
  rfl
end Go.Proofs.Ytppnjliamfnlkaa
