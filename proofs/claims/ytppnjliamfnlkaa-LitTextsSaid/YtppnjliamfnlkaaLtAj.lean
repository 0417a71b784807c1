import Derived.Test.YtppnjliamfnlkaaLtP
import Derived.Deep.RegionWith
import Derived.Deep.RegionLaw
namespace Go.Proofs.Ytppnjliamfnlkaa
open Go.RowKit
set_option linter.unusedSimpArgs false
set_option linter.unusedVariables false
set_option linter.unusedSectionVars false
theorem need_no3 (e : Int) (w : World) :
    Calls Try.prog 19 #[.bool false, .int .i64 e] w fun r w' => (r = .panicked [{ v := .iface 22 (.int .i64 e), recovered := false }] ∧ w' = w) ∨ (r = .returned (.tuple #[]) ∧ w' = w ∧ False) :=
  (need_no e w).mono fun _ _ h => .inl h
set_option maxHeartbeats 12800000 in
theorem text_ends (s : ByteArray) (w : World) (h : 2 ≤ s.size) (hs : s.size ≤ 100000) (h2 : byteN s 0 ≠ byteN s (s.size - 1)) :
    Calls Try.prog 24 #[.string s] w fun e w' => e = .panicked [{ v := .iface 22 (.int .i64 4), recovered := false }] ∧ Below w.heap.size w w' := by
  have hd : decide ((2 : Int) ≤ (s.size : Int)) = true := by simp; omega
  have hx0 := str_byte s 0 (by omega)
  obtain ⟨k, hk⟩ : ∃ k, s.size - 1 = k := ⟨_, rfl⟩
  have hk1 : (s.size : Int) - 1 = (k : Int) := by omega
  have hk2 : k < s.size := by omega
  have hk3 : (k : Int) < s.size := by omega
  have hk8 : IntKind.i64.wrap (k : Int) = k := IntWalk.i64_in _ (by omega)
  have hx1 := str_byte s k hk2
  rw [hk] at h2
  generalize byteN s 0 = a at *
  generalize byteN s k = b at *
  have hne : ((a : Int) == (b : Int)) = false := by simp; omega
  have hne2 : (a == b) = false := by simp; omega
  have h0 : 0 < s.size := by omega
  have h0' : (0 : Int) < s.size := by omega
  clear hk
  go_enter Try.func24, Try.ntmps24
  go_wp2_with fail
  go_region_law (go_simp; go_at_call 19; refine (need_no3 _ _).mono ?_; rintro e w2 (⟨rfl, rfl⟩ | ⟨rfl, rfl, hff⟩); exact ⟨rfl, rfl, (Below.refl _ _).drew⟩)
  all_goals (exact hff.elim)
end Go.Proofs.Ytppnjliamfnlkaa
