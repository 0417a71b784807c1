import Derived.Test.YtppnjliamfnlkaaLtAr
import Derived.Test.YtppnjliamfnlkaaReg
import Derived.BigQuiet
import Derived.Laws.IdiomStrings
namespace Go.Proofs.Ytppnjliamfnlkaa
open Go.RowKit
set_option linter.unusedSimpArgs false
set_option linter.unusedVariables false
set_option linter.unusedSectionVars false

/-! The document's Text: what is no text. -/
def TextRP (w : World) (n : Nat) (e : Ending) (w' : World) : Prop := e = .returned (.tuple #[.string ⟨#[]⟩, .int .i64 (n : Int)]) ∧ Below w.heap.size w w'
set_option maxHeartbeats 3200000 in
theorem reftext_long (s : ByteArray) (w : World) (h : 65536 < s.size) :
    Calls Try.prog 14 #[.string s] w (TextRP w 12) := by
  have d1 : decide ((65536 : Int) < (s.size : Int)) = true := by simp; omega
  have d2 : decide (65536 < s.size) = true := by simp; omega
  go_enter Try.func14, Try.ntmps14
  go_wp2_with fail
  go_ret2
  exact ⟨rfl, Below.refl _ _⟩
set_option maxHeartbeats 3200000 in
theorem reftext_short (s : ByteArray) (w : World) (h : s.size < 2) :
    Calls Try.prog 14 #[.string s] w (TextRP w 4) := by
  have d1 : decide ((65536 : Int) < (s.size : Int)) = false := by simp; omega
  have d2 : decide (65536 < s.size) = false := by simp; omega
  have d3 : decide ((s.size : Int) < 2) = true := by simp; omega
  have d4 : decide (s.size < 2) = true := by simp; omega
  have hI0 : Hid (InvC w [] w.drew) := Lib.hid (InvC.start (Below.refl _ _) (by simp))
  go_enter Try.func14, Try.ntmps14
  go_wp2_with fail
  have hne5 : Nonempty (Wld (InvC w [])) := ⟨⟨_, hI0.out⟩⟩
  refine wp_region_inv (InvC w []) (by kernel_rfl) (by kernel_rfl) hI0.out ?_
  repeat (go_big_quiet_step (fail))
  refine wpQuiet_nil ?_
  intro w6 hw6
  have HI6 : Hid (InvC w [] w6) := by obtain ⟨i, rfl⟩ := hw6; exact i.ok
  clear hw6 hne5
  go_wp2_with fail
  go_ret2
  exact ⟨rfl, HI6.out.1⟩
set_option maxHeartbeats 3200000 in
theorem reftext_ends (s : ByteArray) (w : World) (hs : s.size ≤ 65536) (h : 2 ≤ s.size) (hne : byteN s 0 ≠ byteN s (s.size - 1)) :
    Calls Try.prog 14 #[.string s] w (TextRP w 4) := by
  have d1 : decide ((65536 : Int) < (s.size : Int)) = false := by simp; omega
  have d2 : decide (65536 < s.size) = false := by simp; omega
  have d3 : decide ((s.size : Int) < 2) = false := by simp; omega
  have d4 : decide (s.size < 2) = false := by simp; omega
  have hx0 := str_byte s 0 (by omega)
  obtain ⟨k, hk⟩ : ∃ k, s.size - 1 = k := ⟨_, rfl⟩
  have hkI : (s.size : Int) - 1 = (k : Int) := by omega
  have hk2 : k < s.size := by omega
  have hk3 : (k : Int) < s.size := by omega
  have hx1 := str_byte s k hk2
  have h00 : 0 < s.size := by omega
  have h00' : (0 : Int) < s.size := by omega
  rw [hk] at hne
  generalize byteN s 0 = a at *
  generalize byteN s k = b at *
  have e1 : ((a : Int) == (b : Int)) = false := by simp; omega
  have e2 : (a == b) = false := by simp; omega
  have e3 : ((a : Int) != (b : Int)) = true := by simp [bne, e1]
  have e4 : (a != b) = true := by simp [bne, e2]
  have e5 : (!decide ((a : Int) = (b : Int))) = true := by simp; omega
  have e6 : (!decide (a = b)) = true := by simp; omega
  have e7 : decide (a = b) = false := by simp; omega
  have e8 : decide ((a : Int) = (b : Int)) = false := by simp; omega
  clear hk
  have hI0 : Hid (InvC w [] w.drew) := Lib.hid (InvC.start (Below.refl _ _) (by simp))
  go_enter Try.func14, Try.ntmps14
  go_wp2_with fail
  have hne5 : Nonempty (Wld (InvC w [])) := ⟨⟨_, hI0.out⟩⟩
  refine wp_region_inv (InvC w []) (by kernel_rfl) (by kernel_rfl) hI0.out ?_
  repeat (go_big_quiet_step (fail))
  refine wpQuiet_nil ?_
  intro w6 hw6
  have HI6 : Hid (InvC w [] w6) := by obtain ⟨i, rfl⟩ := hw6; exact i.ok
  clear hw6 hne5
  go_wp2_with fail
  go_ret2
  exact ⟨rfl, HI6.out.1⟩

set_option maxHeartbeats 3200000 in
theorem reftext_other (s : ByteArray) (w : World) (hs : s.size ≤ 65536) (h : 2 ≤ s.size) (heq : byteN s 0 = byteN s (s.size - 1)) (h34 : byteN s 0 ≠ 34) (h96 : byteN s 0 ≠ 96) :
    Calls Try.prog 14 #[.string s] w (TextRP w 4) := by
  have d1 : decide ((65536 : Int) < (s.size : Int)) = false := by simp; omega
  have d2 : decide (65536 < s.size) = false := by simp; omega
  have d3 : decide ((s.size : Int) < 2) = false := by simp; omega
  have d4 : decide (s.size < 2) = false := by simp; omega
  have hx0 := str_byte s 0 (by omega)
  obtain ⟨k, hk⟩ : ∃ k, s.size - 1 = k := ⟨_, rfl⟩
  have hkI : (s.size : Int) - 1 = (k : Int) := by omega
  have hk2 : k < s.size := by omega
  have hk3 : (k : Int) < s.size := by omega
  have hx1 := str_byte s k hk2
  have h00 : 0 < s.size := by omega
  have h00' : (0 : Int) < s.size := by omega
  rw [hk] at heq
  rw [← heq] at hx1
  generalize byteN s 0 = a at *
  have e0 : ((a : Int) == (a : Int)) = true := by simp
  have e1 : ((a : Int) == 34) = false := by simp; omega
  have e2 : ((a : Int) == 96) = false := by simp; omega
  have e3 : ((a : Int) != 34) = true := by simp [bne, e1]
  have e4 : ((a : Int) != 96) = true := by simp [bne, e2]
  have e7 : decide ((a : Int) = 34) = false := by simp; omega
  have e8 : decide ((a : Int) = 96) = false := by simp; omega
  clear hk heq h34 h96
  have hI0 : Hid (InvC w [] w.drew) := Lib.hid (InvC.start (Below.refl _ _) (by simp))
  go_enter Try.func14, Try.ntmps14
  go_wp2_with fail
  have hne5 : Nonempty (Wld (InvC w [])) := ⟨⟨_, hI0.out⟩⟩
  refine wp_region_inv (InvC w []) (by kernel_rfl) (by kernel_rfl) hI0.out ?_
  repeat (go_big_quiet_step (fail))
  refine wpQuiet_nil ?_
  intro w6 hw6
  have HI6 : Hid (InvC w [] w6) := by obtain ⟨i, rfl⟩ := hw6; exact i.ok
  clear hw6 hne5
  go_wp2_with fail
  go_ret2
  exact ⟨rfl, HI6.out.1⟩
end Go.Proofs.Ytppnjliamfnlkaa
