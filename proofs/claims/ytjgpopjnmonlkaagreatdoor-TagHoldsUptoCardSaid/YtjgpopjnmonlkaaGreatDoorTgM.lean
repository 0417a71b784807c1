import Derived.Test.YtjgpopjnmonlkaaGreatDoorTgL
import Derived.Shelf.Strings.SlTrimAscii
import Derived.Maps.AppendAt
namespace Go.Proofs.YtjgpopjnmonlkaaGreatDoor
open Go.RowKit Go.Shelf
set_option linter.unusedSimpArgs false
set_option linter.unusedVariables false
set_option linter.unusedSectionVars false

/-! Layer 5: the reader: what was not read yet. -/
def bs (l : List UInt8) : ByteArray := ⟨l.toArray⟩
theorem bs_size (l : List UInt8) : (bs l).size = l.length := by simp [bs, ByteArray.size]
theorem bs_list (l : List UInt8) : (bs l).data.toList = l := rfl
theorem bs_of (s : ByteArray) : s = bs s.data.toList := by
  apply ByteArray.ext; apply Array.toList_inj.1; rfl
/-- A reader in memory. -/
def RdAt (W : World) (rb : Nat) (l : List UInt8) (d : Nat) : Prop := W.heap[rb]? = some (.cells #[.string (bs l), .int .i64 (d : Int)] 59 (0, 0))
theorem grow_of {w w' : World} (hb : Below w.heap.size w w') (row : Option Nat) : w.grownBy w' row := ⟨hb.os, hb.tape, hb.output, hb.size, fun j hj _ => hb.block j hj⟩
theorem RdAt.below {W W' : World} {rb d : Nat} {l : List UInt8} (h : RdAt W rb l d) (hb : Below W.heap.size W W') : RdAt W' rb l d := by
  unfold RdAt at h ⊢
  rw [hb.block rb (lt_of_block h)]
  exact h
theorem rd_set0 {W : World} {rb d : Nat} {l : List UInt8} (h : RdAt W rb l d) (l2 : List UInt8) : RdAt (W.setCell ⟨rb, 0, none⟩ (.string (bs l2))) rb l2 d ∧ W.grownBy (W.setCell ⟨rb, 0, none⟩ (.string (bs l2))) (some rb) := by
  refine ⟨?_, ⟨rfl, rfl, rfl, by simp, fun k _ hk => heap_setCell_other W ⟨rb, 0, none⟩ k _ (fun e => hk (by simp [e]))⟩⟩
  unfold RdAt at h ⊢
  rw [heap_setCell_same W rb 0 _ _ _ h]
  rfl
theorem rd_set1 {W : World} {rb d : Nat} {l : List UInt8} (h : RdAt W rb l d) (d2 : Nat) : RdAt (W.setCell ⟨rb, 1, none⟩ (.int .i64 (d2 : Int))) rb l d2 ∧ W.grownBy (W.setCell ⟨rb, 1, none⟩ (.int .i64 (d2 : Int))) (some rb) := by
  refine ⟨?_, ⟨rfl, rfl, rfl, by simp, fun k _ hk => heap_setCell_other W ⟨rb, 1, none⟩ k _ (fun e => hk (by simp [e]))⟩⟩
  unfold RdAt at h ⊢
  rw [heap_setCell_same W rb 1 _ _ _ h]
  rfl
theorem trim_skip (l : List UInt8) : Lib.trimLeftS l [32, 9] = skipF l := by
  unfold Lib.trimLeftS skipF
  congr 1
  funext b
  simp [List.contains_cons]
  rfl
theorem trimLeft_v (l : List UInt8) (w : World) : Calls Tryz.prog 57 #[.string (bs l), .string ⟨#[32, 9]⟩] w fun e w' => e = .returned (.string (bs (skipF l))) ∧ Below w.heap.size w w' := by
  have h := Any.strings_TrimLeft_laid Tryz.lays161 (by kernel_rfl) (bs l) ⟨#[32, 9]⟩ w (by decide) (by
    intro j b hb
    have hm := List.mem_of_getElem? hb
    have : b = 32 ∨ b = 9 := by simpa using hm
    rcases this with rfl | rfl <;> decide)
  have e : (⟨(Lib.trimLeftS (bs l).data.toList (⟨#[32, 9]⟩ : ByteArray).data.toList).toArray⟩ : ByteArray) = bs (skipF l) := by
    show bs (Lib.trimLeftS l [32, 9]) = _
    rw [trim_skip]
  rw [e] at h
  exact h
set_option maxHeartbeats 1600000 in
theorem skip_v (rb : Nat) (l : List UInt8) (d : Nat) (W : World) (h : RdAt W rb l d) :
    Calls Tryz.prog 43 #[.pointer (some ⟨rb, 0, none⟩)] W fun e w' => e = .returned (.string (bs (skipF l))) ∧ RdAt w' rb (skipF l) d ∧ W.grownBy w' (some rb) := by
  have c0 := cell_of h 0
  have hlt := lt_of_block h
  have HT := Lib.hid (fun w => trimLeft_v l w)
  have HR := Lib.hid (fun (w' : World) (hb : Below W.heap.size W w') => rd_set0 (h.below hb) (skipF l))
  have HF := Lib.hid (fun (w' : World) (hb : Below W.heap.size W w') => free_of (h.below hb) 0)
  have HC0 := Lib.hid (fun (w' : World) (hb : Below W.heap.size W w') => cell_of (h.below hb) 0)
  have HZ := Lib.hid (fun (w' : World) (hb : Below W.heap.size W w') => cell_of (rd_set0 (h.below hb) (skipF l)).1 0)
  have hgw := fun (w' : World) (hb : Below W.heap.size W w') => (grow_of hb (some rb)).trans (rd_set0 (h.below hb) (skipF l)).2
  have HW := Lib.hid hgw
  clear h hgw
  generalize skipF l = l2 at *
  generalize hs2 : bs l2 = s2 at *
  generalize bs l = s at *
  have HS2 := Lib.hid hs2
  clear hs2
  go_enter Tryz.func43, Tryz.ntmps43
  go_wp2_with (go_at_call 57; with_reducible refine Calls.mono (HT.out _) ?_; rintro e w2 ⟨rfl, hb2⟩; have HB := Lib.hid hb2; clear hb2; have d0 := HC0.out _ HB.out; have f0 := HF.out _ HB.out; have z0 := HZ.out _ HB.out)
  all_goals go_ret
  all_goals exact ⟨by first | rfl | simp, (HR.out _ HB.out).1, HW.out _ HB.out⟩
end Go.Proofs.YtjgpopjnmonlkaaGreatDoor
