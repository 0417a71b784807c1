import Derived.Test.YtppnjliamfnlkaaLtAf
import Derived.Test.YtppnjliamfnlkaaLtAg
namespace Go.Proofs.Ytppnjliamfnlkaa
open Go.RowKit
set_option linter.unusedSimpArgs false
set_option linter.unusedVariables false
set_option linter.unusedSectionVars false

/-! Layer 3: text's other ways. -/
set_option maxHeartbeats 6400000 in
theorem text_wrong (s : ByteArray) (w : World) (h : 2 ≤ s.size) (hs : s.size ≤ 100000) (h3 : byteN s 0 = byteN s (s.size - 1)) (hw : 0 ≤ wrongF s) :
    Calls Try.prog 24 #[.string s] w fun e w' => e = .panicked [{ v := .iface 22 (.int .i64 4), recovered := false }] ∧ Below w.heap.size w w' := by
  have hd : decide ((2 : Int) ≤ (s.size : Int)) = true := by simp; omega
  have hx0 := str_byte s 0 (by omega)
  obtain ⟨k, hk⟩ : ∃ k, s.size - 1 = k := ⟨_, rfl⟩
  have hk1 : (s.size : Int) - 1 = (k : Int) := by omega
  have hk2 : k < s.size := by omega
  have hk3 : (k : Int) < s.size := by omega
  have hk4 : 1 ≤ k := by omega
  have hk5 : (1 : Int) ≤ k := by omega
  have hk6 : (k : Int) ≤ s.size := by omega
  have hk7 : k ≤ s.size := by omega
  have hk8 : IntKind.i64.wrap (k : Int) = k := IntWalk.i64_in _ (by omega)
  have hx1 := str_byte s k hk2
  rw [hk] at h3
  rw [← h3] at hx1
  have h0 : 0 < s.size := by omega
  have h0' : (0 : Int) < s.size := by omega
  have hcv := fun w => run_bytes_of_string (P := Try.prog) w 9 32 5 s Try.underlying9 Try.underlying32 Try.underlying5
  generalize byteN s 0 = c at *
  clear h3 hk
  go_enter Try.func24, Try.ntmps24
  go_wp2_with fail
  have hI0 : InvC w [] w.drew := InvC.start (Below.refl _ _) (by simp)
  have hne5 : Nonempty (Wld (InvC w [])) := ⟨⟨_, hI0⟩⟩
  refine wp_region_inv (InvC w []) (by kernel_rfl) (by kernel_rfl) hI0 ?_
  clear hI0
  repeat (go_big_quiet_step ((go_at_call 19; exact Calls.inv_same (need_yes2 _ _))))
  refine wpQuiet_nil ?_
  intro w6 hw6
  have HB6 : Hid (Below w.heap.size w w6) := by obtain ⟨i, rfl⟩ := hw6; exact i.ok.1
  clear hw6 hne5
  have hcv6 := hcv w6
  have hge := grownCap_ge w6 s.size 0 5
  generalize grownCap w6 s.size 0 5 = gc at *
  have hbs := bytesRow_bsl s w6.drew gc hge ((bytesRow s gc).size, (bytesRow s gc).size + 1)
  have hb7 : Below w6.heap.size w6 (w6.drew.alloc (.cells (bytesRow s gc) 5 ((bytesRow s gc).size, (bytesRow s gc).size + 1))) := (Below.refl _ _).drew.alloc (Nat.le_refl _) _
  have hwr := wrong_b (some ⟨w6.heap.size, 0, none⟩) gc s _ hbs (by omega)
  have HB7 := Lib.hid hb7
  generalize w6.drew.alloc (.cells (bytesRow s gc) 5 ((bytesRow s gc).size, (bytesRow s gc).size + 1)) = w7 at *
  clear hbs hb7 hcv hge
  have hwn : decide (wrongF s < 0) = false := by simpa using hw
  generalize wrongF s = wf at *
  go_wp2_with (first
                        | (go_at_call 32; with_reducible refine Calls.mono hwr ?_; rintro e w8 ⟨rfl, hb8⟩; have HB8 := Lib.hid hb8; clear hb8 hwr)
                        | (go_at_call 19; with_reducible refine Calls.mono (need_no _ _) ?_; rintro e w9 ⟨rfl, hw9⟩; replace hw9 := hw9.symm; subst hw9))
  exact ⟨rfl, rfl, (HB6.out.trans (HB7.out.mono HB6.out.size)).trans (HB8.out.mono (Nat.le_trans HB6.out.size HB7.out.size))⟩
set_option maxHeartbeats 6400000 in
theorem text_other (s : ByteArray) (w : World) (h : 2 ≤ s.size) (hs : s.size ≤ 100000) (h3 : byteN s 0 = byteN s (s.size - 1)) (hw : wrongF s < 0) (h96 : byteN s 0 ≠ 96) (h34 : byteN s 0 ≠ 34) :
    Calls Try.prog 24 #[.string s] w fun e w' => e = .panicked [{ v := .iface 22 (.int .i64 4), recovered := false }] ∧ Below w.heap.size w w' := by
  have hd : decide ((2 : Int) ≤ (s.size : Int)) = true := by simp; omega
  have hx0 := str_byte s 0 (by omega)
  obtain ⟨k, hk⟩ : ∃ k, s.size - 1 = k := ⟨_, rfl⟩
  have hk1 : (s.size : Int) - 1 = (k : Int) := by omega
  have hk2 : k < s.size := by omega
  have hk3 : (k : Int) < s.size := by omega
  have hk4 : 1 ≤ k := by omega
  have hk5 : (1 : Int) ≤ k := by omega
  have hk6 : (k : Int) ≤ s.size := by omega
  have hk7 : k ≤ s.size := by omega
  have hk8 : IntKind.i64.wrap (k : Int) = k := IntWalk.i64_in _ (by omega)
  have hx1 := str_byte s k hk2
  rw [hk] at h3
  rw [← h3] at hx1
  have h0 : 0 < s.size := by omega
  have h0' : (0 : Int) < s.size := by omega
  have hcv := fun w => run_bytes_of_string (P := Try.prog) w 9 32 5 s Try.underlying9 Try.underlying32 Try.underlying5
  generalize byteN s 0 = c at *
  have m1 : ((c : Int) == 96) = false := by simp; omega
  have m2 : ((c : Int) == 34) = false := by simp; omega
  clear h3 hk
  go_enter Try.func24, Try.ntmps24
  go_wp2_with fail
  have hI0 : InvC w [] w.drew := InvC.start (Below.refl _ _) (by simp)
  have hne5 : Nonempty (Wld (InvC w [])) := ⟨⟨_, hI0⟩⟩
  refine wp_region_inv (InvC w []) (by kernel_rfl) (by kernel_rfl) hI0 ?_
  clear hI0
  repeat (go_big_quiet_step ((go_at_call 19; exact Calls.inv_same (need_yes2 _ _))))
  refine wpQuiet_nil ?_
  intro w6 hw6
  have HB6 : Hid (Below w.heap.size w w6) := by obtain ⟨i, rfl⟩ := hw6; exact i.ok.1
  clear hw6 hne5
  have hcv6 := hcv w6
  have hge := grownCap_ge w6 s.size 0 5
  generalize grownCap w6 s.size 0 5 = gc at *
  have hbs := bytesRow_bsl s w6.drew gc hge ((bytesRow s gc).size, (bytesRow s gc).size + 1)
  have hb7 : Below w6.heap.size w6 (w6.drew.alloc (.cells (bytesRow s gc) 5 ((bytesRow s gc).size, (bytesRow s gc).size + 1))) := (Below.refl _ _).drew.alloc (Nat.le_refl _) _
  have hwr := wrong_b (some ⟨w6.heap.size, 0, none⟩) gc s _ hbs (by omega)
  have HB7 := Lib.hid hb7
  generalize w6.drew.alloc (.cells (bytesRow s gc) 5 ((bytesRow s gc).size, (bytesRow s gc).size + 1)) = w7 at *
  clear hbs hb7 hcv hge
  have hwn : decide (wrongF s < 0) = true := by simpa using hw
  generalize wrongF s = wf at *
  go_wp2_with (first
                        | (go_at_call 32; with_reducible refine Calls.mono hwr ?_; rintro e w8 ⟨rfl, hb8⟩; have HB8 := Lib.hid hb8; clear hb8 hwr)
                        | (go_at_call 19; with_reducible refine Calls.mono (need_yes2 _ _) ?_; rintro e w9 ⟨rfl, hw9⟩; replace hw9 := hw9.symm; subst hw9))
  exact ⟨rfl, rfl, (HB6.out.trans (HB7.out.mono HB6.out.size)).trans (HB8.out.mono (Nat.le_trans HB6.out.size HB7.out.size))⟩
set_option maxHeartbeats 6400000 in
theorem text_raw_no (s : ByteArray) (w : World) (h : 2 ≤ s.size) (hs : s.size ≤ 100000) (h2 : byteN s 0 = 96) (h3 : byteN s (s.size - 1) = 96) (hw : wrongF s < 0) (hc : 0 ≤ Lib.indexByte (inner s).data.toList 96) :
    Calls Try.prog 24 #[.string s] w fun e w' => e = .panicked [{ v := .iface 22 (.int .i64 4), recovered := false }] ∧ Below w.heap.size w w' := by
  have hd : decide ((2 : Int) ≤ (s.size : Int)) = true := by simp; omega
  have hx0 := str_byte s 0 (by omega)
  obtain ⟨k, hk⟩ : ∃ k, s.size - 1 = k := ⟨_, rfl⟩
  have hk1 : (s.size : Int) - 1 = (k : Int) := by omega
  have hk2 : k < s.size := by omega
  have hk3 : (k : Int) < s.size := by omega
  have hk4 : 1 ≤ k := by omega
  have hk5 : (1 : Int) ≤ k := by omega
  have hk6 : (k : Int) ≤ s.size := by omega
  have hk7 : k ≤ s.size := by omega
  have hk8 : IntKind.i64.wrap (k : Int) = k := IntWalk.i64_in _ (by omega)
  have hx1 := str_byte s k hk2
  rw [hk] at h3
  rw [h3] at hx1
  have h0 : 0 < s.size := by omega
  have h0' : (0 : Int) < s.size := by omega
  have hcv := fun w => run_bytes_of_string (P := Try.prog) w 9 32 5 s Try.underlying9 Try.underlying32 Try.underlying5
  rw [h2] at hx0
  have hin : inner s = s.extract 1 k := by rw [inner, hk]
  rw [hin] at hc
  have hct := fun w => Try.strings_Contains_one (s.extract 1 k) 96 w
  have htl : (s.extract 1 k).size ≤ 100000 := by simp; omega
  clear h2 h3 hin hk
  rw [show decide (0 ≤ Lib.indexByte (s.extract 1 k).data.toList 96) = true from by simpa using hc] at hct
  go_enter Try.func24, Try.ntmps24
  go_wp2_with fail
  have hI0 : InvC w [] w.drew := InvC.start (Below.refl _ _) (by simp)
  have hne5 : Nonempty (Wld (InvC w [])) := ⟨⟨_, hI0⟩⟩
  refine wp_region_inv (InvC w []) (by kernel_rfl) (by kernel_rfl) hI0 ?_
  clear hI0
  repeat (go_big_quiet_step ((go_at_call 19; exact Calls.inv_same (need_yes2 _ _))))
  refine wpQuiet_nil ?_
  intro w6 hw6
  have HB6 : Hid (Below w.heap.size w w6) := by obtain ⟨i, rfl⟩ := hw6; exact i.ok.1
  clear hw6 hne5
  have hcv6 := hcv w6
  have hge := grownCap_ge w6 s.size 0 5
  generalize grownCap w6 s.size 0 5 = gc at *
  have hbs := bytesRow_bsl s w6.drew gc hge ((bytesRow s gc).size, (bytesRow s gc).size + 1)
  have hb7 : Below w6.heap.size w6 (w6.drew.alloc (.cells (bytesRow s gc) 5 ((bytesRow s gc).size, (bytesRow s gc).size + 1))) := (Below.refl _ _).drew.alloc (Nat.le_refl _) _
  have hwr := wrong_b (some ⟨w6.heap.size, 0, none⟩) gc s _ hbs (by omega)
  have HB7 := Lib.hid hb7
  generalize w6.drew.alloc (.cells (bytesRow s gc) 5 ((bytesRow s gc).size, (bytesRow s gc).size + 1)) = w7 at *
  clear hbs hb7 hcv hge
  have hwn : decide (wrongF s < 0) = true := by simpa using hw
  generalize wrongF s = wf at *
  go_wp2_with (first
                        | (go_at_call 32; with_reducible refine Calls.mono hwr ?_; rintro e w8 ⟨rfl, hb8⟩; have HB8 := Lib.hid hb8; clear hb8 hwr)
                        | (go_at_call 19; with_reducible refine Calls.mono (need_yes2 _ _) ?_; rintro e w9 ⟨rfl, hw9⟩; replace hw9 := hw9.symm; subst hw9)
                        | (go_at_call 19; with_reducible refine Calls.mono (need_no _ _) ?_; rintro e w9 ⟨rfl, hw9⟩; replace hw9 := hw9.symm; subst hw9)
                        | (go_at_call 33; with_reducible refine Calls.mono (hct _) ?_; rintro e w9 ⟨rfl, hw9⟩; replace hw9 := hw9.symm; subst hw9))
  exact ⟨rfl, rfl, (HB6.out.trans (HB7.out.mono HB6.out.size)).trans (HB8.out.mono (Nat.le_trans HB6.out.size HB7.out.size))⟩
theorem row_of_string (s : ByteArray) (w : World) (cap : Nat) (h : s.size ≤ cap) : RowB (w.alloc (.cells (bytesRow s cap) 5 ((bytesRow s cap).size, (bytesRow s cap).size + 1))) w.heap.size s.size (byteN s) := by
  have hb : (w.alloc (.cells (bytesRow s cap) 5 ((bytesRow s cap).size, (bytesRow s cap).size + 1))).heap[w.heap.size]? = some (.cells (bytesRow s cap) 5 ((bytesRow s cap).size, (bytesRow s cap).size + 1)) := heap_alloc_new w _
  have hsz : s.size ≤ (bytesRow s cap).size := by simp [bytesRow]
  intro j hj
  refine ⟨?_, ?_⟩
  · rw [cell_of hb, bytesRow_at s cap j hj]
    simp [byteN, List.getD_eq_getElem?_getD, List.getElem?_eq_getElem (show j < s.data.toList.length by simpa using hj)]
  · simp only [World.frozen?, hb, Bool.and_eq_false_iff, decide_eq_false_iff_not]
    left; omega
set_option maxHeartbeats 6400000 in
theorem text_raw_ok (s : ByteArray) (w : World) (h : 2 ≤ s.size) (hs : s.size ≤ 100000) (h2 : byteN s 0 = 96) (h3 : byteN s (s.size - 1) = 96) (hw : wrongF s < 0) (hc : Lib.indexByte (inner s).data.toList 96 < 0) :
    Calls Try.prog 24 #[.string s] w fun e w' => e = .returned (.string (bytesOf ((bytesL (inner s)).filter (· ≠ 13)))) ∧ Below w.heap.size w w' := by
  have hd : decide ((2 : Int) ≤ (s.size : Int)) = true := by simp; omega
  have hx0 := str_byte s 0 (by omega)
  obtain ⟨k, hk⟩ : ∃ k, s.size - 1 = k := ⟨_, rfl⟩
  have hk1 : (s.size : Int) - 1 = (k : Int) := by omega
  have hk2 : k < s.size := by omega
  have hk3 : (k : Int) < s.size := by omega
  have hk4 : 1 ≤ k := by omega
  have hk5 : (1 : Int) ≤ k := by omega
  have hk6 : (k : Int) ≤ s.size := by omega
  have hk7 : k ≤ s.size := by omega
  have hk8 : IntKind.i64.wrap (k : Int) = k := IntWalk.i64_in _ (by omega)
  have hx1 := str_byte s k hk2
  rw [hk] at h3
  rw [h3] at hx1
  have h0 : 0 < s.size := by omega
  have h0' : (0 : Int) < s.size := by omega
  have hcv := fun w => run_bytes_of_string (P := Try.prog) w 9 32 5 s Try.underlying9 Try.underlying32 Try.underlying5
  rw [h2] at hx0
  have hin : inner s = s.extract 1 k := by rw [inner, hk]
  rw [hin] at hc ⊢
  have hct := fun w => Try.strings_Contains_one (s.extract 1 k) 96 w
  have htl : (s.extract 1 k).size ≤ 100000 := by simp; omega
  clear h2 h3 hin hk
  rw [show decide (0 ≤ Lib.indexByte (s.extract 1 k).data.toList 96) = false from by simpa using hc] at hct
  rw [← FL_all]
  have hcv2 := fun w => run_bytes_of_string (P := Try.prog) w 9 32 5 (s.extract 1 k) Try.underlying9 Try.underlying32 Try.underlying5
  obtain ⟨t, ht⟩ : ∃ t, s.extract 1 k = t := ⟨_, rfl⟩
  simp only [ht] at hct hcv2 htl hc
  rw [ht]
  go_enter Try.func24, Try.ntmps24
  go_wp2_with fail
  have hI0 : InvC w [] w.drew := InvC.start (Below.refl _ _) (by simp)
  have hne5 : Nonempty (Wld (InvC w [])) := ⟨⟨_, hI0⟩⟩
  refine wp_region_inv (InvC w []) (by kernel_rfl) (by kernel_rfl) hI0 ?_
  clear hI0
  repeat (go_big_quiet_step ((go_at_call 19; exact Calls.inv_same (need_yes2 _ _))))
  refine wpQuiet_nil ?_
  intro w6 hw6
  have HB6 : Hid (Below w.heap.size w w6) := by obtain ⟨i, rfl⟩ := hw6; exact i.ok.1
  clear hw6 hne5
  have hcv6 := hcv w6
  have hge := grownCap_ge w6 s.size 0 5
  generalize grownCap w6 s.size 0 5 = gc at *
  have hbs := bytesRow_bsl s w6.drew gc hge ((bytesRow s gc).size, (bytesRow s gc).size + 1)
  have hb7 : Below w6.heap.size w6 (w6.drew.alloc (.cells (bytesRow s gc) 5 ((bytesRow s gc).size, (bytesRow s gc).size + 1))) := (Below.refl _ _).drew.alloc (Nat.le_refl _) _
  have hwr := wrong_b (some ⟨w6.heap.size, 0, none⟩) gc s _ hbs (by omega)
  have HB7 := Lib.hid hb7
  generalize w6.drew.alloc (.cells (bytesRow s gc) 5 ((bytesRow s gc).size, (bytesRow s gc).size + 1)) = w7 at *
  clear hbs hb7 hcv hge
  have hwn : decide (wrongF s < 0) = true := by simpa using hw
  generalize wrongF s = wf at *
  go_wp2_with (first
                        | (go_at_call 32; with_reducible refine Calls.mono hwr ?_; rintro e w8 ⟨rfl, hb8⟩; have HB8 := Lib.hid hb8; clear hb8 hwr
                           have hcv8 := hcv2 w8
                           have hge8 := grownCap_ge w8 t.size 0 5
                           generalize grownCap w8 t.size 0 5 = gd at *
                           have hrw := row_of_string t w8.drew gd hge8
                           have hb9 : Below w8.heap.size w8 (w8.drew.alloc (.cells (bytesRow t gd) 5 ((bytesRow t gd).size, (bytesRow t gd).size + 1))) := (Below.refl _ _).drew.alloc (Nat.le_refl _) _
                           have hdf := dfunc_any w8.heap.size gd t _ hrw (by simp) (by omega) hge8
                           have HB9 := Lib.hid hb9
                           generalize w8.drew.alloc (.cells (bytesRow t gd) 5 ((bytesRow t gd).size, (bytesRow t gd).size + 1)) = w9 at *
                           clear hrw hb9 hcv2 hge8)
                        | (go_at_call 19; with_reducible refine Calls.mono (need_yes2 _ _) ?_; rintro e w5 ⟨rfl, hw5⟩; replace hw5 := hw5.symm; subst hw5)
                        | (go_at_call 33; with_reducible refine Calls.mono (hct _) ?_; rintro e w5 ⟨rfl, hw5⟩; replace hw5 := hw5.symm; subst hw5)
                        | (go_at_call 34; with_reducible refine Calls.mono hdf ?_; rintro e w10 ⟨rfl, hbs10, hb10⟩; have hcv10 := conv_at hbs10 gd; rw [bytesOf_size] at hcv10; have HB10 := Lib.hid hb10; clear hb10 hbs10 hdf))
  go_ret
  have h8 : w.heap.size ≤ w8.heap.size := Nat.le_trans (Nat.le_trans HB6.out.size HB7.out.size) HB8.out.size
  exact ⟨rfl, ((((HB6.out.trans (HB7.out.mono HB6.out.size)).trans (HB8.out.mono (Nat.le_trans HB6.out.size HB7.out.size))).trans (HB9.out.mono h8))).trans (HB10.out.mono h8)⟩
end Go.Proofs.Ytppnjliamfnlkaa
