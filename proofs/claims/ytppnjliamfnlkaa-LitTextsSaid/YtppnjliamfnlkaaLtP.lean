import Derived.Test.YtppnjliamfnlkaaLtO
import Derived.Laws.IdiomStrings
import Derived.Test.YtppnjliamfnlkaaReg
namespace Go.Proofs.Ytppnjliamfnlkaa
open Go.RowKit
set_option linter.unusedSimpArgs false
set_option linter.unusedVariables false
set_option linter.unusedSectionVars false

/-! Layer 3: text. -/
def inner (s : ByteArray) : ByteArray := s.extract 1 (s.size - 1)
/-- What a text's token means; none: it is none. -/
def textR (s : ByteArray) : Option (List Nat) :=
  if s.size < 2 ∨ byteN s 0 ≠ byteN s (s.size - 1) then none
  else if 0 ≤ wrongF s then none
  else if byteN s 0 = 96 then (if 0 ≤ Lib.indexByte (inner s).data.toList 96 then none else some ((bytesL (inner s)).filter (· ≠ 13)))
  else if byteN s 0 = 34 then partsF ((inner s).size + 1) (inner s) []
  else none
theorem bytesRow_bsl (s : ByteArray) (w : World) (cap : Nat) (h : s.size ≤ cap) (fr : Nat × Nat) : BSl (w.alloc (.cells (bytesRow s cap) 5 fr)) (some ⟨w.heap.size, 0, none⟩) s := by
  refine .inr ⟨w.heap.size, 0, rfl, ?_, by simp⟩
  intro i hi
  have hb : (w.alloc (.cells (bytesRow s cap) 5 fr)).heap[w.heap.size]? = some (.cells (bytesRow s cap) 5 fr) := heap_alloc_new w _
  rw [Nat.zero_add, cell_of hb, bytesRow_at s cap i hi]
  simp [byteN, List.getD_eq_getElem?_getD, List.getElem?_eq_getElem (show i < s.data.toList.length by simpa using hi)]

theorem need_no2 (e : Int) (w : World) :
    Calls Try.prog 19 #[.bool false, .int .i64 e] w fun r w' => (r = .panicked [{ v := .iface 22 (.int .i64 e), recovered := false }] ∧ w' = w) ∨ (r = .returned (.tuple #[]) ∧ w' = w ∧ False) :=
  (need_no e w).mono fun _ _ h => .inl h
def TextP : Option (List Nat) → Ending → Prop
  | some l, e => e = .returned (.string (bytesOf l))
  | none, e => e = .panicked [{ v := .iface 22 (.int .i64 4), recovered := false }]
theorem need_yes2 (e : Int) (w : World) :
    Calls Try.prog 19 #[.bool true, .int .i64 e] w fun r w' => r = .returned (.tuple #[]) ∧ w' = w := need_yes e w
set_option maxHeartbeats 6400000 in
theorem text_quote (s : ByteArray) (w : World) (h : 2 ≤ s.size) (hs : s.size ≤ 100000) (h2 : byteN s 0 = 34) (h3 : byteN s (s.size - 1) = 34) (hw : wrongF s < 0)
    (hP : ∀ w, Calls Try.prog 36 #[.string (inner s)] w fun e w' => PartsP (partsF ((inner s).size + 1) (inner s) []) e ∧ Below w.heap.size w w') :
    Calls Try.prog 24 #[.string s] w fun e w' => PartsP (partsF ((inner s).size + 1) (inner s) []) e ∧ Below w.heap.size w w' := by
  have hd : decide ((2 : Int) ≤ (s.size : Int)) = true := by simp; omega
  have hx0 := str_byte s 0 (by omega)
  obtain ⟨k, hk⟩ : ∃ k, s.size - 1 = k := ⟨_, rfl⟩
  have hk1 : (s.size : Int) - 1 = (k : Int) := by omega
  have hk2 : k < s.size := by omega
  have hk3 : (k : Int) < s.size := by omega
  have hk4 : 1 ≤ k := by omega
  have hk5 : (1 : Int) ≤ k := by omega
  have hk6 : (k : Int) ≤ s.size := by omega
  have hk7 : k ≤ s.size := by omega
  have hk8 : IntKind.i64.wrap (k : Int) = k := IntWalk.i64_in _ (by omega)
  have hx1 := str_byte s k hk2
  have hin : inner s = s.extract 1 k := by rw [inner, hk]
  rw [hin] at hP ⊢
  rw [hk] at h3
  rw [h2] at hx0
  rw [h3] at hx1
  have h0 : 0 < s.size := by omega
  have h0' : (0 : Int) < s.size := by omega
  generalize partsF ((s.extract 1 k).size + 1) (s.extract 1 k) [] = X at *
  have hcv := fun w => run_bytes_of_string (P := Try.prog) w 9 32 5 s Try.underlying9 Try.underlying32 Try.underlying5
  clear h2 h3 hin hk
  go_enter Try.func24, Try.ntmps24
  go_wp2_with fail
  have hI0 : InvC w [] w.drew := InvC.start (Below.refl _ _) (by simp)
  have hne5 : Nonempty (Wld (InvC w [])) := ⟨⟨_, hI0⟩⟩
  refine wp_region_inv (InvC w []) (by kernel_rfl) (by kernel_rfl) hI0 ?_
  clear hI0
  repeat (go_big_quiet_step ((go_at_call 19; exact Calls.inv_same (need_yes2 _ _))))
  refine wpQuiet_nil ?_
  intro w6 hw6
  have HB6 : Hid (Below w.heap.size w w6) := by obtain ⟨i, rfl⟩ := hw6; exact i.ok.1
  clear hw6 hne5
  have hcv6 := hcv w6
  have hge := grownCap_ge w6 s.size 0 5
  generalize grownCap w6 s.size 0 5 = gc at *
  have hbs := bytesRow_bsl s w6.drew gc hge ((bytesRow s gc).size, (bytesRow s gc).size + 1)
  have hb7 : Below w6.heap.size w6 (w6.drew.alloc (.cells (bytesRow s gc) 5 ((bytesRow s gc).size, (bytesRow s gc).size + 1))) := (Below.refl _ _).drew.alloc (Nat.le_refl _) _
  have hwr := wrong_b (some ⟨w6.heap.size, 0, none⟩) gc s _ hbs (by omega)
  have HB7 := Lib.hid hb7
  generalize w6.drew.alloc (.cells (bytesRow s gc) 5 ((bytesRow s gc).size, (bytesRow s gc).size + 1)) = w7 at *
  clear hbs hb7 hcv hge
  have hwn : decide (wrongF s < 0) = true := by simpa using hw
  generalize wrongF s = wf at *
  cases X with
  | none =>
    simp only [PartsP] at hP
    go_wp2_with (first
      | (go_at_call 32; with_reducible refine Calls.mono hwr ?_; rintro e w8 ⟨rfl, hb8⟩; have HB8 := Lib.hid hb8; clear hb8 hwr)
      | (go_at_call 19; with_reducible refine Calls.mono (need_yes2 _ _) ?_; rintro e w9 ⟨rfl, hw9⟩; replace hw9 := hw9.symm; subst hw9)
      | (go_at_call 36; with_reducible refine Calls.mono (hP _) ?_; rintro e w10 ⟨rfl, hb10⟩))
    exact ⟨rfl, rfl, ((HB6.out.trans (HB7.out.mono HB6.out.size)).trans (HB8.out.mono (Nat.le_trans HB6.out.size HB7.out.size))).trans (hb10.mono (Nat.le_trans (Nat.le_trans HB6.out.size HB7.out.size) HB8.out.size))⟩
  | some l =>
    simp only [PartsP] at hP
    go_wp2_with (first
      | (go_at_call 32; with_reducible refine Calls.mono hwr ?_; rintro e w8 ⟨rfl, hb8⟩; have HB8 := Lib.hid hb8; clear hb8 hwr)
      | (go_at_call 19; with_reducible refine Calls.mono (need_yes2 _ _) ?_; rintro e w9 ⟨rfl, hw9⟩; replace hw9 := hw9.symm; subst hw9)
      | (go_at_call 36; with_reducible refine Calls.mono (hP _) ?_; rintro e w10 ⟨rfl, hb10⟩))
    go_ret
    exact ⟨rfl, ((HB6.out.trans (HB7.out.mono HB6.out.size)).trans (HB8.out.mono (Nat.le_trans HB6.out.size HB7.out.size))).trans (hb10.mono (Nat.le_trans (Nat.le_trans HB6.out.size HB7.out.size) HB8.out.size))⟩
end Go.Proofs.Ytppnjliamfnlkaa
