import Derived.Test.YtppnjliamfnlkaaLtP
import Derived.Test.YtppnjliamfnlkaaLtI
namespace Go.Proofs.Ytppnjliamfnlkaa
open Go.RowKit
set_option linter.unusedSimpArgs false
set_option linter.unusedVariables false
set_option linter.unusedSectionVars false

/-! Layer 3: Text; what the chapter's examples say. -/
def textV (s : ByteArray) : ByteArray := if 65536 < s.size then ⟨#[]⟩ else match textR s with | none => ⟨#[]⟩ | some l => bytesOf l
def textE (s : ByteArray) : Int := if 65536 < s.size then 12 else match textR s with | none => 4 | some _ => 0
set_option maxHeartbeats 800000 in
theorem Text1_ok (A : Nat) (s : ByteArray) (l : List Nat) (w : World) (hc : w.cell? ⟨A, 0, none⟩ = some (.string s)) (hs : s.size ≤ 65536)
    (hn : ∀ w, Calls Try.prog 24 #[.string s] w fun e w' => PartsP (some l) e ∧ Below w.heap.size w w') :
    Calls Try.prog 23 #[.pointer (some ⟨A, 0, none⟩)] w fun e w' => e = .returned (.string (bytesOf l)) ∧ Below w.heap.size w w' := by
  simp only [PartsP] at hn
  have hd : decide ((s.size : Int) ≤ 65536) = true := by simp; omega
  go_enter Try.func23, Try.ntmps23
  go_wp2_with (first
    | (go_at_call 19; with_reducible refine Calls.mono (need_yes _ _) ?_; rintro e w2 ⟨rfl, hw2⟩; replace hw2 := hw2.symm; subst hw2)
    | (go_at_call 24; with_reducible refine Calls.mono (hn _) ?_; rintro e w2 ⟨rfl, hb⟩))
  go_ret
  exact ⟨rfl, by assumption⟩
set_option maxHeartbeats 800000 in
theorem Text1_no (A : Nat) (s : ByteArray) (w : World) (hc : w.cell? ⟨A, 0, none⟩ = some (.string s)) (hs : s.size ≤ 65536)
    (hn : ∀ w, Calls Try.prog 24 #[.string s] w fun e w' => PartsP none e ∧ Below w.heap.size w w') :
    Calls Try.prog 23 #[.pointer (some ⟨A, 0, none⟩)] w fun e w' => e = .panicked [{ v := .iface 22 (.int .i64 4), recovered := false }] ∧ Below w.heap.size w w' := by
  simp only [PartsP] at hn
  have hd : decide ((s.size : Int) ≤ 65536) = true := by simp; omega
  go_enter Try.func23, Try.ntmps23
  go_wp2_with (first
    | (go_at_call 19; with_reducible refine Calls.mono (need_yes _ _) ?_; rintro e w2 ⟨rfl, hw2⟩; replace hw2 := hw2.symm; subst hw2)
    | (go_at_call 24; with_reducible refine Calls.mono (hn _) ?_; rintro e w2 ⟨rfl, hb⟩))
  exact ⟨rfl, rfl, by assumption⟩
set_option maxHeartbeats 800000 in
theorem Text1_long (A : Nat) (s : ByteArray) (w : World) (hc : w.cell? ⟨A, 0, none⟩ = some (.string s)) (hs : 65536 < s.size) (hs2 : s.size ≤ 4611686018427387904) :
    Calls Try.prog 23 #[.pointer (some ⟨A, 0, none⟩)] w fun e w' => e = .panicked [{ v := .iface 22 (.int .i64 12), recovered := false }] ∧ Below w.heap.size w w' := by
  have hd : decide ((s.size : Int) ≤ 65536) = false := by simp; omega
  go_enter Try.func23, Try.ntmps23
  go_wp2_with (first
    | (go_at_call 19; with_reducible refine Calls.mono (need_no _ _) ?_; rintro e w2 ⟨rfl, hw2⟩; replace hw2 := hw2.symm; subst hw2))
  exact ⟨rfl, rfl, Below.refl _ _⟩
theorem Text_in (A : Nat) (s : ByteArray) (w : World) (hc : w.cell? ⟨A, 0, none⟩ = some (.string s)) (hs2 : s.size ≤ 4611686018427387904)
    (hT : s.size ≤ 65536 → ∀ w, Calls Try.prog 24 #[.string s] w fun e w' => PartsP (textR s) e ∧ Below w.heap.size w w') :
    Calls Try.prog 17 #[.func (.func 23) #[] #[.pointer (some ⟨A, 0, none⟩)]] w fun e w' => e = .returned (.tuple #[.string (textV s), .int .i64 (textE s)]) ∧ Below w.heap.size w w' := by
  have hlt := World.block_lt_of_cell? _ _ hc
  have hcc : ∀ w1, Below w.heap.size w w1 → w1.cell? ⟨A, 0, none⟩ = some (.string s) := fun w1 hb => (hb.cell hlt).trans hc
  by_cases h1 : 65536 < s.size
  · rw [textV, textE, if_pos h1, if_pos h1]
    exact ansT_no _ 12 w fun w1 hb => Text1_long A s w1 (hcc w1 hb) h1 hs2
  · rw [textV, textE, if_neg h1, if_neg h1]
    have hT' := hT (by omega)
    cases h2 : textR s with
    | none =>
      rw [h2] at hT'
      exact ansT_no _ 4 w fun w1 hb => Text1_no A s w1 (hcc w1 hb) (by omega) hT'
    | some r =>
      rw [h2] at hT'
      exact ansT_ok _ (bytesOf r) w fun w1 hb => Text1_ok A s r w1 (hcc w1 hb) (by omega) hT'
set_option maxHeartbeats 800000 in
theorem Text_any (s : ByteArray) (w : World) (hs2 : s.size ≤ 4611686018427387904)
    (hT : s.size ≤ 65536 → ∀ w, Calls Try.prog 24 #[.string s] w fun e w' => PartsP (textR s) e ∧ Below w.heap.size w w') :
    Calls Try.prog 13 #[.string s] w fun e w' => e = .returned (.tuple #[.string (textV s), .int .i64 (textE s)]) ∧ Below w.heap.size w w' := by
  have hmf : ∀ (fn : Fn) (first cap : Array Value) (w : World), (Instr.makeFunc fn first cap).run Try.prog w = .ok (.func fn first cap) w := fun _ _ _ _ => rfl
  have hin := Text_in w.heap.size s (w.alloc (.cells #[.string s] 9)) (by simp) hs2 hT
  clear hT
  go_enter Try.func13, Try.ntmps13
  go_wp2_with (go_at_call 17; with_reducible refine Calls.mono hin ?_; rintro e w2 ⟨rfl, hb⟩)
  go_ret2
  exact ⟨rfl, ((Below.refl _ _).alloc (Nat.le_refl _) _).trans (hb.mono (by simp))⟩

def Ascii (t : ByteArray) : Prop := ∀ b ∈ t.data.toList, b.toNat < 128
theorem ascii_ok : OkS Ascii where
  ext := by
    intro t a b h x hx
    rw [Lib.extract_data] at hx
    exact h x (List.mem_of_mem_drop (List.mem_of_mem_take hx))
  nil := by intro b hb; simp at hb
theorem ascii_ca (p : ByteArray) (w : World) (h : Ascii p) (hs : p.size ≤ 100000000) :
    Calls Try.prog 48 #[.string p, .string ⟨#[34, 10]⟩] w fun e w' => e = .returned (.bool (plainB p)) ∧ Below w.heap.size w w' :=
  Try.strings_ContainsAny_laid p ⟨#[34, 10]⟩ w (by omega) (by decide) (fun j b hj => h b (List.mem_of_getElem? hj)) (by
    intro j b hj
    have hm := List.mem_of_getElem? hj
    simp only [List.mem_cons, List.not_mem_nil, or_false] at hm
    rcases hm with rfl | rfl <;> decide)

def exT : ByteArray := ⟨#[34, 92, 120, 52, 49, 92, 117, 48, 48, 101, 52, 34]⟩
theorem exT_R : textR exT = some [65, 195, 164] := by decide +kernel
theorem exT_text (w : World) : Calls Try.prog 24 #[.string exT] w fun e w' => PartsP (textR exT) e ∧ Below w.heap.size w w' := by
  have hin : Ascii (inner exT) := by unfold Ascii; decide +kernel
  have h := text_quote exT w (by decide) (by decide) (by decide +kernel) (by decide +kernel) (by decide +kernel) (fun w => parts_any Ascii ascii_ok ascii_ca (inner exT) w hin (by decide +kernel))
  have hR : partsF ((inner exT).size + 1) (inner exT) [] = textR exT := by decide +kernel
  rw [hR] at h
  exact h
set_option maxHeartbeats 3200000 in
theorem awake_any (w : World) : Calls Try.prog 12 #[] w fun e w' => e = .returned (.bool true) ∧ Below w.heap.size w w' := by
  have hA := fun w => Number_any ⟨#[48, 120, 95, 49, 70]⟩ w (by decide)
  have hB := fun w => Number_any ⟨#[48, 49, 55]⟩ w (by decide)
  have hC := fun w => Number_any ⟨#[49, 95, 95, 48]⟩ w (by decide)
  have hD := fun w => Text_any exT w (by decide) (fun _ => exT_text)
  rw [show numV ⟨#[48, 120, 95, 49, 70]⟩ = ⟨#[51, 49]⟩ from by decide +kernel, show numE ⟨#[48, 120, 95, 49, 70]⟩ = 0 from by decide +kernel] at hA
  rw [show numV ⟨#[48, 49, 55]⟩ = ⟨#[49, 53]⟩ from by decide +kernel, show numE ⟨#[48, 49, 55]⟩ = 0 from by decide +kernel] at hB
  rw [show numV ⟨#[49, 95, 95, 48]⟩ = ⟨#[]⟩ from by decide +kernel, show numE ⟨#[49, 95, 95, 48]⟩ = 4 from by decide +kernel] at hC
  rw [show textV exT = ⟨#[65, 195, 164]⟩ from by decide +kernel, show textE exT = 0 from by decide +kernel] at hD
  unfold exT at hD
  go_enter Try.func12, Try.ntmps12
  go_wp2_with (first
    | (go_at_call 8; with_reducible refine Calls.mono (hA _) ?_; rintro e w2 ⟨rfl, hb2⟩; have HB2 := Lib.hid hb2; clear hb2)
    | (go_at_call 8; with_reducible refine Calls.mono (hB _) ?_; rintro e w3 ⟨rfl, hb3⟩; have HB3 := Lib.hid hb3; clear hb3)
    | (go_at_call 8; with_reducible refine Calls.mono (hC _) ?_; rintro e w4 ⟨rfl, hb4⟩; have HB4 := Lib.hid hb4; clear hb4)
    | (go_at_call 13; with_reducible refine Calls.mono (hD _) ?_; rintro e w5 ⟨rfl, hb5⟩; have HB5 := Lib.hid hb5; clear hb5))
  go_ret
  exact ⟨rfl, ((HB2.out.trans (HB3.out.mono HB2.out.size)).trans (HB4.out.mono (Nat.le_trans HB2.out.size HB3.out.size))).trans (HB5.out.mono (Nat.le_trans (Nat.le_trans HB2.out.size HB3.out.size) HB4.out.size))⟩
end Go.Proofs.Ytppnjliamfnlkaa
