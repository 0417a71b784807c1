import Derived.Test.YtlgolagedgllbaaDoorVrH
import Derived.Lib.SlBytesConst
namespace Go.Proofs.YtlgolagedgllbaaDoor
open Go.RowKit Go.Shelf
set_option linter.unusedSimpArgs false
set_option linter.unusedVariables false
set_option linter.unusedSectionVars false

/-! Layer 4: Text; what the chapter's examples say. -/
theorem dec_small (u : Nat) (h : u < 100) : Lib.decDigits u = if u < 10 then [UInt8.ofNat (48 + u)] else [UInt8.ofNat (48 + u / 10), UInt8.ofNat (48 + u % 10)] := by
  rw [Lib.decDigits]
  by_cases h1 : u < 10
  · rw [dif_pos h1, if_pos h1]
  · rw [dif_neg h1, if_neg h1, Lib.decDigits, dif_pos (by omega)]; rfl
def textF (m : Int) : ByteArray := if m < 0 ∨ 99 < m then ⟨#[]⟩ else (⟨#[49, 46]⟩ : ByteArray) ++ ⟨(Lib.decDigits m.toNat).toArray⟩
set_option maxHeartbeats 800000 in
theorem text_v (m : Int) (w : World) :
    Calls Tryd.prog 9 #[.int .i64 m] w fun e w' => e = .returned (.string (textF m)) ∧ Below w.heap.size w w' := by
  by_cases h0 : m < 0
  · have ht : textF m = ⟨#[]⟩ := by unfold textF; rw [if_pos (.inl h0)]
    have hd : decide (m < 0) = true := decide_eq_true h0
    rw [ht]; clear ht
    go_enter Tryd.func9, Tryd.ntmps9
    go_wp2_with fail
    go_ret
    exact ⟨rfl, Below.refl _ _⟩
  have hd0 : decide (m < 0) = false := decide_eq_false h0
  by_cases h1 : 99 < m
  · have ht : textF m = ⟨#[]⟩ := by unfold textF; rw [if_pos (.inr h1)]
    have hd : decide (99 < m) = true := decide_eq_true h1
    rw [ht]; clear ht
    go_enter Tryd.func9, Tryd.ntmps9
    go_wp2_with fail
    go_ret
    exact ⟨rfl, Below.refl _ _⟩
  have hd1 : decide (99 < m) = false := decide_eq_false h1
  obtain ⟨n, rfl⟩ := Int.eq_ofNat_of_zero_le (show 0 ≤ m by omega)
  have hn99 : ¬ 99 < n := by omega
  have hn98 : n ≤ 99 := by omega
  have hn97 : (n : Int) ≤ 99 := by omega
  have ht : textF n = (⟨#[49, 46]⟩ : ByteArray) ++ ⟨(Lib.decDigits n).toArray⟩ := by unfold textF; rw [if_neg (by omega), Int.toNat_natCast]
  have hi := fun w => Tryd.strconv_Itoa_small n (by omega) w
  rw [ht]
  have hits : (⟨(Lib.decDigits n).toArray⟩ : ByteArray).size ≤ 2 := by
    show (Lib.decDigits n).toArray.size ≤ 2
    rw [dec_small n (by omega)]
    split <;> simp
  generalize (⟨(Lib.decDigits n).toArray⟩ : ByteArray) = it at *
  have hits2 : ¬ 9223372036854775807 < 2 + it.size := by omega
  clear ht
  go_enter Tryd.func9, Tryd.ntmps9
  go_wp2_with (go_at_call 19; with_reducible refine Calls.mono (hi _) ?_; rintro e w2 ⟨rfl, hw2⟩; replace hw2 := hw2.symm; subst hw2)
  go_ret
  exact ⟨rfl, Below.refl _ _⟩
def exM : ByteArray := ⟨#[109, 111, 100, 117, 108, 101, 32, 97, 47, 98, 10, 103, 111, 32, 49, 46, 50, 50, 46, 49, 32, 47, 47, 32, 120]⟩
theorem exM_P : readP exM = ⟨#[97, 47, 98]⟩ := by decide +kernel
theorem exM_I : readI exM = 22 := by decide +kernel
theorem exM_E : readE exM = 0 := by decide +kernel
set_option maxRecDepth 100000 in
set_option maxHeartbeats 3200000 in
theorem awake_v (w : World) (hE : EnvV w) :
    Calls Tryd.prog 11 #[] w fun e w' => e = .returned (.bool true) ∧ Below w.heap.size w w' := by
  have h8 := hE.2.2.2
  have hA := fun w1 (hb : Below w.heap.size w w1) => minor_v ⟨#[49, 46, 50, 49, 114, 99, 50]⟩ w1 (by decide) (hE.below hb h8)
  have hB := fun w1 (hb : Below w.heap.size w w1) => minor_v ⟨#[49, 46, 48, 50, 49]⟩ w1 (by decide) (hE.below hb h8)
  rw [show minorI ⟨#[49, 46, 50, 49, 114, 99, 50]⟩ = 21 from by decide +kernel, show minorE ⟨#[49, 46, 50, 49, 114, 99, 50]⟩ = 0 from by decide +kernel] at hA
  rw [show minorI ⟨#[49, 46, 48, 50, 49]⟩ = 0 from by decide +kernel, show minorE ⟨#[49, 46, 48, 50, 49]⟩ = 6 from by decide +kernel] at hB
  have hc := fun (w : World) (C : Array Value) (n c : Nat) => Lib.run_convert_bytes_const (P := Tryd.prog) w 31 5 C n c Tryd.underlying31 Tryd.underlying5
  go_enter Tryd.func11, Tryd.ntmps11
  go_wp2_with (first
    | (go_at_call 5; with_reducible refine Calls.mono (hA _ (Below.refl _ _)) ?_; rintro e w2 ⟨rfl, hb2⟩; have HB2 := Lib.hid hb2)
    | (go_at_call 5; with_reducible refine Calls.mono (hB _ hb2) ?_; rintro e w3 ⟨rfl, hb3⟩; have HB3 : Hid (Below w.heap.size w w3) := Lib.hid (HB2.out.trans (hb3.mono HB2.out.size)); clear hb3 hb2))
  obtain ⟨w4, hw4⟩ : ∃ w4, w4 = w3.alloc (Obj.cells #[Value.int IntKind.u8 109, Value.int IntKind.u8 111, Value.int IntKind.u8 100, Value.int IntKind.u8 117, Value.int IntKind.u8 108, Value.int IntKind.u8 101, Value.int IntKind.u8 32, Value.int IntKind.u8 97, Value.int IntKind.u8 47, Value.int IntKind.u8 98, Value.int IntKind.u8 10, Value.int IntKind.u8 103, Value.int IntKind.u8 111, Value.int IntKind.u8 32, Value.int IntKind.u8 49, Value.int IntKind.u8 46, Value.int IntKind.u8 50, Value.int IntKind.u8 50, Value.int IntKind.u8 46, Value.int IntKind.u8 49, Value.int IntKind.u8 32, Value.int IntKind.u8 47, Value.int IntKind.u8 47, Value.int IntKind.u8 32, Value.int IntKind.u8 120] 5 (25, 26)) := ⟨_, rfl⟩
  have hb4 : BSl w4 (some ⟨w3.heap.size, 0, none⟩) exM := by
    refine .inr ⟨_, _, rfl, fun i hi => ?_, by rw [hw4]; simp⟩
    have hi' : i < 25 := hi
    have hh : w4.heap[w3.heap.size]? = some (Obj.cells #[Value.int IntKind.u8 109, Value.int IntKind.u8 111, Value.int IntKind.u8 100, Value.int IntKind.u8 117, Value.int IntKind.u8 108, Value.int IntKind.u8 101, Value.int IntKind.u8 32, Value.int IntKind.u8 97, Value.int IntKind.u8 47, Value.int IntKind.u8 98, Value.int IntKind.u8 10, Value.int IntKind.u8 103, Value.int IntKind.u8 111, Value.int IntKind.u8 32, Value.int IntKind.u8 49, Value.int IntKind.u8 46, Value.int IntKind.u8 50, Value.int IntKind.u8 50, Value.int IntKind.u8 46, Value.int IntKind.u8 49, Value.int IntKind.u8 32, Value.int IntKind.u8 47, Value.int IntKind.u8 47, Value.int IntKind.u8 32, Value.int IntKind.u8 120] 5 (25, 26)) := by rw [hw4]; exact alloc_at rfl _
    rw [cell_of hh]
    have hd : i = 0 ∨ i = 1 ∨ i = 2 ∨ i = 3 ∨ i = 4 ∨ i = 5 ∨ i = 6 ∨ i = 7 ∨ i = 8 ∨ i = 9 ∨ i = 10 ∨ i = 11 ∨ i = 12 ∨ i = 13 ∨ i = 14 ∨ i = 15 ∨ i = 16 ∨ i = 17 ∨ i = 18 ∨ i = 19 ∨ i = 20 ∨ i = 21 ∨ i = 22 ∨ i = 23 ∨ i = 24 := by omega
    rcases hd with rfl | rfl | rfl | rfl | rfl | rfl | rfl | rfl | rfl | rfl | rfl | rfl | rfl | rfl | rfl | rfl | rfl | rfl | rfl | rfl | rfl | rfl | rfl | rfl | rfl <;> rfl
  have hbl : Below w.heap.size w w4 := by rw [hw4]; exact HB3.out.alloc HB3.out.size _
  have hread : Calls Tryd.prog 12 #[.slice (some ⟨w3.heap.size, 0, none⟩) 25 25] w4 fun e w' => e = .returned (.tuple #[.agg #[.string (readP exM), .int .i64 (readI exM)], .int .i64 (readE exM)]) ∧ Below w4.heap.size w4 w' :=
    read_v _ 25 exM w4 hb4 (hE.below hbl h8) (by decide)
  rw [exM_P, exM_I, exM_E] at hread
  have HBL := Lib.hid hbl
  rw [← hw4]
  clear hb4 hbl hw4
  go_wp2_with (go_at_call 12; with_reducible refine Calls.mono hread ?_; rintro e w5 ⟨rfl, hb5⟩; have HB5 : Hid (Below w.heap.size w w5) := Lib.hid (HBL.out.trans (hb5.mono HBL.out.size)); clear hb5)
  go_ret
  exact ⟨rfl, HB5.out.alloc HB5.out.size _⟩
end Go.Proofs.YtlgolagedgllbaaDoor
