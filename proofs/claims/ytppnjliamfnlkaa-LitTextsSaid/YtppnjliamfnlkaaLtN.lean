import Derived.Test.YtppnjliamfnlkaaLtM
namespace Go.Proofs.Ytppnjliamfnlkaa
open Go.RowKit
set_option linter.unusedSimpArgs false
set_option linter.unusedVariables false
set_option linter.unusedSectionVars false

/-! Layer 3: strings.Cut at a backslash. -/
def bsl : ByteArray := ⟨#[92]⟩
theorem ix_lt {l : List UInt8} {c : UInt8} {k : Nat} (h : Lib.indexByte l c = k) : k < l.length := by
  have := (Lib.indexByte_some h).1
  exact (List.getElem?_eq_some_iff.1 this).1

set_option maxHeartbeats 1600000 in
theorem cutin_yes (s : ByteArray) (k : Nat) (w : World) (h : Lib.indexByte s.data.toList 92 = k) (hs : s.size ≤ 100000000) :
    Calls Try.prog 52 #[.string s, .string ⟨#[92]⟩] w fun e w' => e = .returned (.tuple #[.string (s.extract 0 k), .string (s.extract (k + 1) s.size), .bool true]) ∧ Below w.heap.size w w' := by
  have hk : k < s.size := by simpa using ix_lt h
  have hix := Try.stringslite_Index_one s 92 w
  rw [h] at hix
  have hk2 : k ≤ s.size := by omega
  have hk3 : (k : Int) ≤ s.size := by omega
  have hk4 : (k : Int) + 1 ≤ s.size := by omega
  have hk5 : k + 1 ≤ s.size := by omega
  clear h
  go_enter Try.func52, Try.ntmps52
  go_wp2_with (go_at_call 51; with_reducible refine Calls.mono hix ?_; rintro e w2 ⟨rfl, hw2⟩; replace hw2 := hw2.symm; subst hw2)
  go_region
  all_goals
    go_wp2_with fail
    refine bodyPost_ret (v := .tuple #[.string (s.extract 0 k), .string (s.extract (k + 1) s.size), .bool true]) ?_ rfl ⟨rfl, (Below.refl _ _).drew⟩
    simp [results, Try.results52, go_sem]
set_option maxHeartbeats 1600000 in
theorem cutin_no (s : ByteArray) (w : World) (h : Lib.indexByte s.data.toList 92 = -1) :
    Calls Try.prog 52 #[.string s, .string ⟨#[92]⟩] w fun e w' => e = .returned (.tuple #[.string s, .string ⟨#[]⟩, .bool false]) ∧ Below w.heap.size w w' := by
  have hix := Try.stringslite_Index_one s 92 w
  rw [h] at hix
  clear h
  go_enter Try.func52, Try.ntmps52
  go_wp2_with (go_at_call 51; with_reducible refine Calls.mono hix ?_; rintro e w2 ⟨rfl, hw2⟩; replace hw2 := hw2.symm; subst hw2)
  refine bodyPost_ret (v := .tuple #[.string s, .string ⟨#[]⟩, .bool false]) ?_ rfl ⟨rfl, Below.refl _ _⟩
  simp [results, Try.results52, go_sem]

def cutR (s : ByteArray) : ByteArray × ByteArray × Bool :=
  if Lib.indexByte s.data.toList 92 = -1 then (s, ⟨#[]⟩, false) else (s.extract 0 (Lib.indexByte s.data.toList 92).toNat, s.extract ((Lib.indexByte s.data.toList 92).toNat + 1) s.size, true)
theorem cutR_sizes (s : ByteArray) : (cutR s).1.size + (cutR s).2.1.size ≤ s.size ∧ ((cutR s).2.2 = true → (cutR s).1.size + (cutR s).2.1.size + 1 = s.size) := by
  unfold cutR
  split
  · refine ⟨?_, by simp⟩
    show s.size + 0 ≤ s.size
    omega
  · rename_i h
    have hge := Lib.indexByte_ge s.data.toList 92
    obtain ⟨k, hk⟩ : ∃ k : Nat, Lib.indexByte s.data.toList 92 = k := ⟨(Lib.indexByte s.data.toList 92).toNat, by omega⟩
    have hlt : k < s.size := by simpa using ix_lt hk
    rw [hk]
    simp only [Int.toNat_natCast, ByteArray.size_extract]
    omega
theorem cut_any (s : ByteArray) (w : World) (hs : s.size ≤ 100000000) :
    Calls Try.prog 47 #[.string s, .string ⟨#[92]⟩] w fun e w' => e = .returned (.tuple #[.string (cutR s).1, .string (cutR s).2.1, .bool (cutR s).2.2]) ∧ Below w.heap.size w w' := by
  have hin : Calls Try.prog 52 #[.string s, .string ⟨#[92]⟩] w fun e w' => e = .returned (.tuple #[.string (cutR s).1, .string (cutR s).2.1, .bool (cutR s).2.2]) ∧ Below w.heap.size w w' := by
    unfold cutR
    split
    · rename_i h
      exact cutin_no s w h
    · rename_i h
      have hge := Lib.indexByte_ge s.data.toList 92
      obtain ⟨k, hk⟩ : ∃ k : Nat, Lib.indexByte s.data.toList 92 = k := ⟨(Lib.indexByte s.data.toList 92).toNat, by omega⟩
      have := cutin_yes s k w hk hs
      rw [hk]
      exact this
  generalize cutR s = R at *
  go_enter Try.func47, Try.ntmps47
  go_wp2_with (go_at_call 52; with_reducible refine Calls.mono hin ?_; rintro e w2 ⟨rfl, hb2⟩)
  refine bodyPost_ret (v := .tuple #[.string R.1, .string R.2.1, .bool R.2.2]) ?_ rfl ⟨rfl, by assumption⟩
  simp [results, Try.results47, go_sem]
end Go.Proofs.Ytppnjliamfnlkaa
