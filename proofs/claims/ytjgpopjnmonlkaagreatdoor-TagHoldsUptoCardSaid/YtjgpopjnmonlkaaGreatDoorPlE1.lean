import Derived.Test.YtjgpopjnmonlkaaGreatDoorPlD
namespace Go.Proofs.YtjgpopjnmonlkaaGreatDoor
open Go.RowKit

theorem tailV_size {s : ByteArray} {i n : Nat} {v l : Int} (h : i < s.size) (hn : 1 ≤ n) : 1 ≤ (tailV s i n v l).1 ∧ (i : Int) + (tailV s i n v l).1 ≤ s.size := by
  unfold tailV
  split
  · exact ⟨by decide, by simp only; omega⟩
  · split
    · exact ⟨by decide, by simp only; omega⟩
    · split
      · exact ⟨by decide, by simp only; omega⟩
      · exact ⟨by simp only; omega, by simp only; omega⟩
theorem signF_size {s : ByteArray} {i : Nat} (h : i < s.size) : 1 ≤ (signF s i).1 ∧ (i : Int) + (signF s i).1 ≤ s.size := by
  unfold signF
  simp only
  split
  · exact ⟨by simp only; omega, by simp only; omega⟩
  split
  · exact tailV_size h (by decide)
  split
  · exact tailV_size h (by decide)
  split
  · exact tailV_size h (by decide)
  · exact ⟨by decide, by simp only; omega⟩
/-- How many bytes the sign at a place has. -/
def signN (s : ByteArray) (i : Nat) : Nat := (signF s i).1.toNat
theorem signN_size {s : ByteArray} {i : Nat} (h : i < s.size) : 1 ≤ signN s i ∧ i + signN s i ≤ s.size ∧ (signF s i).1 = signN s i := by
  have := signF_size h
  unfold signN
  omega
def signV (s : ByteArray) (i : Nat) : Int := (signF s i).2

/-- The bytes of a slice. -/
def BSl (w : World) (p : Option Addr) (s : ByteArray) : Prop := s.size = 0 ∨ ∃ b o, p = some ⟨b, o, none⟩ ∧ BytesN w b o s ∧ b < w.heap.size

def wrongR (s : ByteArray) : Nat → Nat → Int
  | 0, _ => -1
  | f + 1, i => if i < s.size then (if signV s i ≤ 0 ∨ (signV s i = 65279 ∧ 0 < i) then (i : Int) else wrongR s f (i + signN s i)) else -1

end Go.Proofs.YtjgpopjnmonlkaaGreatDoor
