import Derived.Test.YtjgpopjnmonlkaaGreatDoorProg
import Derived.Test.YtjgpopjnmonlkaaGreatDoorKit
namespace Go.Proofs.YtjgpopjnmonlkaaGreatDoor
open Go.RowKit

/-- The byte at a place, as a number; 0 beyond the end. -/
def byteN (s : ByteArray) (i : Nat) : Nat := (s.data.toList.getD i 0).toNat
theorem byteN_lt (s : ByteArray) (i : Nat) : byteN s i < 256 := UInt8.toNat_lt _

/-- The bytes of a slice that came in. -/
def BytesN (w : World) (b o : Nat) (s : ByteArray) : Prop := ∀ i, i < s.size → w.cell? ⟨b, o + i, none⟩ = some (.int .u8 (byteN s i))

def contV (s : ByteArray) (at_ : Nat) : Nat → Nat → Int → Option Int
  | 0, _, v => some v
  | k + 1, i, v => if byteN s (at_ + i) < 128 ∨ 191 < byteN s (at_ + i) then none else contV s at_ k (i + 1) (64 * v + byteN s (at_ + i) - 128)

def oddV (v least : Int) : Bool := decide (v < least) || decide (1114111 < v) || (decide (55296 ≤ v) && decide (v ≤ 57343))
def tailV (s : ByteArray) (at_ n : Nat) (v least : Int) : Int × Int :=
  if s.size < at_ + n then (1, -1) else
  match contV s at_ (n - 1) 1 v with
  | none => (1, -1)
  | some v => if oddV v least then (1, -1) else ((n : Int), v)
def signF (s : ByteArray) (at_ : Nat) : Int × Int :=
  let c := byteN s at_
  if c < 128 then (1, (c : Int))
  else if 194 ≤ c ∧ c ≤ 223 then tailV s at_ 2 ((c : Int) - 192) 128
  else if 224 ≤ c ∧ c ≤ 239 then tailV s at_ 3 ((c : Int) - 224) 2048
  else if 240 ≤ c ∧ c ≤ 244 then tailV s at_ 4 ((c : Int) - 240) 65536
  else (1, -1)

end Go.Proofs.YtjgpopjnmonlkaaGreatDoor
