import Derived.Test.YtghfmfgdcpihfaaDoorTkO
namespace Go.Proofs.YtghfmfgdcpihfaaDoor
open Go.RowKit
set_option linter.unusedSimpArgs false
set_option linter.unusedVariables false

/-- The first line's end from k on, or the end. -/
def nlAt (s : ByteArray) : Nat → Nat → Nat
  | 0, k => k
  | f + 1, k => if k < s.size then (if byteN s k = 10 then k else nlAt s f (k + 1)) else k
/-- The end of a note of that kind. -/
def starAt (s : ByteArray) : Nat → Nat → Int
  | 0, _ => -1
  | f + 1, k => if k + 4 ≤ s.size then (if byteN s (k + 2) = 42 then (if byteN s (k + 3) = 47 then (k : Int) + 4 else starAt s f (k + 1)) else starAt s f (k + 1)) else -1
def refNoteF (s : ByteArray) (at_ : Nat) : Int :=
  if s.size < at_ + 2 then 0
  else if byteN s at_ = 47 then
    (if byteN s (at_ + 1) = 47 then ((nlAt s (s.size + 1) at_ : Nat) : Int)
     else if byteN s (at_ + 1) = 42 then starAt s (s.size + 1) at_ else 0)
  else 0

/-- The end of a text, from k on; q: the byte that it began with. -/
def refQuotedF (s : ByteArray) (q : Nat) : Nat → Nat → Int
  | 0, _ => -1
  | f + 1, k => if k < s.size then
      (if q = 34 ∧ byteN s k = 10 then -1
       else if byteN s k = q then (k : Int) + 1
       else if q = 34 ∧ byteN s k = 92 then (if k + 1 < s.size ∧ byteN s (k + 1) = 10 then -1 else refQuotedF s q f (k + 2))
       else refQuotedF s q f (k + 1))
    else -1

end Go.Proofs.YtghfmfgdcpihfaaDoor
