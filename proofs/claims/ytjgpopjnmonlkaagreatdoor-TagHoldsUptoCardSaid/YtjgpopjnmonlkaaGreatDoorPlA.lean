import Derived.Test.YtjgpopjnmonlkaaGreatDoorProg
import Derived.Test.YtjgpopjnmonlkaaGreatDoorKit
namespace Go.Proofs.YtjgpopjnmonlkaaGreatDoor
open Go.RowKit

theorem dec_width (s : ByteArray) (pos : Nat) (h : pos < s.size) : 1 ≤ (Utf8.decode s pos).2 ∧ pos + (Utf8.decode s pos).2 ≤ s.size := by
  simp only [Utf8.decode]
  repeat' split
  all_goals simp_all
  all_goals omega

def eachF {σ : Type} (s : ByteArray) (step : σ → Nat → Int → Nat → Nat → σ × Bool) : Nat → σ → Nat → Nat → Nat → σ
  | 0, st, _, _, _ => st
  | f + 1, st, pos, line, col =>
    if pos < s.size then
      if (step st pos (Utf8.decode s pos).1 line col).2 then
        eachF s step f (step st pos (Utf8.decode s pos).1 line col).1 (pos + (Utf8.decode s pos).2)
          (if (Utf8.decode s pos).1 = 10 then line + 1 else line) (if (Utf8.decode s pos).1 = 10 then 1 else col + 1)
      else (step st pos (Utf8.decode s pos).1 line col).1
    else (step st s.size (-1) line col).1

section
variable {σ : Type} {s : ByteArray} {step : σ → Nat → Int → Nat → Nat → σ × Bool} {f : Nat} {st st2 : σ} {pos line col : Nat}
theorem eachF_go (hlt : pos < s.size) (hq : step st pos (Utf8.decode s pos).1 line col = (st2, true)) :
    eachF s step (f + 1) st pos line col = eachF s step f st2 (pos + (Utf8.decode s pos).2) (if (Utf8.decode s pos).1 = 10 then line + 1 else line) (if (Utf8.decode s pos).1 = 10 then 1 else col + 1) := by
  simp [eachF, hlt, hq]
theorem eachF_stop (hlt : pos < s.size) (hq : step st pos (Utf8.decode s pos).1 line col = (st2, false)) :
    eachF s step (f + 1) st pos line col = st2 := by
  simp [eachF, hlt, hq]
theorem eachF_end (hlt : ¬ pos < s.size) : eachF s step (f + 1) st pos line col = (step st s.size (-1) line col).1 := by
  simp [eachF, hlt]
end

end Go.Proofs.YtjgpopjnmonlkaaGreatDoor
