import Derived.Test.YtiifakdpacicjaaP
namespace Go.Proofs.Ytiifakdpacicjaa
open Go.RowKit

/-- 'Of' and the document's answer, in one word. -/
theorem of_r (p : Option Addr) (cap : Nat) (s : ByteArray) (at_ : Nat) (w : World) (hb : BSl w p s) (hs : s.size ≤ 4611686018427387904) (ha : at_ ≤ s.size) :
    Calls Try.prog 16 #[.slice p s.size cap, .int .i64 at_] w fun e w' => e = .returned (.agg #[.int .i64 (ofR s at_ (s.size + 1) 0 1 1).1, .int .i64 (ofR s at_ (s.size + 1) 0 1 1).2]) ∧ Below w.heap.size w w' := by
  rw [← ofF_eq s at_ ha]
  exact of_b p cap s at_ w hb hs ha

set_option maxHeartbeats 800000 in
theorem placeOf_walk (p : Option Addr) (cap : Nat) (s : ByteArray) (at_ : Int) (w : World) (hb : BSl w p s) :
    Calls Try.prog 4 #[.slice p s.size cap, .int .i64 at_] w fun e w' => e = .returned (.bool true) ∧ Below w.heap.size w w' := by
  by_cases hl : 1000 < s.size
  · have hl' : (1000 : Int) < s.size := by omega
    clear hl
    go_enter Try.func4, Try.ntmps4
    go_wp2_with fail
    go_ret
    exact ⟨rfl, Below.refl _ _⟩
  have hl' : ¬ (1000 : Int) < s.size := by omega
  have HB := Lib.hid hb; clear hb
  by_cases ha : at_ < 0 ∨ (s.size : Int) < at_
  · have HA := Lib.hid ha; clear ha
    go_enter Try.func4, Try.ntmps4
    go_wp2_with fail
    refine (refOf_no p s.size cap at_ w HA.out).mono ?_
    rintro e w1 ⟨rfl, rfl⟩
    go_wp2_with fail
    refine (of_no p cap s.size at_ w1 HA.out).mono ?_
    rintro e w2 ⟨rfl, hb2⟩
    have h2 := Lib.hid hb2; clear hb2
    go_wp2_with fail
    refine (awake_any w2).mono ?_
    rintro e w3 ⟨rfl, hb3⟩
    have h3 : Hid (Below w1.heap.size w1 w3) := h2.out.trans (hb3.mono h2.out.size)
    clear hb3
    go_wp2_with fail
    go_ret
    exact ⟨rfl, h3.out⟩
  · obtain ⟨n, rfl⟩ := Int.eq_ofNat_of_zero_le (show 0 ≤ at_ by omega)
    have hn : n ≤ s.size := by omega
    clear ha
    go_enter Try.func4, Try.ntmps4
    go_wp2_with fail
    refine (refOf_any p cap s w HB.out (by omega) n hn).mono ?_
    rintro e w1 ⟨rfl, rfl⟩
    go_wp2_with fail
    refine (of_r p cap s n w1 HB.out (by omega) hn).mono ?_
    rintro e w2 ⟨rfl, hb2⟩
    have h2 := Lib.hid hb2; clear hb2
    generalize ofR s n (s.size + 1) 0 1 1 = g
    go_wp2_with fail
    refine (awake_any w2).mono ?_
    rintro e w3 ⟨rfl, hb3⟩
    have h3 : Hid (Below w1.heap.size w1 w3) := h2.out.trans (hb3.mono h2.out.size)
    clear hb3
    go_wp2_with fail
    go_ret
    exact ⟨rfl, h3.out⟩

end Go.Proofs.Ytiifakdpacicjaa
