import Derived.Test.YtiifakdpacicjaaV
namespace Go.Proofs.Ytiifakdpacicjaa
open Go.RowKit

theorem wrong_r (p : Option Addr) (cap : Nat) (s : ByteArray) (w : World) (hb : BSl w p s) (hs : s.size ≤ 4611686018427387904) :
    Calls Try.prog 10 #[.slice p s.size cap] w fun e w' => e = .returned (.int .i64 (wrongR s (s.size + 1) 0)) ∧ Below w.heap.size w w' := by
  rw [← wrongF_eq s]; exact wrong_b p cap s w hb hs
theorem grown_below {w w1 w2 : World} {v : Value} {g n c : Nat} (h1 : Below w.heap.size w w1) (hv : v = .slice (some ⟨g, 0, none⟩) n c) (hg : w1.grownBy w2 v.ownBlock) (h : w.heap.size ≤ g) : Below w.heap.size w w2 :=
  h1.grown hg h1.size (by subst hv; intro k hk; simp only [Value.ownBlock, Option.some.injEq] at hk; omega)

set_option maxHeartbeats 800000 in
theorem placeWrong_walk (p : Option Addr) (cap : Nat) (s : ByteArray) (w : World) (hb : BSl w p s) (hc : p = none → cap = 0) :
    Calls Try.prog 3 #[.slice p s.size cap] w fun e w' => e = .returned (.bool true) ∧ Below w.heap.size w w' := by
  by_cases hl : 1000 < s.size
  · have hl' : (1000 : Int) < s.size := by omega
    clear hl
    go_enter Try.func3, Try.ntmps3
    go_wp2_with fail
    go_ret
    exact ⟨rfl, Below.refl _ _⟩
  have hl' : ¬ (1000 : Int) < s.size := by omega
  have HB := Lib.hid hb; clear hb
  have HC := Lib.hid hc; clear hc
  go_enter Try.func3, Try.ntmps3
  go_wp2_with (at_builtin; refine wp_append_bytes rfl _ _ rfl w.heap.size _ ByteArray.empty rfl (OwnB.made (Nat.le_refl _)) p cap s rfl (HB.out.alloc _) HC.out (by simp; omega) (by simp) ?_; intro v1 w1 hv1 hg1; have HV := Lib.hid hv1; have HG := Lib.hid hg1; clear hv1 hg1)
  have HB1 : Hid (Below w.heap.size w w1) := grown_below ((Below.refl _ _).alloc (Nat.le_refl _) _) rfl HG.out (Nat.le_refl _)
  obtain ⟨q, c, rfl, hq, _, _⟩ := HV.out.bsl
  rw [ByteArray.empty_append] at hq ⊢
  refine (wrong_r q c s w1 hq (by omega)).mono ?_
  rintro e w2 ⟨rfl, hb2⟩
  have HB2 : Hid (Below w.heap.size w w2) := HB1.out.trans (hb2.mono HB1.out.size)
  clear hb2 hq
  go_wp2_with fail
  refine (refWrong_any p cap s w2 (HB.out.below HB2.out) (by omega)).mono ?_
  rintro e w3 ⟨rfl, rfl⟩
  go_wp2_with fail
  refine (lines_p p cap s w3 (HB.out.below HB2.out) (by omega)).mono ?_
  rintro e w4 ⟨rfl, hb4⟩
  have HB4 : Hid (Below w.heap.size w w4) := HB2.out.trans (hb4.mono HB2.out.size)
  clear hb4
  go_wp2_with fail
  refine (refLines_any p cap s w4 (HB.out.below HB4.out) (by omega)).mono ?_
  rintro e w5 ⟨rfl, rfl⟩
  go_wp2_with fail
  refine (awake_any w5).mono ?_
  rintro e w6 ⟨rfl, hb6⟩
  have HB6 : Hid (Below w.heap.size w w6) := HB4.out.trans (hb6.mono HB4.out.size)
  clear hb6
  go_wp2_with fail
  go_ret
  exact ⟨rfl, HB6.out⟩

end Go.Proofs.Ytiifakdpacicjaa
