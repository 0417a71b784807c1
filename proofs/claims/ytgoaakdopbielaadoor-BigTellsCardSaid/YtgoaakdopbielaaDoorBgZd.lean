import Derived.Test.YtgoaakdopbielaaDoorBgZb
namespace Go.Proofs.YtgoaakdopbielaaDoor
open Go.RowKit Go.Shelf
set_option linter.unusedSimpArgs false
set_option linter.unusedVariables false
set_option linter.unusedSectionVars false

/-! Layer 9: the chapter's example; the functions on written numbers. -/
def nB (z : Int) : ByteArray := ⟨(Lib.itoa z).toArray⟩
theorem nB_list (z : Int) : (nB z).data.toList = Lib.itoa z := rfl
def wS (z : Int) : ByteArray := if LIM ≤ z.natAbs then ⟨#[]⟩ else nB z
def wE (z : Int) : Int := if LIM ≤ z.natAbs then 10 else 0
theorem nB_right {z : Int} (h : z.natAbs < LIM) : rightB (nB z).data.toList = true ∧ zL (nB z).data.toList = z := ⟨(rightB_iff _).mpr (itoa_right h).1, (itoa_right h).2⟩
theorem rec_nB {x y : Int} (hx : x.natAbs < LIM) (hy : y.natAbs < LIM) (z : Int) : recS (nB x).data.toList (nB y).data.toList z = wS z ∧ recE (nB x).data.toList (nB y).data.toList z = wE z := by
  unfold recS recE wS wE
  rw [(nB_right hx).1, (nB_right hy).1, if_pos (show (true && true) = true from rfl), if_pos (show (true && true) = true from rfl)]
  exact ⟨rfl, rfl⟩
theorem nB_zero_iff (y : Int) : (nB y).data.toList = [48] ↔ y = 0 := by
  rw [nB_list]
  constructor
  · intro h; exact itoa_inj (h.trans (by decide +kernel))
  · rintro rfl; decide +kernel
theorem wS_in {z : Int} (h : z.natAbs < LIM) : wS z = nB z ∧ wE z = 0 := by
  unfold wS wE; rw [if_neg (by omega), if_neg (by omega)]; exact ⟨rfl, rfl⟩
theorem sum_nn (x y : Int) (w : World) (hx : x.natAbs < LIM) (hy : y.natAbs < LIM) (hE : EnvB w) :
    Calls Tryd.prog 11 #[.string (nB x), .string (nB y)] w fun e w' => e = .returned (.tuple #[.string (wS (x + y)), .int .i64 (wE (x + y))]) ∧ Below w.heap.size w w' := by
  have h := Sum_v (nB x) (nB y) w hE
  rwa [(nB_right hx).2, (nB_right hy).2, (rec_nB hx hy _).1, (rec_nB hx hy _).2] at h
theorem less_nn (x y : Int) (w : World) (hx : x.natAbs < LIM) (hy : y.natAbs < LIM) (hE : EnvB w) :
    Calls Tryd.prog 12 #[.string (nB x), .string (nB y)] w fun e w' => e = .returned (.tuple #[.string (wS (x - y)), .int .i64 (wE (x - y))]) ∧ Below w.heap.size w w' := by
  have h := Less_v (nB x) (nB y) w hE
  rwa [(nB_right hx).2, (nB_right hy).2, (rec_nB hx hy _).1, (rec_nB hx hy _).2] at h
theorem times_nn (x y : Int) (w : World) (hx : x.natAbs < LIM) (hy : y.natAbs < LIM) (hE : EnvB w) :
    Calls Tryd.prog 13 #[.string (nB x), .string (nB y)] w fun e w' => e = .returned (.tuple #[.string (wS (x * y)), .int .i64 (wE (x * y))]) ∧ Below w.heap.size w w' := by
  have h := Times_v (nB x) (nB y) w hE
  rwa [(nB_right hx).2, (nB_right hy).2, (rec_nB hx hy _).1, (rec_nB hx hy _).2] at h
theorem quot_nn (x y : Int) (w : World) (hx : x.natAbs < LIM) (hy : y.natAbs < LIM) (h0 : y ≠ 0) (hE : EnvB w) :
    Calls Tryd.prog 14 #[.string (nB x), .string (nB y)] w fun e w' => e = .returned (.tuple #[.string (wS (Int.tdiv x y)), .int .i64 (wE (Int.tdiv x y))]) ∧ Below w.heap.size w w' := by
  have h := Quotient_v (nB x) (nB y) w hE
  unfold recS0 recE0 at h
  rw [if_neg (fun hh => h0 ((nB_zero_iff y).mp hh)), if_neg (fun hh => h0 ((nB_zero_iff y).mp hh))] at h
  rwa [(nB_right hx).2, (nB_right hy).2, (rec_nB hx hy _).1, (rec_nB hx hy _).2] at h
theorem rest_nn (x y : Int) (w : World) (hx : x.natAbs < LIM) (hy : y.natAbs < LIM) (h0 : y ≠ 0) (hE : EnvB w) :
    Calls Tryd.prog 15 #[.string (nB x), .string (nB y)] w fun e w' => e = .returned (.tuple #[.string (wS (Int.tmod x y)), .int .i64 (wE (Int.tmod x y))]) ∧ Below w.heap.size w w' := by
  have h := Rest_v (nB x) (nB y) w hE
  unfold recS0 recE0 at h
  rw [if_neg (fun hh => h0 ((nB_zero_iff y).mp hh)), if_neg (fun hh => h0 ((nB_zero_iff y).mp hh))] at h
  rwa [(nB_right hx).2, (nB_right hy).2, (rec_nB hx hy _).1, (rec_nB hx hy _).2] at h
theorem nB_of {s : ByteArray} (h : rightB s.data.toList = true) : ∃ z : Int, z.natAbs < LIM ∧ s = nB z := by
  have h1 := right_itoa ((rightB_iff _).mp h)
  refine ⟨_, h1.2, ?_⟩
  apply ByteArray.ext
  apply Array.toList_inj.1
  exact h1.1.symm
theorem lim_small (z : Int) (h : z.natAbs ≤ 9223372036854775808) : z.natAbs < LIM := Nat.lt_of_le_of_lt h (by decide +kernel)
theorem awake_v (w : World) (hE : EnvB w) : Calls Tryd.prog 17 #[] w fun e w' => e = .returned (.bool true) ∧ Below w.heap.size w w' := by
  have h1 := fun w (hE : EnvB w) => times_nn (-12) 12 w (lim_small _ (by decide)) (lim_small _ (by decide)) hE
  have h2 := fun w (hE : EnvB w) => quot_nn (-7) 2 w (lim_small _ (by decide)) (lim_small _ (by decide)) (by decide) hE
  have h3 := fun w (hE : EnvB w) => rest_nn (-7) 2 w (lim_small _ (by decide)) (lim_small _ (by decide)) (by decide) hE
  rw [show nB (-12) = ⟨#[45, 49, 50]⟩ by decide +kernel, show nB 12 = ⟨#[49, 50]⟩ by decide +kernel, (wS_in (lim_small (-12 * 12) (by decide))).1, (wS_in (lim_small (-12 * 12) (by decide))).2, show nB (-12 * 12) = ⟨#[45, 49, 52, 52]⟩ by decide +kernel] at h1
  rw [show nB (-7) = ⟨#[45, 55]⟩ by decide +kernel, show nB 2 = ⟨#[50]⟩ by decide +kernel, (wS_in (lim_small (Int.tdiv (-7) 2) (by decide))).1, (wS_in (lim_small (Int.tdiv (-7) 2) (by decide))).2, show nB (Int.tdiv (-7) 2) = ⟨#[45, 51]⟩ by decide +kernel] at h2
  rw [show nB (-7) = ⟨#[45, 55]⟩ by decide +kernel, show nB 2 = ⟨#[50]⟩ by decide +kernel, (wS_in (lim_small (Int.tmod (-7) 2) (by decide))).1, (wS_in (lim_small (Int.tmod (-7) 2) (by decide))).2, show nB (Int.tmod (-7) 2) = ⟨#[45, 49]⟩ by decide +kernel] at h3
  have H1 := Lib.hid h1
  have H2 := Lib.hid h2
  have H3 := Lib.hid h3
  have HE := Lib.hid hE
  clear h1 h2 h3 hE
  go_enter Tryd.func17, Tryd.ntmps17
  go_wp2_with (first
    | (go_at_call 13; refine Calls.mono (H1.out _ HE.out) ?_; rintro e w1 ⟨rfl, hb1⟩; have HB1 := Lib.hid hb1; have HE1 := Lib.hid (HE.out.below hb1); clear hb1)
    | (go_at_call 14; refine Calls.mono (H2.out _ HE1.out) ?_; rintro e w2 ⟨rfl, hb2⟩; have HB2 := Lib.hid (HB1.out.trans (hb2.mono HB1.out.size)); have HE2 := Lib.hid (HE1.out.below hb2); clear hb2)
    | (go_at_call 15; refine Calls.mono (H3.out _ HE2.out) ?_; rintro e w3 ⟨rfl, hb3⟩; have HB3 := Lib.hid (HB2.out.trans (hb3.mono HB2.out.size)); clear hb3))
  go_ret
  exact ⟨by first | rfl | simp | decide +kernel, HB3.out⟩
end Go.Proofs.YtgoaakdopbielaaDoor
