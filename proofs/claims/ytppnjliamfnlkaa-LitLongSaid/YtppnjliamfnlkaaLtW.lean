import Derived.Test.YtppnjliamfnlkaaLtV
import Derived.Test.YtppnjliamfnlkaaLtQ
import Derived.Deep.OwnRows
namespace Go.Proofs.Ytppnjliamfnlkaa
open Go.RowKit
set_option linter.unusedSimpArgs false
set_option linter.unusedVariables false
set_option linter.unusedSectionVars false

/-! LitLong. -/
/-- A row that is being filled: c in the first i, 0 behind. -/
def Fill (w : World) (g k c i : Nat) : Prop := ∃ cs, w.heap[g]? = some (.cells cs 5 (0, 0)) ∧ cs.size = k ∧ ∀ j, j < k → cs[j]? = some (.int .u8 (if j < i then (c : Int) else 0))
theorem fill_made (w : World) (k c : Nat) : Fill (w.alloc (.cells (madeCells #[.int .u8 0] k) 5)) w.heap.size k c 0 := by
  refine ⟨_, heap_alloc_new w _, ?_, ?_⟩
  · simp [madeCells]
  · intro j hj
    simp only [madeCells]
    rw [Array.getElem?_map]
    simp [hj, Nat.mod_one]
theorem fill_set {w : World} {g k c i : Nat} (h : Fill w g k c i) (hi : i < k) : Fill (w.setCell ⟨g, i, none⟩ (.int .u8 c)) g k c (i + 1) := by
  obtain ⟨cs, h1, h2, h3⟩ := h
  refine ⟨_, heap_setCell h1 _, by simp [h2], ?_⟩
  intro j hj
  rw [Array.getElem?_setIfInBounds]
  by_cases hji : i = j
  · subst hji
    rw [if_pos rfl, if_pos (by omega), if_pos (by omega)]
  · rw [if_neg hji, h3 j hj]
    by_cases hl : j < i
    · rw [if_pos hl, if_pos (by omega)]
    · rw [if_neg hl, if_neg (by omega)]
theorem fill_done {w : World} {g k c : Nat} (h : Fill w g k c k) (hc : c < 256) (hg : g < w.heap.size) : BSl w (some ⟨g, 0, none⟩) (repB k (UInt8.ofNat c)) := by
  obtain ⟨cs, h1, h2, h3⟩ := h
  refine .inr ⟨g, 0, rfl, ?_, hg⟩
  intro i hi
  rw [repB_size] at hi
  rw [repB_byte _ _ _ hi, Nat.zero_add, cell_of h1, h3 i hi, if_pos hi]
  congr 2
  simp; omega

theorem fill_zero {w : World} {g k : Nat} (h : Fill w g k 0 0) : Fill w g k 0 k := by
  obtain ⟨cs, h1, h2, h3⟩ := h
  exact ⟨cs, h1, h2, fun j hj => by rw [h3 j hj]; simp⟩
theorem conv_zeros (K : Nat) (w : World) : (convert 32 9 (.slice (some ⟨w.heap.size, 0, none⟩) K K)).run Try.prog (w.alloc (.cells (madeCells #[.int .u8 0] K) 5)) = .ok (.string (repB K (UInt8.ofNat 0))) (w.alloc (.cells (madeCells #[.int .u8 0] K) 5)) := by
  have hb := fill_done (fill_zero (fill_made w K 0)) (by omega) (by simp)
  have := conv_at hb K
  rw [repB_size] at this
  exact this

set_option maxRecDepth 100000 in
set_option maxHeartbeats 6400000 in
theorem long_walk (n c : Nat) (hn : n < 65536) (hc : c < 256) (w : World) :
    Calls Try.prog 7 #[.int .u16 n, .int .u8 c] w fun e w' => e = .returned (.bool true) ∧ Below w.heap.size w w' := by
  obtain ⟨k, hk⟩ : ∃ k, n % 210 + 1 = k := ⟨_, rfl⟩
  have hkc : (n : Int) % 210 + 1 = (k : Int) := by omega
  have hkt : (n : Int).tmod 210 + 1 = (k : Int) := by rw [Int.tmod_eq_emod_of_nonneg (by omega)]; omega
  have hk1 : 1 ≤ k := by omega
  have hk2 : k ≤ 210 := by omega
  obtain ⟨d, hd⟩ : ∃ d, 49 + c % 9 = d := ⟨_, rfl⟩
  have hdc : (49 : Int) + (c : Int) % 9 = (d : Int) := by omega
  have hdt : (49 : Int) + (c : Int).tmod 9 = (d : Int) := by rw [Int.tmod_eq_emod_of_nonneg (by omega)]; omega
  have hd1 : 49 ≤ d := by omega
  have hd2 : d ≤ 57 := by omega
  have hmk := run_make_row' (P := Try.prog) 32 5 (.int .u8 0) 1 Try.underlying32 (by kernel_rfl) rfl .i64 .i64 k (by omega) (by omega)
  obtain ⟨K, hK⟩ : ∃ K : Nat, K = 65537 := ⟨_, rfl⟩
  have hmk2 := run_make_row' (P := Try.prog) 32 5 (.int .u8 0) 1 Try.underlying32 (by kernel_rfl) rfl .i64 .i64 K (by omega) (by omega)
  have hKI : (K : Int) = 65537 := by omega
  rw [hKI] at hmk2
  have hcz := conv_zeros K
  have hT := fun w => Text_any (repB K (UInt8.ofNat 0)) w (by rw [repB_size]; omega) (fun h => by rw [repB_size] at h; omega)
  rw [show textV (repB K (UInt8.ofNat 0)) = ⟨#[]⟩ from by rw [textV, if_pos (by rw [repB_size]; omega)], show textE (repB K (UInt8.ofNat 0)) = 12 from by rw [textE, if_pos (by rw [repB_size]; omega)]] at hT
  clear hk hd hK hKI
  go_enter Try.func7, Try.ntmps7
  go_wp2_with fail
  have hf0 := fill_made w k d
  have hb1 : Below w.heap.size w (w.alloc (.cells (madeCells #[.int .u8 0] k) 5)) := (Below.refl _ _).alloc (Nat.le_refl _) _
  have hg1 : w.heap.size < (w.alloc (.cells (madeCells #[.int .u8 0] k) 5)).heap.size := by simp
  generalize w.alloc (.cells (madeCells #[.int .u8 0] k) 5) = w1 at hf0 hb1 hg1 ⊢
  clear hmk
  go_loopw [7] (fun v wr => ∃ i : Nat, v = .int .i64 i ∧ i ≤ k ∧ Fill wr w.heap.size k d i ∧ Below w.heap.size w wr ∧ w.heap.size < wr.heap.size) (fun v _ => k - (intOf v).toNat)
  case atStart => exact ⟨0, rfl, by omega, hf0, hb1, hg1⟩
  case round =>
    obtain ⟨i, rfl, hik, hf, hbr, hg⟩ := hrel
    clear hf0 hb1 hg1
    have HF := Lib.hid hf
    have HBR := Lib.hid hbr
    by_cases hlt : i < k
    · obtain ⟨cs, h1, h2', h3⟩ := hf
      have e0 := (cell_of h1 i).trans (h3 i hlt)
      have e1 := free_of h1 i
      clear h1 h2' h3 hbr hT hcz hmk2
      go_wp2_with fail
      refine ⟨⟨i + 1, by go_num, by omega, fill_set HF.out hlt, HBR.out.setCell (Nat.le_refl _) _, by simpa using hg⟩, ?_⟩
      simp [intOf]; omega
    · obtain rfl : i = k := by omega
      have hB := fill_done hf (by omega) hg
      have hcv := conv_at hB i
      have hcv3 := fun w' (hb : Below wr.heap.size wr w') => conv_at (hB.below hb) i
      rw [repB_size] at hcv
      simp only [repB_size] at hcv3
      have HCV := Lib.hid hcv3
      have hN := Number_any (repB i (UInt8.ofNat d)) wr (by rw [repB_size]; omega)
      have hsz : (repB i (UInt8.ofNat d)).size = i := repB_size _ _
      clear hcv3 hf hB hbr
      by_cases hlong : 200 < i
      · rw [show numV (repB i (UInt8.ofNat d)) = ⟨#[]⟩ from by rw [numV, if_pos (by rw [repB_size]; omega)], show numE (repB i (UInt8.ofNat d)) = 12 from by rw [numE, if_pos (by rw [repB_size]; omega)]] at hN
        generalize repB i (UInt8.ofNat d) = z at *
        generalize repB K (UInt8.ofNat 0) = z0 at *
        go_wp2_with (first
          | (go_at_call 8; with_reducible refine Calls.mono hN ?_; rintro e w2 ⟨rfl, hb2⟩; have HB2 := Lib.hid hb2; clear hb2 hN)
          | (go_at_call 13; with_reducible refine Calls.mono (hT _) ?_; rintro e w4 ⟨rfl, hb4⟩
             have hb3 : Below wr.heap.size wr w4 := (HB2.out.alloc (HB2.out.size) _).trans (hb4.mono (by have := HB2.out.size; simp; omega))
             have hcv3 := HCV.out _ hb3
             have HB3 := Lib.hid hb3
             clear hb3 hb4)
          | (go_at_call 12; with_reducible refine Calls.mono (awake_any _) ?_; rintro e w5 ⟨rfl, hb5⟩; have HB5 := Lib.hid hb5; clear hb5))
        go_ret
        exact ⟨rfl, HBR.out.trans ((HB3.out.trans (HB5.out.mono HB3.out.size)).mono HBR.out.size)⟩
      · have hr := rep_num i d (by omega) hd1 hd2
        rw [show numV (repB i (UInt8.ofNat d)) = repB i (UInt8.ofNat d) from by rw [numV, if_neg (by rw [repB_size]; omega), hr]; rfl, show numE (repB i (UInt8.ofNat d)) = 0 from by rw [numE, if_neg (by rw [repB_size]; omega), hr]; rfl] at hN
        clear hr
        generalize repB i (UInt8.ofNat d) = z at *
        generalize repB K (UInt8.ofNat 0) = z0 at *
        have hzz : (z.toList == z.toList) = true := by simp
        go_wp2_with (first
          | (go_at_call 8; with_reducible refine Calls.mono hN ?_; rintro e w2 ⟨rfl, hb2⟩; have HB2 := Lib.hid hb2; clear hb2 hN)
          | (go_at_call 13; with_reducible refine Calls.mono (hT _) ?_; rintro e w4 ⟨rfl, hb4⟩
             have hb3 : Below wr.heap.size wr w4 := (HB2.out.alloc (HB2.out.size) _).trans (hb4.mono (by have := HB2.out.size; simp; omega))
             have hcv3 := HCV.out _ hb3
             have HB3 := Lib.hid hb3
             clear hb3 hb4)
          | (go_at_call 12; with_reducible refine Calls.mono (awake_any _) ?_; rintro e w5 ⟨rfl, hb5⟩; have HB5 := Lib.hid hb5; clear hb5))
        go_ret
        exact ⟨rfl, HBR.out.trans ((HB3.out.trans (HB5.out.mono HB3.out.size)).mono HBR.out.size)⟩
theorem long_law (a0 a1 : Int) (w : World) (w0 : (Lit.int .u16 a0).wf = true) (w1 : (Lit.int .u8 a1).wf = true) :
    Calls Try.prog 7 #[.int .u16 a0, .int .u8 a1] w fun e w' => e = .returned (.bool true) ∧ Below w.heap.size w w' := by
  have h1 : IntKind.u16.min = 0 := rfl
  have h3 : IntKind.u16.max = 65535 := rfl
  have h4 : IntKind.u8.min = 0 := rfl
  have h5 : IntKind.u8.max = 255 := rfl
  simp only [Lit.wf, Bool.and_eq_true, decide_eq_true_eq] at w0 w1
  obtain ⟨n, rfl⟩ := Int.eq_ofNat_of_zero_le (show 0 ≤ a0 by omega)
  obtain ⟨c, rfl⟩ := Int.eq_ofNat_of_zero_le (show 0 ≤ a1 by omega)
  exact long_walk n c (by omega) (by omega) w
end Go.Proofs.Ytppnjliamfnlkaa
