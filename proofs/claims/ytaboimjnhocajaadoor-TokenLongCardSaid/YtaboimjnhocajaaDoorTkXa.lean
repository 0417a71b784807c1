import Derived.Test.YtaboimjnhocajaaDoorTkX
import Derived.Test.YtaboimjnhocajaaDoorTkR
import Derived.Deep.OwnRows
namespace Go.Proofs.YtaboimjnhocajaaDoor
open Go.RowKit
set_option linter.unusedSimpArgs false
set_option linter.unusedVariables false

/-- A row that is being filled: c in the first i, 0 behind. -/
def Fill (w : World) (g k c i : Nat) : Prop := ∃ cs, w.heap[g]? = some (.cells cs 5 (0, 0)) ∧ cs.size = k ∧ ∀ j, j < k → cs[j]? = some (.int .u8 (if j < i then (c : Int) else 0))

theorem fill_made (w : World) (k c : Nat) : Fill (w.alloc (.cells (madeCells #[.int .u8 0] k) 5)) w.heap.size k c 0 := by
  refine ⟨_, heap_alloc_new w _, ?_, ?_⟩
  · simp [madeCells]
  · intro j hj
    simp only [madeCells]
    rw [Array.getElem?_map]
    simp [hj, Nat.mod_one]
theorem fill_set {w : World} {g k c i : Nat} (h : Fill w g k c i) (hi : i < k) : Fill (w.setCell ⟨g, i, none⟩ (.int .u8 c)) g k c (i + 1) := by
  obtain ⟨cs, h1, h2, h3⟩ := h
  refine ⟨_, heap_setCell h1 _, by simp [h2], ?_⟩
  intro j hj
  rw [Array.getElem?_setIfInBounds]
  by_cases hji : i = j
  · subst hji
    rw [if_pos rfl, if_pos (by omega), if_pos (by omega)]
  · rw [if_neg hji, h3 j hj]
    by_cases hl : j < i
    · rw [if_pos hl, if_pos (by omega)]
    · rw [if_neg hl, if_neg (by omega)]
theorem fill_done {w : World} {g k c : Nat} (h : Fill w g k c k) (hc : c < 256) (hg : g < w.heap.size) : BSl w (some ⟨g, 0, none⟩) (rep k (UInt8.ofNat c)) := by
  obtain ⟨cs, h1, h2, h3⟩ := h
  refine .inr ⟨g, 0, rfl, ?_, hg⟩
  intro i hi
  rw [rep_size] at hi
  rw [rep_byte _ _ _ hi, Nat.zero_add, cell_of h1, h3 i hi, if_pos hi]
  congr 2
  simp; omega

set_option maxRecDepth 100000 in
set_option maxHeartbeats 6400000 in
theorem long_walk (n c : Nat) (hn : n < 65536) (hc : c < 256) (w : World) (hE : Env w) (h2 : 2 ≤ w.heap.size) :
    Calls Tryd.prog 9 #[.int .u16 n, .int .u8 c] w fun e w' => e = .returned (.bool true) ∧ Below w.heap.size w w' := by
  obtain ⟨k, hk⟩ : ∃ k, 65530 + n % 12 = k := ⟨_, rfl⟩
  have hkc : (65530 : Int) + (n : Int) % 12 = (k : Int) := by omega
  have hk1 : 65530 ≤ k := by omega
  have hk2 : k ≤ 65541 := by omega
  have hmk := run_make_row' (P := Tryd.prog) 22 5 (.int .u8 0) 1 Tryd.underlying22 (by kernel_rfl) rfl .i64 .i64 k (by omega) (by omega)
  clear hk
  have HE := Lib.hid hE
  clear hE
  go_enter Tryd.func9, Tryd.ntmps9
  go_wp2_with fail
  have hf0 := fill_made w k c
  have hb1 : Below w.heap.size w (w.alloc (.cells (madeCells #[.int .u8 0] k) 5)) := (Below.refl _ _).alloc (Nat.le_refl _) _
  have hg1 : w.heap.size < (w.alloc (.cells (madeCells #[.int .u8 0] k) 5)).heap.size := by simp
  generalize w.alloc (.cells (madeCells #[.int .u8 0] k) 5) = w1 at hf0 hb1 hg1 ⊢
  clear hmk
  go_loopw [7] (fun v wr => ∃ i : Nat, v = .int .i64 i ∧ i ≤ k ∧ Fill wr w.heap.size k c i ∧ Below w.heap.size w wr ∧ w.heap.size < wr.heap.size) (fun v _ => k - (intOf v).toNat)
  case atStart => exact ⟨0, rfl, by omega, hf0, hb1, hg1⟩
  case round =>
    obtain ⟨i, rfl, hik, hf, hbr, hg⟩ := hrel
    clear hf0 hb1 hg1
    have HF := Lib.hid hf
    have HBR := Lib.hid hbr
    by_cases hlt : i < k
    · obtain ⟨cs, h1, h2', h3⟩ := hf
      have e0 := (cell_of h1 i).trans (h3 i hlt)
      have e1 := free_of h1 i
      clear h1 h2' h3 hbr
      go_wp2_with fail
      refine ⟨⟨i + 1, by go_num, by omega, fill_set HF.out hlt, HBR.out.setCell (Nat.le_refl _) _, by simpa using hg⟩, ?_⟩
      simp [intOf]; omega
    · obtain rfl : i = k := by omega
      have hB := fill_done hf hc hg
      have hE' := HE.out.below hbr h2
      have hss : 2 ≤ wr.heap.size := by omega
      have hsz : (rep i (UInt8.ofNat c)).size = i := rep_size _ _
      have hsc := Scan_any (some ⟨w.heap.size, 0, none⟩) i (rep i (UInt8.ofNat c)) wr hB hE' hss (by omega)
      have hnt := fun w1 (hb1 : Below wr.heap.size wr w1) => Notes_any (some ⟨w.heap.size, 0, none⟩) i (rep i (UInt8.ofNat c)) w1 (hB.below hb1) (hE'.below hb1 hss) (by have := hb1.size; omega) (by omega)
      have haw := fun w1 (hb1 : Below wr.heap.size wr w1) => awake_any w1 (hE'.below hb1 hss) (by have := hb1.size; omega)
      rw [hsz] at hsc
      simp only [hsz] at hnt
      have HNT := Lib.hid hnt
      have HAW := Lib.hid haw
      clear hnt haw hf hB
      by_cases hlong : 65536 < i
      · have hR : scanF (rep i (UInt8.ofNat c)) = .error (65536, 12) := by unfold scanF; rw [hsz, if_pos hlong]
        have hnt := HNT.out
        rw [hR] at hsc hnt
        have HNT2 := Lib.hid hnt
        clear hnt HNT hR hE'
        go_wp2_with (first
          | (go_at_call 10; refine hsc.mono ?_; rintro e w2 ⟨rfl, hb2⟩)
          | (go_at_call 13; refine (HNT2.out _ hb2).mono ?_; rintro e w3 ⟨rfl, hb3⟩; have hb23 := hb2.trans (hb3.mono hb2.size))
          | (go_at_call 14; refine (HAW.out _ hb23).mono ?_; rintro e w4 ⟨rfl, hb4⟩))
        go_ret
        exact ⟨rfl, HBR.out.trans ((hb23.trans (hb4.mono hb23.size)).mono HBR.out.size)⟩
      · by_cases hc97 : c = 97
        · subst hc97
          obtain ⟨tk, nt, hR, hlen⟩ := scan_rep i (by omega) (by omega)
          rw [show UInt8.ofNat 97 = 97 from rfl, hR] at hsc
          clear HNT hR hE'
          go_wp2_with (first
            | (go_at_call 10; refine hsc.mono ?_; rintro e w2 ⟨vt, rfl, hb2, ho⟩; obtain ⟨a1, c1, rfl⟩ := own_slice ho; rw [hlen])
            | (go_at_call 14; refine (HAW.out _ hb2).mono ?_; rintro e w4 ⟨rfl, hb4⟩))
          go_ret
          exact ⟨rfl, HBR.out.trans ((hb2.trans (hb4.mono hb2.size)).mono HBR.out.size)⟩
        · have hsh : ∀ a n, scanF (rep i (UInt8.ofNat c)) = .error (a, n) → n ≠ 12 := fun a n h => scan_short (by omega) h
          have hne : ((c : Int) != 97) = true := by simp; omega
          clear HNT hE'
          generalize scanF (rep i (UInt8.ofNat c)) = R at hsc hsh
          rcases R with ⟨at_, n⟩ | ⟨tk, nt⟩
          · have hn12 : (n != 12) = true := by simpa using hsh _ _ rfl
            clear hsh
            go_wp2_with (first
              | (go_at_call 10; refine hsc.mono ?_; rintro e w2 ⟨rfl, hb2⟩)
              | (go_at_call 14; refine (HAW.out _ hb2).mono ?_; rintro e w4 ⟨rfl, hb4⟩))
            go_ret
            exact ⟨rfl, HBR.out.trans ((hb2.trans (hb4.mono hb2.size)).mono HBR.out.size)⟩
          · clear hsh
            go_wp2_with (first
              | (go_at_call 10; refine hsc.mono ?_; rintro e w2 ⟨vt, rfl, hb2, ho⟩; obtain ⟨a1, c1, rfl⟩ := own_slice ho)
              | (go_at_call 14; refine (HAW.out _ hb2).mono ?_; rintro e w4 ⟨rfl, hb4⟩))
            go_ret
            exact ⟨rfl, HBR.out.trans ((hb2.trans (hb4.mono hb2.size)).mono HBR.out.size)⟩
end Go.Proofs.YtaboimjnhocajaaDoor
