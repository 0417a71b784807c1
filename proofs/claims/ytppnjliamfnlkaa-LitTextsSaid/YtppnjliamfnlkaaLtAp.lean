import Derived.Test.YtppnjliamfnlkaaLtAo
namespace Go.Proofs.Ytppnjliamfnlkaa
open Go.RowKit
set_option linter.unusedSimpArgs false
set_option linter.unusedVariables false
set_option linter.unusedSectionVars false

/-! The document's part, where no sign of the table stands (MADE BY wip/gen_refpart.py). -/
theorem refval_i (s : ByteArray) (a n base : Nat) (aI nI bI : Int) (w : World) (e1 : aI = a) (e2 : nI = n) (e3 : bI = base) (hs : s.size ≤ 100000000) (ha : a ≤ s.size) (hn : n ≤ 8) (hb2 : 2 ≤ base) (hb : base ≤ 16) (hp : base ^ n ≤ 4294967296)
    {R : Int} (hR : valI (refVal s a n base) = R) :
    Calls Try.prog 38 #[.string s, .int .i64 aI, .int .i64 nI, .int .i64 bI] w fun e w' => e = .returned (.int .i64 R) ∧ w' = w := by
  subst e1 e2 e3 hR
  exact refval_any s a n base w hs ha hn hb2 hb hp
theorem valF_lt (s : ByteArray) (base : Nat) : ∀ n i v j x, v < base ^ j → valF s base n i v = some x → x < base ^ (j + n)
  | 0, i, v, j, x, h, he => by cases he; exact h
  | n + 1, i, v, j, x, h, he => by
    have e2 : valF s base (n + 1) i v = if digitW (byteN s i) < base then valF s base n (i + 1) (v * base + digitW (byteN s i)) else none := rfl
    rw [e2] at he
    by_cases hd : digitW (byteN s i) < base
    · rw [if_pos hd] at he
      have := valF_lt s base n (i + 1) _ (j + 1) x (step_lt h hd) he
      rw [show j + (n + 1) = j + 1 + n by omega]; exact this
    · rw [if_neg hd] at he; cases he
theorem refVal_lt {s : ByteArray} {a n base x : Nat} (h : refVal s a n base = some x) : x < base ^ n := by
  unfold refVal at h
  split at h
  · cases h
  · have := valF_lt s base n a 0 0 x (by simp) h
    rwa [Nat.zero_add] at this
def bRow (c : Nat) : ByteArray := ⟨#[c.toUInt8]⟩
theorem bRow_list {c : Nat} (h : c < 256) : (bRow c).data.toList.map UInt8.toNat = [c] := by
  simp [bRow]; omega
theorem bRow_bsl {c : Nat} (h : c < 256) (w : World) : BSl (w.alloc (.cells #[.int .u8 (c : Int)] 5)) (some ⟨w.heap.size, 0, none⟩) (bRow c) := by
  refine .inr ⟨w.heap.size, 0, rfl, ?_, by simp⟩
  intro i hi
  have h1 : i < 1 := hi
  obtain rfl : i = 0 := by omega
  have hb : (w.alloc (.cells #[.int .u8 (c : Int)] 5)).heap[w.heap.size]? = some (.cells #[.int .u8 (c : Int)] 5) := heap_alloc_new w _
  rw [Nat.zero_add, cell_of hb]
  have : byteN (bRow c) 0 = c := by
    have : byteN (bRow c) 0 = c % 256 := by simp [byteN, bRow]
    omega
  rw [this]; rfl

set_option maxRecDepth 100000 in
set_option maxHeartbeats 6400000 in
theorem refpart_x_no (s : ByteArray) (a : Nat) (w : World) (hs : s.size ≤ 100000000) (ha : a < s.size) (h : byteN s a = 120) (hv : singleF (byteN s a) = none) (hR : refVal s (a + 1) 2 16 = none) :
    Calls Try.prog 26 #[.string s, .int .i64 a] w (PartW w (none)) := by
  have hx := str_byte s a ha
  have haI : (a : Int) < s.size := by omega
  have hne : ((a : Int) == (s.size : Int)) = false := by simp; omega
  have hc := byteN_lt s a
  obtain ⟨c, hcc⟩ : ∃ c : Nat, byteN s a = c := ⟨_, rfl⟩
  rw [hcc] at hx hc hv h
  have k1 : ((c : Int) == 120) = true := by simp; omega
  have k2 : (c == 120) = true := by simp; omega
  have hval := fun w => refval_i s (a + 1) 2 16 ((a : Int) + 1) 2 16 w (by omega) rfl rfl hs (by omega) (by omega) (by omega) (by omega) (by decide) (congrArg valI hR)
  simp only [valI] at hval
  clear h hcc hR
  have hfz : fromT.size = 9 := rfl
  obtain ⟨fr, hfr⟩ : ∃ fr : ByteArray, fromT = fr := ⟨_, rfl⟩
  have hfr2 : (⟨#[97, 98, 102, 110, 114, 116, 118, 92, 34]⟩ : ByteArray) = fr := hfr
  have HFr := Lib.hid hfr
  rw [hfr] at hfz
  have hfzI : (fr.size : Int) = 9 := by omega
  have HV := Lib.hid hv
  clear hv hfr
  go_enter Try.func26, Try.ntmps26
  go_wp2_with fail
  go_loopw [8] (fun iv wr => ∃ i : Nat, iv = .int .i64 i ∧ i ≤ 9 ∧ (∀ j, j < i → byteN fr j ≠ c) ∧ Below w.heap.size w wr) (fun iv _ => 9 - (intOf iv).toNat)
  case atStart => exact ⟨0, rfl, by omega, by omega, (Below.refl _ _).alloc (by omega) _⟩
  case round =>
    obtain ⟨i, rfl, hi, hall, hbl⟩ := hrel
    have HA := Lib.hid hall
    have HL := Lib.hid hbl
    have hsz := hbl.size
    clear hall hbl
    by_cases hlt : i < 9
    · have hif : i < fr.size := by omega
      have hifI : (i : Int) < fr.size := by omega
      have hy := str_byte fr i hif
      have hyl := byteN_lt fr i
      by_cases hq : byteN fr i = c
      · exfalso
        have hcv : singleF c = some (byteN toT i) := by rw [← hq, ← HFr.out]; exact from_to i hlt
        rw [HV.out] at hcv
        cases hcv
      · have hqb : (c == byteN fr i) = false := by simp; omega
        have hqi : ((c : Int) == (byteN fr i : Int)) = false := by simp; omega
        have HQ := Lib.hid hq
        clear hq
        go_wp2_with fail
        go_region
        go_wp2_with fail
        go_roundw
        case rel => exact ⟨i + 1, by go_num, by omega, all_next HA.out HQ.out, HL.out.drew⟩
        case measure => simp [intOf]; omega
    ·
      go_wp2_with (go_at_call 38; with_reducible refine Calls.mono (hval _) ?_; rintro e w2 ⟨rfl, hw2⟩; replace hw2 := hw2.symm; subst hw2)
      go_ret2
      exact ⟨rfl, HL.out⟩

set_option maxRecDepth 100000 in
set_option maxHeartbeats 6400000 in
theorem refpart_x (s : ByteArray) (a : Nat) (w : World) (hs : s.size ≤ 100000000) (ha : a < s.size) (h : byteN s a = 120) (hv : singleF (byteN s a) = none) {v : Nat} (hR : refVal s (a + 1) 2 16 = some v) :
    Calls Try.prog 26 #[.string s, .int .i64 a] w (PartW w (some ([v], 3))) := by
  have hx := str_byte s a ha
  have haI : (a : Int) < s.size := by omega
  have hne : ((a : Int) == (s.size : Int)) = false := by simp; omega
  have hc := byteN_lt s a
  have hvl := refVal_lt hR
  rw [show 16 ^ 2 = 256 from rfl] at hvl
  obtain ⟨c, hcc⟩ : ∃ c : Nat, byteN s a = c := ⟨_, rfl⟩
  rw [hcc] at hx hc hv h
  have k1 : ((c : Int) == 120) = true := by simp; omega
  have k2 : (c == 120) = true := by simp; omega
  have hval := fun w => refval_i s (a + 1) 2 16 ((a : Int) + 1) 2 16 w (by omega) rfl rfl hs (by omega) (by omega) (by omega) (by omega) (by decide) (congrArg valI hR)
  simp only [valI] at hval
  clear h hcc hR
  have hfz : fromT.size = 9 := rfl
  obtain ⟨fr, hfr⟩ : ∃ fr : ByteArray, fromT = fr := ⟨_, rfl⟩
  have hfr2 : (⟨#[97, 98, 102, 110, 114, 116, 118, 92, 34]⟩ : ByteArray) = fr := hfr
  have HFr := Lib.hid hfr
  rw [hfr] at hfz
  have hfzI : (fr.size : Int) = 9 := by omega
  have HV := Lib.hid hv
  clear hv hfr
  go_enter Try.func26, Try.ntmps26
  go_wp2_with fail
  go_loopw [8] (fun iv wr => ∃ i : Nat, iv = .int .i64 i ∧ i ≤ 9 ∧ (∀ j, j < i → byteN fr j ≠ c) ∧ Below w.heap.size w wr) (fun iv _ => 9 - (intOf iv).toNat)
  case atStart => exact ⟨0, rfl, by omega, by omega, (Below.refl _ _).alloc (by omega) _⟩
  case round =>
    obtain ⟨i, rfl, hi, hall, hbl⟩ := hrel
    have HA := Lib.hid hall
    have HL := Lib.hid hbl
    have hsz := hbl.size
    clear hall hbl
    by_cases hlt : i < 9
    · have hif : i < fr.size := by omega
      have hifI : (i : Int) < fr.size := by omega
      have hy := str_byte fr i hif
      have hyl := byteN_lt fr i
      by_cases hq : byteN fr i = c
      · exfalso
        have hcv : singleF c = some (byteN toT i) := by rw [← hq, ← HFr.out]; exact from_to i hlt
        rw [HV.out] at hcv
        cases hcv
      · have hqb : (c == byteN fr i) = false := by simp; omega
        have hqi : ((c : Int) == (byteN fr i : Int)) = false := by simp; omega
        have HQ := Lib.hid hq
        clear hq
        go_wp2_with fail
        go_region
        go_wp2_with fail
        go_roundw
        case rel => exact ⟨i + 1, by go_num, by omega, all_next HA.out HQ.out, HL.out.drew⟩
        case measure => simp [intOf]; omega
    ·
      have hv256 : (v : Int) < 256 := by omega
      go_wp2_with (go_at_call 38; with_reducible refine Calls.mono (hval _) ?_; rintro e w2 ⟨rfl, hw2⟩; replace hw2 := hw2.symm; subst hw2)
      go_ret2
      have h256 : v < 256 := by omega
      have hl1 := bRow_list h256
      have hl2 := bRow_bsl h256 wr
      have hl3 := HL.out.alloc (by omega) (.cells #[.int .u8 (v : Int)] 5)
      refine ⟨⟨some ⟨wr.heap.size, 0, none⟩, 1, bRow v, ?_, hl1, hl2⟩, hl3⟩
      simp
end Go.Proofs.Ytppnjliamfnlkaa
