import Derived.Test.YtppnjliamfnlkaaLtAn
import Derived.Test.YtppnjliamfnlkaaLtM
import Derived.Test.YtppnjliamfnlkaaPlE1
import Derived.Test.YtppnjliamfnlkaaReg
namespace Go.Proofs.Ytppnjliamfnlkaa
open Go.RowKit
set_option linter.unusedSimpArgs false
set_option linter.unusedVariables false
set_option linter.unusedSectionVars false

/-! The document's part: what stands behind a backslash. -/
/-- What it gives: its bytes in a row of their own, how many bytes it took. -/
def PartW (w : World) : Option (List Nat × Nat) → Ending → World → Prop
  | some (l, k), e, w' => (∃ p cap t, e = .returned (.tuple #[.slice p l.length cap, .int .i64 (k : Int)]) ∧ t.data.toList.map UInt8.toNat = l ∧ BSl w' p t) ∧ Below w.heap.size w w'
  | none, e, w' => e = .returned (.tuple #[.slice none 0 0, .int .i64 0]) ∧ Below w.heap.size w w'
def fromT : ByteArray := ⟨#[97, 98, 102, 110, 114, 116, 118, 92, 34]⟩
theorem single_from {c : Nat} : ∀ k, k ≤ 9 → (∀ j, j < k → byteN fromT j ≠ c) → k = 9 → singleF c = none := by
  intro k _ h hk
  subst hk
  have h0 := h 0 (by omega)
  have h1 := h 1 (by omega)
  have h2 := h 2 (by omega)
  have h3 := h 3 (by omega)
  have h4 := h 4 (by omega)
  have h5 := h 5 (by omega)
  have h6 := h 6 (by omega)
  have h7 := h 7 (by omega)
  have h8 := h 8 (by omega)
  rw [show byteN fromT 0 = 97 from rfl] at h0
  rw [show byteN fromT 1 = 98 from rfl] at h1
  rw [show byteN fromT 2 = 102 from rfl] at h2
  rw [show byteN fromT 3 = 110 from rfl] at h3
  rw [show byteN fromT 4 = 114 from rfl] at h4
  rw [show byteN fromT 5 = 116 from rfl] at h5
  rw [show byteN fromT 6 = 118 from rfl] at h6
  rw [show byteN fromT 7 = 92 from rfl] at h7
  rw [show byteN fromT 8 = 34 from rfl] at h8
  unfold singleF
  rw [if_neg (by omega), if_neg (by omega), if_neg (by omega), if_neg (by omega), if_neg (by omega), if_neg (by omega), if_neg (by omega), if_neg (by omega), if_neg (by omega)]
def toT : ByteArray := ⟨#[7, 8, 12, 10, 13, 9, 11, 92, 34]⟩
theorem from_to : ∀ k, k < 9 → singleF (byteN fromT k) = some (byteN toT k) := by decide +kernel

set_option maxHeartbeats 6400000 in
theorem refpart_end (s : ByteArray) (w : World) (hs : s.size ≤ 100000000) :
    Calls Try.prog 26 #[.string s, .int .i64 s.size] w fun e w' => e = .returned (.tuple #[.slice none 0 0, .int .i64 0]) ∧ w' = w := by
  go_enter Try.func26, Try.ntmps26
  go_wp2_with fail
  go_ret2
  exact ⟨rfl, rfl⟩

theorem toT_row (w : World) : BSl (w.alloc (.cells #[.int .u8 7, .int .u8 8, .int .u8 12, .int .u8 10, .int .u8 13, .int .u8 9, .int .u8 11, .int .u8 92, .int .u8 34] 5)) (some ⟨w.heap.size, 0, none⟩) toT := by
  refine .inr ⟨w.heap.size, 0, rfl, ?_, by simp⟩
  intro i hi
  have hb : (w.alloc (.cells #[.int .u8 7, .int .u8 8, .int .u8 12, .int .u8 10, .int .u8 13, .int .u8 9, .int .u8 11, .int .u8 92, .int .u8 34] 5)).heap[w.heap.size]? = some (.cells #[.int .u8 7, .int .u8 8, .int .u8 12, .int .u8 10, .int .u8 13, .int .u8 9, .int .u8 11, .int .u8 92, .int .u8 34] 5) := heap_alloc_new w _
  rw [Nat.zero_add, cell_of hb]
  have h9 : i < 9 := hi
  have hc : i = 0 ∨ i = 1 ∨ i = 2 ∨ i = 3 ∨ i = 4 ∨ i = 5 ∨ i = 6 ∨ i = 7 ∨ i = 8 := by omega
  rcases hc with rfl | rfl | rfl | rfl | rfl | rfl | rfl | rfl | rfl <;> rfl

theorem all_next {fr : ByteArray} {c i : Nat} (h : ∀ j, j < i → byteN fr j ≠ c) (h2 : ¬ byteN fr i = c) : ∀ j, j < i + 1 → byteN fr j ≠ c := by
  intro j hj
  by_cases he : j = i
  · subst he; exact h2
  · exact h j (by omega)
theorem bsl_drew {w : World} {p : Option Addr} {t : ByteArray} (h : BSl w p t) : BSl w.drew p t := h

theorem toT_one : ∀ i, i < 9 → (toT.extract i (i + 1)).data.toList.map UInt8.toNat = [byteN toT i] := by decide +kernel
theorem bsl_part {w : World} {b i n : Nat} {t : ByteArray} (h : BSl w (some ⟨b, 0, none⟩) t) (hi : i + n ≤ t.size) : BSl w.drew (some ⟨b, i, none⟩) (t.extract i (i + n)) := by
  by_cases hn : n = 0
  · left; simp; omega
  rcases h with h0 | ⟨b', o, he, hb, hlt⟩
  · omega
  · cases he
    refine .inr ⟨b, i, rfl, ?_, hlt⟩
    intro j hj
    have hj2 : j < n := by simp at hj; omega
    have := hb (i + j) (by omega)
    rw [Nat.zero_add] at this
    have hbb : byteN (t.extract i (i + n)) j = byteN t (i + j) := by
      simp only [byteN, Lib.extract_data, List.getD_eq_getElem?_getD]
      rw [List.getElem?_take, if_pos (by omega), List.getElem?_drop]
    rw [hbb]; exact this

set_option maxHeartbeats 6400000 in
theorem refpart_single (s : ByteArray) (a v : Nat) (w : World) (hs : s.size ≤ 100000000) (ha : a < s.size) (hv : singleF (byteN s a) = some v) :
    Calls Try.prog 26 #[.string s, .int .i64 a] w (PartW w (some ([v], 1))) := by
  have hx := str_byte s a ha
  have haI : (a : Int) < s.size := by omega
  have hne : ((a : Int) == (s.size : Int)) = false := by simp; omega
  have hc := byteN_lt s a
  generalize byteN s a = c at *
  have hfz : fromT.size = 9 := rfl
  obtain ⟨fr, hfr⟩ : ∃ fr : ByteArray, fromT = fr := ⟨_, rfl⟩
  have hfr2 : (⟨#[97, 98, 102, 110, 114, 116, 118, 92, 34]⟩ : ByteArray) = fr := hfr
  have HFr := Lib.hid hfr
  rw [hfr] at hfz
  have hfzI : (fr.size : Int) = 9 := by omega
  have HV := Lib.hid hv
  clear hv hfr
  go_enter Try.func26, Try.ntmps26
  go_wp2_with fail
  have hb0 : BSl (w.alloc (.cells #[.int .u8 7, .int .u8 8, .int .u8 12, .int .u8 10, .int .u8 13, .int .u8 9, .int .u8 11, .int .u8 92, .int .u8 34] 5)) (some ⟨w.heap.size, 0, none⟩) toT := toT_row w
  have HB0 := Lib.hid hb0
  obtain ⟨wh, hwh⟩ : ∃ wh, w.heap.size = wh := ⟨_, rfl⟩
  clear hb0
  go_loopw [8] (fun iv wr => ∃ i : Nat, iv = .int .i64 i ∧ i ≤ 9 ∧ (∀ j, j < i → byteN fr j ≠ c) ∧ BSl wr (some ⟨w.heap.size, 0, none⟩) toT ∧ Below w.heap.size w wr) (fun iv _ => 9 - (intOf iv).toNat)
  case atStart => exact ⟨0, rfl, by omega, by omega, HB0.out, (Below.refl _ _).alloc (by omega) _⟩
  case round =>
    obtain ⟨i, rfl, hi, hall, hbs, hbl⟩ := hrel
    have HA := Lib.hid hall
    have HS := Lib.hid hbs
    have HL := Lib.hid hbl
    clear hall hbs hbl
    by_cases hlt : i < 9
    · have hif : i < fr.size := by omega
      have hifI : (i : Int) < fr.size := by omega
      have hy := str_byte fr i hif
      have hyl := byteN_lt fr i
      by_cases hq : byteN fr i = c
      · have hqb : (c == byteN fr i) = true := by simp [hq]
        have hqi : ((c : Int) == (byteN fr i : Int)) = true := by simp [hq]
        have HQ := Lib.hid hq
        clear hq
        go_wp2_with fail
        go_region
        have hi1 : (i : Int) + 1 ≤ 9 := by omega
        go_wp2_with fail
        go_ret2
        have hcv : singleF c = some (byteN toT i) := by rw [← HQ.out, ← HFr.out]; exact from_to i hlt
        have hvv : v = byteN toT i := by rw [HV.out] at hcv; exact Option.some.inj hcv
        refine ⟨⟨some ⟨w.heap.size, i, none⟩, 9 - i, toT.extract i (i + 1), ?_, ?_, ?_⟩, HL.out.drew⟩
        · simp
        · rw [hvv]; exact toT_one i hlt
        · exact bsl_part HS.out (by rw [show toT.size = 9 from rfl]; omega)
      · have hqb : (c == byteN fr i) = false := by simp; omega
        have hqi : ((c : Int) == (byteN fr i : Int)) = false := by simp; omega
        have HQ := Lib.hid hq
        clear hq
        go_wp2_with fail
        go_region
        go_wp2_with fail
        go_roundw
        case rel => exact ⟨i + 1, by go_num, by omega, all_next HA.out HQ.out, bsl_drew HS.out, HL.out.drew⟩
        case measure => simp [intOf]; omega
    · exfalso
      have hn := single_from (c := c) i hi (by rw [HFr.out]; exact HA.out) (by omega)
      rw [HV.out] at hn
      cases hn
end Go.Proofs.Ytppnjliamfnlkaa
