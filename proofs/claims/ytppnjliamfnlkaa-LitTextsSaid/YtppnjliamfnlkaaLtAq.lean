import Derived.Test.YtppnjliamfnlkaaLtAp
import Derived.Test.YtppnjliamfnlkaaLtO
namespace Go.Proofs.Ytppnjliamfnlkaa
open Go.RowKit
set_option linter.unusedSimpArgs false
set_option linter.unusedVariables false
set_option linter.unusedSectionVars false

/-! The document's part: three digits; a sign (MADE BY wip/gen_refpart.py). -/
theorem bytesOf_list {l : List Nat} (h : ∀ x ∈ l, x < 256) : (bytesOf l).data.toList.map UInt8.toNat = l := by
  simp only [bytesOf, List.map_map]
  conv => rhs; rw [← List.map_id l]
  apply List.map_congr_left
  intro x hx
  have := h x hx
  simp [Function.comp]
  omega
theorem rRow_bsl (v : Nat) (w : World) : BSl (w.alloc (.cells (Lib.runeCells (v : Int)).toArray 5)) (some ⟨w.heap.size, 0, none⟩) (bytesOf (runeN v)) := by
  refine .inr ⟨w.heap.size, 0, rfl, ?_, by simp⟩
  intro i hi
  rw [bytesOf_size] at hi
  have hb : (w.alloc (.cells (Lib.runeCells (v : Int)).toArray 5)).heap[w.heap.size]? = some (.cells (Lib.runeCells (v : Int)).toArray 5) := heap_alloc_new w _
  rw [Nat.zero_add, cell_of hb, runeN_cells]
  have := bytesOf_byte (runeN v) (runeN_all v).2 i hi
  simpa using this
theorem runeN_pos (v : Nat) : 1 ≤ (runeN v).length := by rw [runeN_len]; exact (Lib.encodeRuneZ_length _).1

set_option maxRecDepth 100000 in
set_option maxHeartbeats 6400000 in
theorem refpart_o_no (s : ByteArray) (a : Nat) (w : World) (hs : s.size ≤ 100000000) (ha : a < s.size) (h1 : byteN s a ≠ 120) (h2 : byteN s a ≠ 117) (h3 : byteN s a ≠ 85) (hv : singleF (byteN s a) = none) (hR : refVal s a 3 8 = none) :
    Calls Try.prog 26 #[.string s, .int .i64 a] w (PartW w (none)) := by
  have hx := str_byte s a ha
  have haI : (a : Int) < s.size := by omega
  have hne : ((a : Int) == (s.size : Int)) = false := by simp; omega
  have hc := byteN_lt s a
  obtain ⟨c, hcc⟩ : ∃ c : Nat, byteN s a = c := ⟨_, rfl⟩
  rw [hcc] at hx hc hv h1 h2 h3
  have k1 : ((c : Int) == 120) = false := by simp; omega
  have k3 : ((c : Int) == 117) = false := by simp; omega
  have k4 : ((c : Int) == 85) = false := by simp; omega
  have hval := fun w => refval_i s a 3 8 (a : Int) 3 8 w rfl rfl rfl hs (by omega) (by omega) (by omega) (by omega) (by decide) (congrArg valI hR)
  simp only [valI] at hval
  clear h1 h2 h3 hcc hR
  have hfz : fromT.size = 9 := rfl
  obtain ⟨fr, hfr⟩ : ∃ fr : ByteArray, fromT = fr := ⟨_, rfl⟩
  have hfr2 : (⟨#[97, 98, 102, 110, 114, 116, 118, 92, 34]⟩ : ByteArray) = fr := hfr
  have HFr := Lib.hid hfr
  rw [hfr] at hfz
  have hfzI : (fr.size : Int) = 9 := by omega
  have HV := Lib.hid hv
  clear hv hfr
  go_enter Try.func26, Try.ntmps26
  go_wp2_with fail
  go_loopw [8] (fun iv wr => ∃ i : Nat, iv = .int .i64 i ∧ i ≤ 9 ∧ (∀ j, j < i → byteN fr j ≠ c) ∧ Below w.heap.size w wr) (fun iv _ => 9 - (intOf iv).toNat)
  case atStart => exact ⟨0, rfl, by omega, by omega, (Below.refl _ _).alloc (by omega) _⟩
  case round =>
    obtain ⟨i, rfl, hi, hall, hbl⟩ := hrel
    have HA := Lib.hid hall
    have HL := Lib.hid hbl
    have hsz := hbl.size
    clear hall hbl
    by_cases hlt : i < 9
    · have hif : i < fr.size := by omega
      have hifI : (i : Int) < fr.size := by omega
      have hy := str_byte fr i hif
      have hyl := byteN_lt fr i
      by_cases hq : byteN fr i = c
      · exfalso
        have hcv : singleF c = some (byteN toT i) := by rw [← hq, ← HFr.out]; exact from_to i hlt
        rw [HV.out] at hcv
        cases hcv
      · have hqb : (c == byteN fr i) = false := by simp; omega
        have hqi : ((c : Int) == (byteN fr i : Int)) = false := by simp; omega
        have HQ := Lib.hid hq
        clear hq
        go_wp2_with fail
        go_region
        go_wp2_with fail
        go_roundw
        case rel => exact ⟨i + 1, by go_num, by omega, all_next HA.out HQ.out, HL.out.drew⟩
        case measure => simp [intOf]; omega
    ·
      go_wp2_with (go_at_call 38; with_reducible refine Calls.mono (hval _) ?_; rintro e w2 ⟨rfl, hw2⟩; replace hw2 := hw2.symm; subst hw2)
      go_ret2
      exact ⟨rfl, HL.out⟩

set_option maxRecDepth 100000 in
set_option maxHeartbeats 6400000 in
theorem refpart_o_big (s : ByteArray) (a : Nat) (w : World) (hs : s.size ≤ 100000000) (ha : a < s.size) (h1 : byteN s a ≠ 120) (h2 : byteN s a ≠ 117) (h3 : byteN s a ≠ 85) (hv : singleF (byteN s a) = none) {v : Nat} (hR : refVal s a 3 8 = some v) (hb : 256 ≤ v) :
    Calls Try.prog 26 #[.string s, .int .i64 a] w (PartW w (none)) := by
  have hx := str_byte s a ha
  have haI : (a : Int) < s.size := by omega
  have hne : ((a : Int) == (s.size : Int)) = false := by simp; omega
  have hc := byteN_lt s a
  have hbd : decide ((v : Int) < 256) = false := by simp; omega
  obtain ⟨c, hcc⟩ : ∃ c : Nat, byteN s a = c := ⟨_, rfl⟩
  rw [hcc] at hx hc hv h1 h2 h3
  have k1 : ((c : Int) == 120) = false := by simp; omega
  have k3 : ((c : Int) == 117) = false := by simp; omega
  have k4 : ((c : Int) == 85) = false := by simp; omega
  have hval := fun w => refval_i s a 3 8 (a : Int) 3 8 w rfl rfl rfl hs (by omega) (by omega) (by omega) (by omega) (by decide) (congrArg valI hR)
  simp only [valI] at hval
  clear h1 h2 h3 hcc hR
  have hfz : fromT.size = 9 := rfl
  obtain ⟨fr, hfr⟩ : ∃ fr : ByteArray, fromT = fr := ⟨_, rfl⟩
  have hfr2 : (⟨#[97, 98, 102, 110, 114, 116, 118, 92, 34]⟩ : ByteArray) = fr := hfr
  have HFr := Lib.hid hfr
  rw [hfr] at hfz
  have hfzI : (fr.size : Int) = 9 := by omega
  have HV := Lib.hid hv
  clear hv hfr
  go_enter Try.func26, Try.ntmps26
  go_wp2_with fail
  go_loopw [8] (fun iv wr => ∃ i : Nat, iv = .int .i64 i ∧ i ≤ 9 ∧ (∀ j, j < i → byteN fr j ≠ c) ∧ Below w.heap.size w wr) (fun iv _ => 9 - (intOf iv).toNat)
  case atStart => exact ⟨0, rfl, by omega, by omega, (Below.refl _ _).alloc (by omega) _⟩
  case round =>
    obtain ⟨i, rfl, hi, hall, hbl⟩ := hrel
    have HA := Lib.hid hall
    have HL := Lib.hid hbl
    have hsz := hbl.size
    clear hall hbl
    by_cases hlt : i < 9
    · have hif : i < fr.size := by omega
      have hifI : (i : Int) < fr.size := by omega
      have hy := str_byte fr i hif
      have hyl := byteN_lt fr i
      by_cases hq : byteN fr i = c
      · exfalso
        have hcv : singleF c = some (byteN toT i) := by rw [← hq, ← HFr.out]; exact from_to i hlt
        rw [HV.out] at hcv
        cases hcv
      · have hqb : (c == byteN fr i) = false := by simp; omega
        have hqi : ((c : Int) == (byteN fr i : Int)) = false := by simp; omega
        have HQ := Lib.hid hq
        clear hq
        go_wp2_with fail
        go_region
        go_wp2_with fail
        go_roundw
        case rel => exact ⟨i + 1, by go_num, by omega, all_next HA.out HQ.out, HL.out.drew⟩
        case measure => simp [intOf]; omega
    ·
      go_wp2_with (go_at_call 38; with_reducible refine Calls.mono (hval _) ?_; rintro e w2 ⟨rfl, hw2⟩; replace hw2 := hw2.symm; subst hw2)
      go_ret2
      exact ⟨rfl, HL.out⟩

set_option maxRecDepth 100000 in
set_option maxHeartbeats 6400000 in
theorem refpart_o (s : ByteArray) (a : Nat) (w : World) (hs : s.size ≤ 100000000) (ha : a < s.size) (h1 : byteN s a ≠ 120) (h2 : byteN s a ≠ 117) (h3 : byteN s a ≠ 85) (hv : singleF (byteN s a) = none) {v : Nat} (hR : refVal s a 3 8 = some v) (hvl : v < 256) :
    Calls Try.prog 26 #[.string s, .int .i64 a] w (PartW w (some ([v], 3))) := by
  have hx := str_byte s a ha
  have haI : (a : Int) < s.size := by omega
  have hne : ((a : Int) == (s.size : Int)) = false := by simp; omega
  have hc := byteN_lt s a
  have hbd : decide ((v : Int) < 256) = true := by simp; omega
  obtain ⟨c, hcc⟩ : ∃ c : Nat, byteN s a = c := ⟨_, rfl⟩
  rw [hcc] at hx hc hv h1 h2 h3
  have k1 : ((c : Int) == 120) = false := by simp; omega
  have k3 : ((c : Int) == 117) = false := by simp; omega
  have k4 : ((c : Int) == 85) = false := by simp; omega
  have hval := fun w => refval_i s a 3 8 (a : Int) 3 8 w rfl rfl rfl hs (by omega) (by omega) (by omega) (by omega) (by decide) (congrArg valI hR)
  simp only [valI] at hval
  clear h1 h2 h3 hcc hR
  have hfz : fromT.size = 9 := rfl
  obtain ⟨fr, hfr⟩ : ∃ fr : ByteArray, fromT = fr := ⟨_, rfl⟩
  have hfr2 : (⟨#[97, 98, 102, 110, 114, 116, 118, 92, 34]⟩ : ByteArray) = fr := hfr
  have HFr := Lib.hid hfr
  rw [hfr] at hfz
  have hfzI : (fr.size : Int) = 9 := by omega
  have HV := Lib.hid hv
  clear hv hfr
  go_enter Try.func26, Try.ntmps26
  go_wp2_with fail
  go_loopw [8] (fun iv wr => ∃ i : Nat, iv = .int .i64 i ∧ i ≤ 9 ∧ (∀ j, j < i → byteN fr j ≠ c) ∧ Below w.heap.size w wr) (fun iv _ => 9 - (intOf iv).toNat)
  case atStart => exact ⟨0, rfl, by omega, by omega, (Below.refl _ _).alloc (by omega) _⟩
  case round =>
    obtain ⟨i, rfl, hi, hall, hbl⟩ := hrel
    have HA := Lib.hid hall
    have HL := Lib.hid hbl
    have hsz := hbl.size
    clear hall hbl
    by_cases hlt : i < 9
    · have hif : i < fr.size := by omega
      have hifI : (i : Int) < fr.size := by omega
      have hy := str_byte fr i hif
      have hyl := byteN_lt fr i
      by_cases hq : byteN fr i = c
      · exfalso
        have hcv : singleF c = some (byteN toT i) := by rw [← hq, ← HFr.out]; exact from_to i hlt
        rw [HV.out] at hcv
        cases hcv
      · have hqb : (c == byteN fr i) = false := by simp; omega
        have hqi : ((c : Int) == (byteN fr i : Int)) = false := by simp; omega
        have HQ := Lib.hid hq
        clear hq
        go_wp2_with fail
        go_region
        go_wp2_with fail
        go_roundw
        case rel => exact ⟨i + 1, by go_num, by omega, all_next HA.out HQ.out, HL.out.drew⟩
        case measure => simp [intOf]; omega
    ·
      have hv256 : (v : Int) < 256 := by omega
      go_wp2_with (go_at_call 38; with_reducible refine Calls.mono (hval _) ?_; rintro e w2 ⟨rfl, hw2⟩; replace hw2 := hw2.symm; subst hw2)
      go_ret2
      have h256 : v < 256 := by omega
      have hl1 := bRow_list h256
      have hl2 := bRow_bsl h256 wr
      have hl3 := HL.out.alloc (by omega) (.cells #[.int .u8 (v : Int)] 5)
      refine ⟨⟨some ⟨wr.heap.size, 0, none⟩, 1, bRow v, ?_, hl1, hl2⟩, hl3⟩
      simp

set_option maxRecDepth 100000 in
set_option maxHeartbeats 6400000 in
theorem refpart_u_no (s : ByteArray) (a : Nat) (w : World) (hs : s.size ≤ 100000000) (ha : a < s.size) (h : byteN s a = 117) (hv : singleF (byteN s a) = none) (hR : refVal s (a + 1) 4 16 = none) :
    Calls Try.prog 26 #[.string s, .int .i64 a] w (PartW w (none)) := by
  have hx := str_byte s a ha
  have haI : (a : Int) < s.size := by omega
  have hne : ((a : Int) == (s.size : Int)) = false := by simp; omega
  have hc := byteN_lt s a
  obtain ⟨c, hcc⟩ : ∃ c : Nat, byteN s a = c := ⟨_, rfl⟩
  rw [hcc] at hx hc hv h
  have k1 : ((c : Int) == 120) = false := by simp; omega
  have k3 : ((c : Int) == 117) = true := by simp; omega
  have k4 : ((c : Int) == 85) = false := by simp; omega
  have hval := fun w => refval_i s (a + 1) 4 16 ((a : Int) + 1) 4 16 w (by omega) rfl rfl hs (by omega) (by omega) (by omega) (by omega) (by decide) (congrArg valI hR)
  simp only [valI] at hval
  have hsg := fun w => refsign_no (-1) w (by omega)
  clear h hcc hR
  have hfz : fromT.size = 9 := rfl
  obtain ⟨fr, hfr⟩ : ∃ fr : ByteArray, fromT = fr := ⟨_, rfl⟩
  have hfr2 : (⟨#[97, 98, 102, 110, 114, 116, 118, 92, 34]⟩ : ByteArray) = fr := hfr
  have HFr := Lib.hid hfr
  rw [hfr] at hfz
  have hfzI : (fr.size : Int) = 9 := by omega
  have HV := Lib.hid hv
  clear hv hfr
  go_enter Try.func26, Try.ntmps26
  go_wp2_with fail
  go_loopw [8] (fun iv wr => ∃ i : Nat, iv = .int .i64 i ∧ i ≤ 9 ∧ (∀ j, j < i → byteN fr j ≠ c) ∧ Below w.heap.size w wr) (fun iv _ => 9 - (intOf iv).toNat)
  case atStart => exact ⟨0, rfl, by omega, by omega, (Below.refl _ _).alloc (by omega) _⟩
  case round =>
    obtain ⟨i, rfl, hi, hall, hbl⟩ := hrel
    have HA := Lib.hid hall
    have HL := Lib.hid hbl
    have hsz := hbl.size
    clear hall hbl
    by_cases hlt : i < 9
    · have hif : i < fr.size := by omega
      have hifI : (i : Int) < fr.size := by omega
      have hy := str_byte fr i hif
      have hyl := byteN_lt fr i
      by_cases hq : byteN fr i = c
      · exfalso
        have hcv : singleF c = some (byteN toT i) := by rw [← hq, ← HFr.out]; exact from_to i hlt
        rw [HV.out] at hcv
        cases hcv
      · have hqb : (c == byteN fr i) = false := by simp; omega
        have hqi : ((c : Int) == (byteN fr i : Int)) = false := by simp; omega
        have HQ := Lib.hid hq
        clear hq
        go_wp2_with fail
        go_region
        go_wp2_with fail
        go_roundw
        case rel => exact ⟨i + 1, by go_num, by omega, all_next HA.out HQ.out, HL.out.drew⟩
        case measure => simp [intOf]; omega
    ·
      go_wp2_with (first | (go_at_call 38; with_reducible refine Calls.mono (hval _) ?_; rintro e w2 ⟨rfl, hw2⟩; replace hw2 := hw2.symm; subst hw2) | (go_at_call 39; with_reducible refine Calls.mono (hsg _) ?_; rintro e w3 ⟨rfl, hw3⟩; subst hw3))
      go_ret2
      exact ⟨rfl, HL.out⟩

set_option maxRecDepth 100000 in
set_option maxHeartbeats 6400000 in
theorem refpart_u_bad (s : ByteArray) (a : Nat) (w : World) (hs : s.size ≤ 100000000) (ha : a < s.size) (h : byteN s a = 117) (hv : singleF (byteN s a) = none) {v : Nat} (hR : refVal s (a + 1) 4 16 = some v) (hb : 1114111 < v ∨ (55296 ≤ v ∧ v ≤ 57343)) :
    Calls Try.prog 26 #[.string s, .int .i64 a] w (PartW w (none)) := by
  have hx := str_byte s a ha
  have haI : (a : Int) < s.size := by omega
  have hne : ((a : Int) == (s.size : Int)) = false := by simp; omega
  have hc := byteN_lt s a
  obtain ⟨c, hcc⟩ : ∃ c : Nat, byteN s a = c := ⟨_, rfl⟩
  rw [hcc] at hx hc hv h
  have k1 : ((c : Int) == 120) = false := by simp; omega
  have k3 : ((c : Int) == 117) = true := by simp; omega
  have k4 : ((c : Int) == 85) = false := by simp; omega
  have hval := fun w => refval_i s (a + 1) 4 16 ((a : Int) + 1) 4 16 w (by omega) rfl rfl hs (by omega) (by omega) (by omega) (by omega) (by decide) (congrArg valI hR)
  simp only [valI] at hval
  have hsg := fun w => refsign_no (v : Int) w (by omega)
  clear h hcc hR hb
  have hfz : fromT.size = 9 := rfl
  obtain ⟨fr, hfr⟩ : ∃ fr : ByteArray, fromT = fr := ⟨_, rfl⟩
  have hfr2 : (⟨#[97, 98, 102, 110, 114, 116, 118, 92, 34]⟩ : ByteArray) = fr := hfr
  have HFr := Lib.hid hfr
  rw [hfr] at hfz
  have hfzI : (fr.size : Int) = 9 := by omega
  have HV := Lib.hid hv
  clear hv hfr
  go_enter Try.func26, Try.ntmps26
  go_wp2_with fail
  go_loopw [8] (fun iv wr => ∃ i : Nat, iv = .int .i64 i ∧ i ≤ 9 ∧ (∀ j, j < i → byteN fr j ≠ c) ∧ Below w.heap.size w wr) (fun iv _ => 9 - (intOf iv).toNat)
  case atStart => exact ⟨0, rfl, by omega, by omega, (Below.refl _ _).alloc (by omega) _⟩
  case round =>
    obtain ⟨i, rfl, hi, hall, hbl⟩ := hrel
    have HA := Lib.hid hall
    have HL := Lib.hid hbl
    have hsz := hbl.size
    clear hall hbl
    by_cases hlt : i < 9
    · have hif : i < fr.size := by omega
      have hifI : (i : Int) < fr.size := by omega
      have hy := str_byte fr i hif
      have hyl := byteN_lt fr i
      by_cases hq : byteN fr i = c
      · exfalso
        have hcv : singleF c = some (byteN toT i) := by rw [← hq, ← HFr.out]; exact from_to i hlt
        rw [HV.out] at hcv
        cases hcv
      · have hqb : (c == byteN fr i) = false := by simp; omega
        have hqi : ((c : Int) == (byteN fr i : Int)) = false := by simp; omega
        have HQ := Lib.hid hq
        clear hq
        go_wp2_with fail
        go_region
        go_wp2_with fail
        go_roundw
        case rel => exact ⟨i + 1, by go_num, by omega, all_next HA.out HQ.out, HL.out.drew⟩
        case measure => simp [intOf]; omega
    ·
      go_wp2_with (first | (go_at_call 38; with_reducible refine Calls.mono (hval _) ?_; rintro e w2 ⟨rfl, hw2⟩; replace hw2 := hw2.symm; subst hw2) | (go_at_call 39; with_reducible refine Calls.mono (hsg _) ?_; rintro e w3 ⟨rfl, hw3⟩; subst hw3))
      go_ret2
      exact ⟨rfl, HL.out⟩

set_option maxRecDepth 100000 in
set_option maxHeartbeats 6400000 in
theorem refpart_u (s : ByteArray) (a : Nat) (w : World) (hs : s.size ≤ 100000000) (ha : a < s.size) (h : byteN s a = 117) (hv : singleF (byteN s a) = none) {v : Nat} (hR : refVal s (a + 1) 4 16 = some v) (hb : v < 55296 ∨ (57343 < v ∧ v ≤ 1114111)) :
    Calls Try.prog 26 #[.string s, .int .i64 a] w (PartW w (some (runeN v, 5))) := by
  have hx := str_byte s a ha
  have haI : (a : Int) < s.size := by omega
  have hne : ((a : Int) == (s.size : Int)) = false := by simp; omega
  have hc := byteN_lt s a
  obtain ⟨c, hcc⟩ : ∃ c : Nat, byteN s a = c := ⟨_, rfl⟩
  rw [hcc] at hx hc hv h
  have k1 : ((c : Int) == 120) = false := by simp; omega
  have k3 : ((c : Int) == 117) = true := by simp; omega
  have k4 : ((c : Int) == 85) = false := by simp; omega
  have hval := fun w => refval_i s (a + 1) 4 16 ((a : Int) + 1) 4 16 w (by omega) rfl rfl hs (by omega) (by omega) (by omega) (by omega) (by decide) (congrArg valI hR)
  simp only [valI] at hval
  have hsg := fun w => refsign_ok v w hb
  obtain ⟨m, hm⟩ : ∃ m, (runeN v).length = m := ⟨_, rfl⟩
  have hm1 := runeN_pos v
  rw [hm] at hm1
  have hmI : (0 : Int) < (m : Int) := by omega
  have hM := Lib.hid hm
  unfold SignR at hsg
  rw [hm] at hsg
  clear h hcc hR hb hm
  have hfz : fromT.size = 9 := rfl
  obtain ⟨fr, hfr⟩ : ∃ fr : ByteArray, fromT = fr := ⟨_, rfl⟩
  have hfr2 : (⟨#[97, 98, 102, 110, 114, 116, 118, 92, 34]⟩ : ByteArray) = fr := hfr
  have HFr := Lib.hid hfr
  rw [hfr] at hfz
  have hfzI : (fr.size : Int) = 9 := by omega
  have HV := Lib.hid hv
  clear hv hfr
  go_enter Try.func26, Try.ntmps26
  go_wp2_with fail
  go_loopw [8] (fun iv wr => ∃ i : Nat, iv = .int .i64 i ∧ i ≤ 9 ∧ (∀ j, j < i → byteN fr j ≠ c) ∧ Below w.heap.size w wr) (fun iv _ => 9 - (intOf iv).toNat)
  case atStart => exact ⟨0, rfl, by omega, by omega, (Below.refl _ _).alloc (by omega) _⟩
  case round =>
    obtain ⟨i, rfl, hi, hall, hbl⟩ := hrel
    have HA := Lib.hid hall
    have HL := Lib.hid hbl
    have hsz := hbl.size
    clear hall hbl
    by_cases hlt : i < 9
    · have hif : i < fr.size := by omega
      have hifI : (i : Int) < fr.size := by omega
      have hy := str_byte fr i hif
      have hyl := byteN_lt fr i
      by_cases hq : byteN fr i = c
      · exfalso
        have hcv : singleF c = some (byteN toT i) := by rw [← hq, ← HFr.out]; exact from_to i hlt
        rw [HV.out] at hcv
        cases hcv
      · have hqb : (c == byteN fr i) = false := by simp; omega
        have hqi : ((c : Int) == (byteN fr i : Int)) = false := by simp; omega
        have HQ := Lib.hid hq
        clear hq
        go_wp2_with fail
        go_region
        go_wp2_with fail
        go_roundw
        case rel => exact ⟨i + 1, by go_num, by omega, all_next HA.out HQ.out, HL.out.drew⟩
        case measure => simp [intOf]; omega
    ·
      go_wp2_with (first | (go_at_call 38; with_reducible refine Calls.mono (hval _) ?_; rintro e w2 ⟨rfl, hw2⟩; replace hw2 := hw2.symm; subst hw2) | (go_at_call 39; with_reducible refine Calls.mono (hsg _) ?_; rintro e w3 ⟨rfl, hw3⟩; subst hw3))
      go_ret2
      have hl1 := bytesOf_list (runeN_all v).2
      have hl2 := rRow_bsl v wr
      have hl3 := HL.out.alloc (by omega) (.cells (Lib.runeCells (v : Int)).toArray 5)
      refine ⟨⟨some ⟨wr.heap.size, 0, none⟩, m, bytesOf (runeN v), ?_, hl1, hl2⟩, hl3⟩
      rw [hM.out]
      simp

set_option maxRecDepth 100000 in
set_option maxHeartbeats 6400000 in
theorem refpart_U_no (s : ByteArray) (a : Nat) (w : World) (hs : s.size ≤ 100000000) (ha : a < s.size) (h : byteN s a = 85) (hv : singleF (byteN s a) = none) (hR : refVal s (a + 1) 8 16 = none) :
    Calls Try.prog 26 #[.string s, .int .i64 a] w (PartW w (none)) := by
  have hx := str_byte s a ha
  have haI : (a : Int) < s.size := by omega
  have hne : ((a : Int) == (s.size : Int)) = false := by simp; omega
  have hc := byteN_lt s a
  obtain ⟨c, hcc⟩ : ∃ c : Nat, byteN s a = c := ⟨_, rfl⟩
  rw [hcc] at hx hc hv h
  have k1 : ((c : Int) == 120) = false := by simp; omega
  have k3 : ((c : Int) == 117) = false := by simp; omega
  have k4 : ((c : Int) == 85) = true := by simp; omega
  have hval := fun w => refval_i s (a + 1) 8 16 ((a : Int) + 1) 8 16 w (by omega) rfl rfl hs (by omega) (by omega) (by omega) (by omega) (by decide) (congrArg valI hR)
  simp only [valI] at hval
  have hsg := fun w => refsign_no (-1) w (by omega)
  clear h hcc hR
  have hfz : fromT.size = 9 := rfl
  obtain ⟨fr, hfr⟩ : ∃ fr : ByteArray, fromT = fr := ⟨_, rfl⟩
  have hfr2 : (⟨#[97, 98, 102, 110, 114, 116, 118, 92, 34]⟩ : ByteArray) = fr := hfr
  have HFr := Lib.hid hfr
  rw [hfr] at hfz
  have hfzI : (fr.size : Int) = 9 := by omega
  have HV := Lib.hid hv
  clear hv hfr
  go_enter Try.func26, Try.ntmps26
  go_wp2_with fail
  go_loopw [8] (fun iv wr => ∃ i : Nat, iv = .int .i64 i ∧ i ≤ 9 ∧ (∀ j, j < i → byteN fr j ≠ c) ∧ Below w.heap.size w wr) (fun iv _ => 9 - (intOf iv).toNat)
  case atStart => exact ⟨0, rfl, by omega, by omega, (Below.refl _ _).alloc (by omega) _⟩
  case round =>
    obtain ⟨i, rfl, hi, hall, hbl⟩ := hrel
    have HA := Lib.hid hall
    have HL := Lib.hid hbl
    have hsz := hbl.size
    clear hall hbl
    by_cases hlt : i < 9
    · have hif : i < fr.size := by omega
      have hifI : (i : Int) < fr.size := by omega
      have hy := str_byte fr i hif
      have hyl := byteN_lt fr i
      by_cases hq : byteN fr i = c
      · exfalso
        have hcv : singleF c = some (byteN toT i) := by rw [← hq, ← HFr.out]; exact from_to i hlt
        rw [HV.out] at hcv
        cases hcv
      · have hqb : (c == byteN fr i) = false := by simp; omega
        have hqi : ((c : Int) == (byteN fr i : Int)) = false := by simp; omega
        have HQ := Lib.hid hq
        clear hq
        go_wp2_with fail
        go_region
        go_wp2_with fail
        go_roundw
        case rel => exact ⟨i + 1, by go_num, by omega, all_next HA.out HQ.out, HL.out.drew⟩
        case measure => simp [intOf]; omega
    ·
      go_wp2_with (first | (go_at_call 38; with_reducible refine Calls.mono (hval _) ?_; rintro e w2 ⟨rfl, hw2⟩; replace hw2 := hw2.symm; subst hw2) | (go_at_call 39; with_reducible refine Calls.mono (hsg _) ?_; rintro e w3 ⟨rfl, hw3⟩; subst hw3))
      go_ret2
      exact ⟨rfl, HL.out⟩

set_option maxRecDepth 100000 in
set_option maxHeartbeats 6400000 in
theorem refpart_U_bad (s : ByteArray) (a : Nat) (w : World) (hs : s.size ≤ 100000000) (ha : a < s.size) (h : byteN s a = 85) (hv : singleF (byteN s a) = none) {v : Nat} (hR : refVal s (a + 1) 8 16 = some v) (hb : 1114111 < v ∨ (55296 ≤ v ∧ v ≤ 57343)) :
    Calls Try.prog 26 #[.string s, .int .i64 a] w (PartW w (none)) := by
  have hx := str_byte s a ha
  have haI : (a : Int) < s.size := by omega
  have hne : ((a : Int) == (s.size : Int)) = false := by simp; omega
  have hc := byteN_lt s a
  obtain ⟨c, hcc⟩ : ∃ c : Nat, byteN s a = c := ⟨_, rfl⟩
  rw [hcc] at hx hc hv h
  have k1 : ((c : Int) == 120) = false := by simp; omega
  have k3 : ((c : Int) == 117) = false := by simp; omega
  have k4 : ((c : Int) == 85) = true := by simp; omega
  have hval := fun w => refval_i s (a + 1) 8 16 ((a : Int) + 1) 8 16 w (by omega) rfl rfl hs (by omega) (by omega) (by omega) (by omega) (by decide) (congrArg valI hR)
  simp only [valI] at hval
  have hsg := fun w => refsign_no (v : Int) w (by omega)
  clear h hcc hR hb
  have hfz : fromT.size = 9 := rfl
  obtain ⟨fr, hfr⟩ : ∃ fr : ByteArray, fromT = fr := ⟨_, rfl⟩
  have hfr2 : (⟨#[97, 98, 102, 110, 114, 116, 118, 92, 34]⟩ : ByteArray) = fr := hfr
  have HFr := Lib.hid hfr
  rw [hfr] at hfz
  have hfzI : (fr.size : Int) = 9 := by omega
  have HV := Lib.hid hv
  clear hv hfr
  go_enter Try.func26, Try.ntmps26
  go_wp2_with fail
  go_loopw [8] (fun iv wr => ∃ i : Nat, iv = .int .i64 i ∧ i ≤ 9 ∧ (∀ j, j < i → byteN fr j ≠ c) ∧ Below w.heap.size w wr) (fun iv _ => 9 - (intOf iv).toNat)
  case atStart => exact ⟨0, rfl, by omega, by omega, (Below.refl _ _).alloc (by omega) _⟩
  case round =>
    obtain ⟨i, rfl, hi, hall, hbl⟩ := hrel
    have HA := Lib.hid hall
    have HL := Lib.hid hbl
    have hsz := hbl.size
    clear hall hbl
    by_cases hlt : i < 9
    · have hif : i < fr.size := by omega
      have hifI : (i : Int) < fr.size := by omega
      have hy := str_byte fr i hif
      have hyl := byteN_lt fr i
      by_cases hq : byteN fr i = c
      · exfalso
        have hcv : singleF c = some (byteN toT i) := by rw [← hq, ← HFr.out]; exact from_to i hlt
        rw [HV.out] at hcv
        cases hcv
      · have hqb : (c == byteN fr i) = false := by simp; omega
        have hqi : ((c : Int) == (byteN fr i : Int)) = false := by simp; omega
        have HQ := Lib.hid hq
        clear hq
        go_wp2_with fail
        go_region
        go_wp2_with fail
        go_roundw
        case rel => exact ⟨i + 1, by go_num, by omega, all_next HA.out HQ.out, HL.out.drew⟩
        case measure => simp [intOf]; omega
    ·
      go_wp2_with (first | (go_at_call 38; with_reducible refine Calls.mono (hval _) ?_; rintro e w2 ⟨rfl, hw2⟩; replace hw2 := hw2.symm; subst hw2) | (go_at_call 39; with_reducible refine Calls.mono (hsg _) ?_; rintro e w3 ⟨rfl, hw3⟩; subst hw3))
      go_ret2
      exact ⟨rfl, HL.out⟩

set_option maxRecDepth 100000 in
set_option maxHeartbeats 6400000 in
theorem refpart_U (s : ByteArray) (a : Nat) (w : World) (hs : s.size ≤ 100000000) (ha : a < s.size) (h : byteN s a = 85) (hv : singleF (byteN s a) = none) {v : Nat} (hR : refVal s (a + 1) 8 16 = some v) (hb : v < 55296 ∨ (57343 < v ∧ v ≤ 1114111)) :
    Calls Try.prog 26 #[.string s, .int .i64 a] w (PartW w (some (runeN v, 9))) := by
  have hx := str_byte s a ha
  have haI : (a : Int) < s.size := by omega
  have hne : ((a : Int) == (s.size : Int)) = false := by simp; omega
  have hc := byteN_lt s a
  obtain ⟨c, hcc⟩ : ∃ c : Nat, byteN s a = c := ⟨_, rfl⟩
  rw [hcc] at hx hc hv h
  have k1 : ((c : Int) == 120) = false := by simp; omega
  have k3 : ((c : Int) == 117) = false := by simp; omega
  have k4 : ((c : Int) == 85) = true := by simp; omega
  have hval := fun w => refval_i s (a + 1) 8 16 ((a : Int) + 1) 8 16 w (by omega) rfl rfl hs (by omega) (by omega) (by omega) (by omega) (by decide) (congrArg valI hR)
  simp only [valI] at hval
  have hsg := fun w => refsign_ok v w hb
  obtain ⟨m, hm⟩ : ∃ m, (runeN v).length = m := ⟨_, rfl⟩
  have hm1 := runeN_pos v
  rw [hm] at hm1
  have hmI : (0 : Int) < (m : Int) := by omega
  have hM := Lib.hid hm
  unfold SignR at hsg
  rw [hm] at hsg
  clear h hcc hR hb hm
  have hfz : fromT.size = 9 := rfl
  obtain ⟨fr, hfr⟩ : ∃ fr : ByteArray, fromT = fr := ⟨_, rfl⟩
  have hfr2 : (⟨#[97, 98, 102, 110, 114, 116, 118, 92, 34]⟩ : ByteArray) = fr := hfr
  have HFr := Lib.hid hfr
  rw [hfr] at hfz
  have hfzI : (fr.size : Int) = 9 := by omega
  have HV := Lib.hid hv
  clear hv hfr
  go_enter Try.func26, Try.ntmps26
  go_wp2_with fail
  go_loopw [8] (fun iv wr => ∃ i : Nat, iv = .int .i64 i ∧ i ≤ 9 ∧ (∀ j, j < i → byteN fr j ≠ c) ∧ Below w.heap.size w wr) (fun iv _ => 9 - (intOf iv).toNat)
  case atStart => exact ⟨0, rfl, by omega, by omega, (Below.refl _ _).alloc (by omega) _⟩
  case round =>
    obtain ⟨i, rfl, hi, hall, hbl⟩ := hrel
    have HA := Lib.hid hall
    have HL := Lib.hid hbl
    have hsz := hbl.size
    clear hall hbl
    by_cases hlt : i < 9
    · have hif : i < fr.size := by omega
      have hifI : (i : Int) < fr.size := by omega
      have hy := str_byte fr i hif
      have hyl := byteN_lt fr i
      by_cases hq : byteN fr i = c
      · exfalso
        have hcv : singleF c = some (byteN toT i) := by rw [← hq, ← HFr.out]; exact from_to i hlt
        rw [HV.out] at hcv
        cases hcv
      · have hqb : (c == byteN fr i) = false := by simp; omega
        have hqi : ((c : Int) == (byteN fr i : Int)) = false := by simp; omega
        have HQ := Lib.hid hq
        clear hq
        go_wp2_with fail
        go_region
        go_wp2_with fail
        go_roundw
        case rel => exact ⟨i + 1, by go_num, by omega, all_next HA.out HQ.out, HL.out.drew⟩
        case measure => simp [intOf]; omega
    ·
      go_wp2_with (first | (go_at_call 38; with_reducible refine Calls.mono (hval _) ?_; rintro e w2 ⟨rfl, hw2⟩; replace hw2 := hw2.symm; subst hw2) | (go_at_call 39; with_reducible refine Calls.mono (hsg _) ?_; rintro e w3 ⟨rfl, hw3⟩; subst hw3))
      go_ret2
      have hl1 := bytesOf_list (runeN_all v).2
      have hl2 := rRow_bsl v wr
      have hl3 := HL.out.alloc (by omega) (.cells (Lib.runeCells (v : Int)).toArray 5)
      refine ⟨⟨some ⟨wr.heap.size, 0, none⟩, m, bytesOf (runeN v), ?_, hl1, hl2⟩, hl3⟩
      rw [hM.out]
      simp
end Go.Proofs.Ytppnjliamfnlkaa
