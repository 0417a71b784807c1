import Derived.Test.YtghfmfgdcpihfaaDoorTkA
import Derived.Test.YtghfmfgdcpihfaaDoorShelf
namespace Go.Proofs.YtghfmfgdcpihfaaDoor
open Go.RowKit

def words1 : List (List UInt8) := [[98, 114, 101, 97, 107], [99, 111, 110, 116, 105, 110, 117, 101], [101, 108, 115, 101], [102, 111, 114], [102, 117, 110, 99], [105, 102], [105, 109, 112, 111, 114, 116], [105, 110, 116, 101, 114, 102, 97, 99, 101], [112, 97, 99, 107, 97, 103, 101], [114, 97, 110, 103, 101], [114, 101, 116, 117, 114, 110], [115, 116, 114, 117, 99, 116], [116, 121, 112, 101], [118, 97, 114]]
def words2 : List (List UInt8) := [[99, 97, 115, 101], [99, 104, 97, 110], [99, 111, 110, 115, 116], [100, 101, 102, 97, 117, 108, 116], [100, 101, 102, 101, 114], [102, 97, 108, 108, 116, 104, 114, 111, 117, 103, 104], [103, 111], [103, 111, 116, 111], [109, 97, 112], [115, 101, 108, 101, 99, 116], [115, 119, 105, 116, 99, 104]]
/-- 1: a word of the fragment, 2: of the others, 0: none. -/
def wordL (l : List UInt8) : Int := if l ∈ words1 then 1 else if l ∈ words2 then 2 else 0

theorem ofL {s : ByteArray} {l : List UInt8} (h : s.toList = l) : s = ⟨l.toArray⟩ := by
  apply ByteArray.ext
  rw [Lib.toList_data] at h
  apply Array.toList_inj.1
  rw [h]

set_option maxHeartbeats 400000 in
theorem word_0 (w : World) : Calls Tryd.prog 34 #[.string ⟨#[98, 114, 101, 97, 107]⟩] w fun e w' => e = .returned (.int .i64 1) ∧ w' = w := by
  go_enter Tryd.func34, Tryd.ntmps34
  go_wp2_with fail
  go_ret
  exact ⟨rfl, rfl⟩
set_option maxHeartbeats 400000 in
theorem word_1 (w : World) : Calls Tryd.prog 34 #[.string ⟨#[99, 111, 110, 116, 105, 110, 117, 101]⟩] w fun e w' => e = .returned (.int .i64 1) ∧ w' = w := by
  go_enter Tryd.func34, Tryd.ntmps34
  go_wp2_with fail
  go_ret
  exact ⟨rfl, rfl⟩
set_option maxHeartbeats 400000 in
theorem word_2 (w : World) : Calls Tryd.prog 34 #[.string ⟨#[101, 108, 115, 101]⟩] w fun e w' => e = .returned (.int .i64 1) ∧ w' = w := by
  go_enter Tryd.func34, Tryd.ntmps34
  go_wp2_with fail
  go_ret
  exact ⟨rfl, rfl⟩
set_option maxHeartbeats 400000 in
theorem word_3 (w : World) : Calls Tryd.prog 34 #[.string ⟨#[102, 111, 114]⟩] w fun e w' => e = .returned (.int .i64 1) ∧ w' = w := by
  go_enter Tryd.func34, Tryd.ntmps34
  go_wp2_with fail
  go_ret
  exact ⟨rfl, rfl⟩
set_option maxHeartbeats 400000 in
theorem word_4 (w : World) : Calls Tryd.prog 34 #[.string ⟨#[102, 117, 110, 99]⟩] w fun e w' => e = .returned (.int .i64 1) ∧ w' = w := by
  go_enter Tryd.func34, Tryd.ntmps34
  go_wp2_with fail
  go_ret
  exact ⟨rfl, rfl⟩
set_option maxHeartbeats 400000 in
theorem word_5 (w : World) : Calls Tryd.prog 34 #[.string ⟨#[105, 102]⟩] w fun e w' => e = .returned (.int .i64 1) ∧ w' = w := by
  go_enter Tryd.func34, Tryd.ntmps34
  go_wp2_with fail
  go_ret
  exact ⟨rfl, rfl⟩
set_option maxHeartbeats 400000 in
theorem word_6 (w : World) : Calls Tryd.prog 34 #[.string ⟨#[105, 109, 112, 111, 114, 116]⟩] w fun e w' => e = .returned (.int .i64 1) ∧ w' = w := by
  go_enter Tryd.func34, Tryd.ntmps34
  go_wp2_with fail
  go_ret
  exact ⟨rfl, rfl⟩
set_option maxHeartbeats 400000 in
theorem word_7 (w : World) : Calls Tryd.prog 34 #[.string ⟨#[105, 110, 116, 101, 114, 102, 97, 99, 101]⟩] w fun e w' => e = .returned (.int .i64 1) ∧ w' = w := by
  go_enter Tryd.func34, Tryd.ntmps34
  go_wp2_with fail
  go_ret
  exact ⟨rfl, rfl⟩
set_option maxHeartbeats 400000 in
theorem word_8 (w : World) : Calls Tryd.prog 34 #[.string ⟨#[112, 97, 99, 107, 97, 103, 101]⟩] w fun e w' => e = .returned (.int .i64 1) ∧ w' = w := by
  go_enter Tryd.func34, Tryd.ntmps34
  go_wp2_with fail
  go_ret
  exact ⟨rfl, rfl⟩
set_option maxHeartbeats 400000 in
theorem word_9 (w : World) : Calls Tryd.prog 34 #[.string ⟨#[114, 97, 110, 103, 101]⟩] w fun e w' => e = .returned (.int .i64 1) ∧ w' = w := by
  go_enter Tryd.func34, Tryd.ntmps34
  go_wp2_with fail
  go_ret
  exact ⟨rfl, rfl⟩
set_option maxHeartbeats 400000 in
theorem word_10 (w : World) : Calls Tryd.prog 34 #[.string ⟨#[114, 101, 116, 117, 114, 110]⟩] w fun e w' => e = .returned (.int .i64 1) ∧ w' = w := by
  go_enter Tryd.func34, Tryd.ntmps34
  go_wp2_with fail
  go_ret
  exact ⟨rfl, rfl⟩
set_option maxHeartbeats 400000 in
theorem word_11 (w : World) : Calls Tryd.prog 34 #[.string ⟨#[115, 116, 114, 117, 99, 116]⟩] w fun e w' => e = .returned (.int .i64 1) ∧ w' = w := by
  go_enter Tryd.func34, Tryd.ntmps34
  go_wp2_with fail
  go_ret
  exact ⟨rfl, rfl⟩
set_option maxHeartbeats 400000 in
theorem word_12 (w : World) : Calls Tryd.prog 34 #[.string ⟨#[116, 121, 112, 101]⟩] w fun e w' => e = .returned (.int .i64 1) ∧ w' = w := by
  go_enter Tryd.func34, Tryd.ntmps34
  go_wp2_with fail
  go_ret
  exact ⟨rfl, rfl⟩
set_option maxHeartbeats 400000 in
theorem word_13 (w : World) : Calls Tryd.prog 34 #[.string ⟨#[118, 97, 114]⟩] w fun e w' => e = .returned (.int .i64 1) ∧ w' = w := by
  go_enter Tryd.func34, Tryd.ntmps34
  go_wp2_with fail
  go_ret
  exact ⟨rfl, rfl⟩
set_option maxHeartbeats 400000 in
theorem word_14 (w : World) : Calls Tryd.prog 34 #[.string ⟨#[99, 97, 115, 101]⟩] w fun e w' => e = .returned (.int .i64 2) ∧ w' = w := by
  go_enter Tryd.func34, Tryd.ntmps34
  go_wp2_with fail
  go_ret
  exact ⟨rfl, rfl⟩
set_option maxHeartbeats 400000 in
theorem word_15 (w : World) : Calls Tryd.prog 34 #[.string ⟨#[99, 104, 97, 110]⟩] w fun e w' => e = .returned (.int .i64 2) ∧ w' = w := by
  go_enter Tryd.func34, Tryd.ntmps34
  go_wp2_with fail
  go_ret
  exact ⟨rfl, rfl⟩
set_option maxHeartbeats 400000 in
theorem word_16 (w : World) : Calls Tryd.prog 34 #[.string ⟨#[99, 111, 110, 115, 116]⟩] w fun e w' => e = .returned (.int .i64 2) ∧ w' = w := by
  go_enter Tryd.func34, Tryd.ntmps34
  go_wp2_with fail
  go_ret
  exact ⟨rfl, rfl⟩
set_option maxHeartbeats 400000 in
theorem word_17 (w : World) : Calls Tryd.prog 34 #[.string ⟨#[100, 101, 102, 97, 117, 108, 116]⟩] w fun e w' => e = .returned (.int .i64 2) ∧ w' = w := by
  go_enter Tryd.func34, Tryd.ntmps34
  go_wp2_with fail
  go_ret
  exact ⟨rfl, rfl⟩
set_option maxHeartbeats 400000 in
theorem word_18 (w : World) : Calls Tryd.prog 34 #[.string ⟨#[100, 101, 102, 101, 114]⟩] w fun e w' => e = .returned (.int .i64 2) ∧ w' = w := by
  go_enter Tryd.func34, Tryd.ntmps34
  go_wp2_with fail
  go_ret
  exact ⟨rfl, rfl⟩
set_option maxHeartbeats 400000 in
theorem word_19 (w : World) : Calls Tryd.prog 34 #[.string ⟨#[102, 97, 108, 108, 116, 104, 114, 111, 117, 103, 104]⟩] w fun e w' => e = .returned (.int .i64 2) ∧ w' = w := by
  go_enter Tryd.func34, Tryd.ntmps34
  go_wp2_with fail
  go_ret
  exact ⟨rfl, rfl⟩
set_option maxHeartbeats 400000 in
theorem word_20 (w : World) : Calls Tryd.prog 34 #[.string ⟨#[103, 111]⟩] w fun e w' => e = .returned (.int .i64 2) ∧ w' = w := by
  go_enter Tryd.func34, Tryd.ntmps34
  go_wp2_with fail
  go_ret
  exact ⟨rfl, rfl⟩
set_option maxHeartbeats 400000 in
theorem word_21 (w : World) : Calls Tryd.prog 34 #[.string ⟨#[103, 111, 116, 111]⟩] w fun e w' => e = .returned (.int .i64 2) ∧ w' = w := by
  go_enter Tryd.func34, Tryd.ntmps34
  go_wp2_with fail
  go_ret
  exact ⟨rfl, rfl⟩
set_option maxHeartbeats 400000 in
theorem word_22 (w : World) : Calls Tryd.prog 34 #[.string ⟨#[109, 97, 112]⟩] w fun e w' => e = .returned (.int .i64 2) ∧ w' = w := by
  go_enter Tryd.func34, Tryd.ntmps34
  go_wp2_with fail
  go_ret
  exact ⟨rfl, rfl⟩
set_option maxHeartbeats 400000 in
theorem word_23 (w : World) : Calls Tryd.prog 34 #[.string ⟨#[115, 101, 108, 101, 99, 116]⟩] w fun e w' => e = .returned (.int .i64 2) ∧ w' = w := by
  go_enter Tryd.func34, Tryd.ntmps34
  go_wp2_with fail
  go_ret
  exact ⟨rfl, rfl⟩
set_option maxHeartbeats 400000 in
theorem word_24 (w : World) : Calls Tryd.prog 34 #[.string ⟨#[115, 119, 105, 116, 99, 104]⟩] w fun e w' => e = .returned (.int .i64 2) ∧ w' = w := by
  go_enter Tryd.func34, Tryd.ntmps34
  go_wp2_with fail
  go_ret
  exact ⟨rfl, rfl⟩

set_option maxHeartbeats 1600000 in
theorem word_any (s : ByteArray) (w : World) :
    Calls Tryd.prog 34 #[.string s] w fun e w' => e = .returned (.int .i64 (wordL s.toList)) ∧ w' = w := by
  by_cases c0 : s.toList = [98, 114, 101, 97, 107]
  · rw [show wordL s.toList = 1 from by rw [c0]; decide, ofL c0]; exact word_0 w
  by_cases c1 : s.toList = [99, 111, 110, 116, 105, 110, 117, 101]
  · rw [show wordL s.toList = 1 from by rw [c1]; decide, ofL c1]; exact word_1 w
  by_cases c2 : s.toList = [101, 108, 115, 101]
  · rw [show wordL s.toList = 1 from by rw [c2]; decide, ofL c2]; exact word_2 w
  by_cases c3 : s.toList = [102, 111, 114]
  · rw [show wordL s.toList = 1 from by rw [c3]; decide, ofL c3]; exact word_3 w
  by_cases c4 : s.toList = [102, 117, 110, 99]
  · rw [show wordL s.toList = 1 from by rw [c4]; decide, ofL c4]; exact word_4 w
  by_cases c5 : s.toList = [105, 102]
  · rw [show wordL s.toList = 1 from by rw [c5]; decide, ofL c5]; exact word_5 w
  by_cases c6 : s.toList = [105, 109, 112, 111, 114, 116]
  · rw [show wordL s.toList = 1 from by rw [c6]; decide, ofL c6]; exact word_6 w
  by_cases c7 : s.toList = [105, 110, 116, 101, 114, 102, 97, 99, 101]
  · rw [show wordL s.toList = 1 from by rw [c7]; decide, ofL c7]; exact word_7 w
  by_cases c8 : s.toList = [112, 97, 99, 107, 97, 103, 101]
  · rw [show wordL s.toList = 1 from by rw [c8]; decide, ofL c8]; exact word_8 w
  by_cases c9 : s.toList = [114, 97, 110, 103, 101]
  · rw [show wordL s.toList = 1 from by rw [c9]; decide, ofL c9]; exact word_9 w
  by_cases c10 : s.toList = [114, 101, 116, 117, 114, 110]
  · rw [show wordL s.toList = 1 from by rw [c10]; decide, ofL c10]; exact word_10 w
  by_cases c11 : s.toList = [115, 116, 114, 117, 99, 116]
  · rw [show wordL s.toList = 1 from by rw [c11]; decide, ofL c11]; exact word_11 w
  by_cases c12 : s.toList = [116, 121, 112, 101]
  · rw [show wordL s.toList = 1 from by rw [c12]; decide, ofL c12]; exact word_12 w
  by_cases c13 : s.toList = [118, 97, 114]
  · rw [show wordL s.toList = 1 from by rw [c13]; decide, ofL c13]; exact word_13 w
  by_cases c14 : s.toList = [99, 97, 115, 101]
  · rw [show wordL s.toList = 2 from by rw [c14]; decide, ofL c14]; exact word_14 w
  by_cases c15 : s.toList = [99, 104, 97, 110]
  · rw [show wordL s.toList = 2 from by rw [c15]; decide, ofL c15]; exact word_15 w
  by_cases c16 : s.toList = [99, 111, 110, 115, 116]
  · rw [show wordL s.toList = 2 from by rw [c16]; decide, ofL c16]; exact word_16 w
  by_cases c17 : s.toList = [100, 101, 102, 97, 117, 108, 116]
  · rw [show wordL s.toList = 2 from by rw [c17]; decide, ofL c17]; exact word_17 w
  by_cases c18 : s.toList = [100, 101, 102, 101, 114]
  · rw [show wordL s.toList = 2 from by rw [c18]; decide, ofL c18]; exact word_18 w
  by_cases c19 : s.toList = [102, 97, 108, 108, 116, 104, 114, 111, 117, 103, 104]
  · rw [show wordL s.toList = 2 from by rw [c19]; decide, ofL c19]; exact word_19 w
  by_cases c20 : s.toList = [103, 111]
  · rw [show wordL s.toList = 2 from by rw [c20]; decide, ofL c20]; exact word_20 w
  by_cases c21 : s.toList = [103, 111, 116, 111]
  · rw [show wordL s.toList = 2 from by rw [c21]; decide, ofL c21]; exact word_21 w
  by_cases c22 : s.toList = [109, 97, 112]
  · rw [show wordL s.toList = 2 from by rw [c22]; decide, ofL c22]; exact word_22 w
  by_cases c23 : s.toList = [115, 101, 108, 101, 99, 116]
  · rw [show wordL s.toList = 2 from by rw [c23]; decide, ofL c23]; exact word_23 w
  by_cases c24 : s.toList = [115, 119, 105, 116, 99, 104]
  · rw [show wordL s.toList = 2 from by rw [c24]; decide, ofL c24]; exact word_24 w
  have H : Hid (wordL s.toList = 0) := by show _ = _; simp [wordL, words1, words2, c0, c1, c2, c3, c4, c5, c6, c7, c8, c9, c10, c11, c12, c13, c14, c15, c16, c17, c18, c19, c20, c21, c22, c23, c24]
  replace c0 : (s.toList == [98, 114, 101, 97, 107]) = false := by simpa using c0
  replace c1 : (s.toList == [99, 111, 110, 116, 105, 110, 117, 101]) = false := by simpa using c1
  replace c2 : (s.toList == [101, 108, 115, 101]) = false := by simpa using c2
  replace c3 : (s.toList == [102, 111, 114]) = false := by simpa using c3
  replace c4 : (s.toList == [102, 117, 110, 99]) = false := by simpa using c4
  replace c5 : (s.toList == [105, 102]) = false := by simpa using c5
  replace c6 : (s.toList == [105, 109, 112, 111, 114, 116]) = false := by simpa using c6
  replace c7 : (s.toList == [105, 110, 116, 101, 114, 102, 97, 99, 101]) = false := by simpa using c7
  replace c8 : (s.toList == [112, 97, 99, 107, 97, 103, 101]) = false := by simpa using c8
  replace c9 : (s.toList == [114, 97, 110, 103, 101]) = false := by simpa using c9
  replace c10 : (s.toList == [114, 101, 116, 117, 114, 110]) = false := by simpa using c10
  replace c11 : (s.toList == [115, 116, 114, 117, 99, 116]) = false := by simpa using c11
  replace c12 : (s.toList == [116, 121, 112, 101]) = false := by simpa using c12
  replace c13 : (s.toList == [118, 97, 114]) = false := by simpa using c13
  replace c14 : (s.toList == [99, 97, 115, 101]) = false := by simpa using c14
  replace c15 : (s.toList == [99, 104, 97, 110]) = false := by simpa using c15
  replace c16 : (s.toList == [99, 111, 110, 115, 116]) = false := by simpa using c16
  replace c17 : (s.toList == [100, 101, 102, 97, 117, 108, 116]) = false := by simpa using c17
  replace c18 : (s.toList == [100, 101, 102, 101, 114]) = false := by simpa using c18
  replace c19 : (s.toList == [102, 97, 108, 108, 116, 104, 114, 111, 117, 103, 104]) = false := by simpa using c19
  replace c20 : (s.toList == [103, 111]) = false := by simpa using c20
  replace c21 : (s.toList == [103, 111, 116, 111]) = false := by simpa using c21
  replace c22 : (s.toList == [109, 97, 112]) = false := by simpa using c22
  replace c23 : (s.toList == [115, 101, 108, 101, 99, 116]) = false := by simpa using c23
  replace c24 : (s.toList == [115, 119, 105, 116, 99, 104]) = false := by simpa using c24
  go_enter Tryd.func34, Tryd.ntmps34
  go_wp2_with fail
  go_ret
  exact ⟨by rw [H.out]; rfl, rfl⟩
end Go.Proofs.YtghfmfgdcpihfaaDoor
