import Derived.Test.YtppnjliamfnlkaaLtJ
import Derived.Test.YtppnjliamfnlkaaReg
namespace Go.Proofs.Ytppnjliamfnlkaa
open Go.RowKit
set_option linter.unusedSimpArgs false
set_option linter.unusedVariables false
set_option linter.unusedSectionVars false

/-! The document's Quote. -/
theorem bytesOf_app (a b : List Nat) : bytesOf (a ++ b) = bytesOf a ++ bytesOf b := by
  apply ByteArray.ext
  apply Array.ext'
  simp [bytesOf]
theorem ext_one (s : ByteArray) (k : Nat) (h : k < s.size) : s.extract k (k + 1) = bytesOf [byteN s k] := by
  apply ByteArray.ext
  apply Array.ext'
  have hk : k < s.data.toList.length := by simpa using h
  rw [Lib.extract_data, List.drop_eq_getElem_cons hk, show k + 1 - k = 1 by omega, List.take_succ_cons, List.take_zero]
  simp only [bytesOf, List.map_cons, List.map_nil, byteN, List.getD_eq_getElem?_getD, List.getElem?_eq_getElem hk, Option.getD_some]
  rw [UInt8.ofNat_toNat]
def hexT : ByteArray := ⟨#[48, 49, 50, 51, 52, 53, 54, 55, 56, 57, 97, 98, 99, 100, 101, 102]⟩
theorem hexT_all : ∀ a : Fin 16, hexT.extract a.val (a.val + 1) = bytesOf [hexd a.val] := by decide +kernel
theorem hexT_at (a : Nat) (h : a < 16) : hexT.extract a (a + 1) = bytesOf [hexd a] := hexT_all ⟨a, h⟩

set_option maxHeartbeats 6400000 in
theorem refQuote_any (s : ByteArray) (w : World) (hs : s.size ≤ 100000) :
    Calls Try.prog 16 #[.string s] w fun e w' => e = .returned (.string (quoteF s)) ∧ Below w.heap.size w w' := by
  go_enter Try.func16, Try.ntmps16
  go_wp2_with fail
  go_loopw [3, 4] (fun ov iv wr => ∃ k : Nat, ov = .string (bytesOf (quoteL s k)) ∧ iv = .int .i64 k ∧ k ≤ s.size ∧ Below w.heap.size w wr) (fun _ iv _ => s.size - (intOf iv).toNat)
  case atStart => exact ⟨0, rfl, rfl, by omega, Below.refl _ _⟩
  case round =>
    obtain ⟨k, rfl, rfl, hk, hbl⟩ := hrel
    have HBL := Lib.hid hbl
    clear hbl
    have hql := quoteL_len s k
    rw [← bytesOf_size (quoteL s k)] at hql
    by_cases hlt : k < s.size
    · have hb := str_byte s k hlt
      have hc := byteN_lt s k
      have HE1 := Lib.hid (ext_one s k hlt)
      have HS : Hid (bytesOf (quoteL s (k + 1)) = bytesOf (quoteL s k) ++ bytesOf (quoteB (byteN s k))) := Lib.hid (by rw [quoteL_succ s k hlt, bytesOf_app])
      generalize byteN s k = c at *
      generalize bytesOf (quoteL s k) = o at *
      by_cases c0 : c = 34
      · subst c0
        have HN : Hid (bytesOf (quoteL s (k + 1)) = o ++ ⟨#[92, 34]⟩) := Lib.hid (by rw [HS.out]; rfl)
        clear HS HE1
        go_wp2_with fail
        go_roundw
        case rel => exact ⟨k + 1, by rw [HN.out], by go_num, by omega, HBL.out⟩
        case measure => simp [intOf]; omega
      have k0 : ((c : Int) == 34) = false := by simp; omega
      by_cases c1 : c = 92
      · subst c1
        have HN : Hid (bytesOf (quoteL s (k + 1)) = o ++ ⟨#[92, 92]⟩) := Lib.hid (by rw [HS.out]; rfl)
        clear HS HE1
        go_wp2_with fail
        go_roundw
        case rel => exact ⟨k + 1, by rw [HN.out], by go_num, by omega, HBL.out⟩
        case measure => simp [intOf]; omega
      have k1 : ((c : Int) == 92) = false := by simp; omega
      by_cases c2 : c = 10
      · subst c2
        have HN : Hid (bytesOf (quoteL s (k + 1)) = o ++ ⟨#[92, 110]⟩) := Lib.hid (by rw [HS.out]; rfl)
        clear HS HE1
        go_wp2_with fail
        go_roundw
        case rel => exact ⟨k + 1, by rw [HN.out], by go_num, by omega, HBL.out⟩
        case measure => simp [intOf]; omega
      have k2 : ((c : Int) == 10) = false := by simp; omega
      by_cases c3 : c = 9
      · subst c3
        have HN : Hid (bytesOf (quoteL s (k + 1)) = o ++ ⟨#[92, 116]⟩) := Lib.hid (by rw [HS.out]; rfl)
        clear HS HE1
        go_wp2_with fail
        go_roundw
        case rel => exact ⟨k + 1, by rw [HN.out], by go_num, by omega, HBL.out⟩
        case measure => simp [intOf]; omega
      have k3 : ((c : Int) == 9) = false := by simp; omega
      by_cases c5 : 32 ≤ c ∧ c ≤ 126
      · have HQ : Hid (quoteB c = [c]) := Lib.hid (by unfold quoteB; rw [if_neg (by omega), if_neg c2, if_neg c3, if_pos c5])
        have HN : Hid (bytesOf (quoteL s (k + 1)) = o ++ s.extract k (k + 1)) := Lib.hid (by rw [HS.out, HQ.out, HE1.out])
        obtain ⟨c6, c7⟩ := c5
        have m1 : decide ((32 : Int) ≤ (c : Int)) = true := by simp; omega
        have m2 : decide ((c : Int) ≤ 126) = true := by simp; omega
        have hk1 : k + 1 ≤ s.size := by omega
        have hk2 : (k : Int) + 1 ≤ s.size := by omega
        clear HS HE1 HQ
        go_wp2_with fail
        go_roundw
        case rel => exact ⟨k + 1, by rw [HN.out], by go_num, by omega, HBL.out⟩
        case measure => simp [intOf]; omega
      · have HQ : Hid (quoteB c = [92, 120, hexd (c / 16), hexd (c % 16)]) := Lib.hid (by unfold quoteB; rw [if_neg (by omega), if_neg c2, if_neg c3, if_neg c5])
        obtain ⟨d1, hd1⟩ : ∃ d, c / 16 = d := ⟨_, rfl⟩
        obtain ⟨d2, hd2⟩ : ∃ d, c % 16 = d := ⟨_, rfl⟩
        have l1 : d1 < 16 := by omega
        have l2 : d2 < 16 := by omega
        have t1 : (c : Int).tdiv 16 = (d1 : Int) := by rw [Int.tdiv_eq_ediv_of_nonneg (by omega)]; omega
        have t2 : (c : Int).tmod 16 = (d2 : Int) := by rw [Int.tmod_eq_emod_of_nonneg (by omega)]; omega
        have t3 : (c : Int) / 16 = (d1 : Int) := by omega
        have t4 : (c : Int) % 16 = (d2 : Int) := by omega
        have i1 : (d1 : Int) + 1 ≤ 16 := by omega
        have i2 : (d2 : Int) + 1 ≤ 16 := by omega
        have i3 : d1 + 1 ≤ 16 := by omega
        have i4 : d2 + 1 ≤ 16 := by omega
        have w1 : IntKind.i64.wrap ((d1 : Int) + 1) = (d1 : Int) + 1 := IntWalk.i64_in _ (by omega)
        have w2 : IntKind.i64.wrap ((d2 : Int) + 1) = (d2 : Int) + 1 := IntWalk.i64_in _ (by omega)
        have hm : (decide ((32 : Int) ≤ (c : Int)) = true ∧ decide ((c : Int) ≤ 126) = false) ∨ decide ((32 : Int) ≤ (c : Int)) = false := by
          by_cases h : 32 ≤ c
          · left; simp; omega
          · right; simp; omega
        rw [hd1, hd2] at HQ
        have x1 := hexT_at d1 l1
        have x2 := hexT_at d2 l2
        unfold hexT at x1 x2
        have hb3 : bytesOf [92, 120, hexd d1, hexd d2] = (⟨#[92, 120]⟩ : ByteArray) ++ bytesOf [hexd d1] ++ bytesOf [hexd d2] := by
          apply ByteArray.ext
          apply Array.ext'
          simp [bytesOf]
        have HN : Hid (bytesOf (quoteL s (k + 1)) = o ++ (⟨#[92, 120]⟩ ++ bytesOf [hexd d1] ++ bytesOf [hexd d2])) := Lib.hid (by rw [HS.out, HQ.out, hb3])
        have z1 : (bytesOf [hexd d1]).size = 1 := rfl
        have z2 : (bytesOf [hexd d2]).size = 1 := rfl
        generalize bytesOf [hexd d1] = e1 at *
        generalize bytesOf [hexd d2] = e2 at *
        have hI0 : InvC wr [] wr.drew := InvC.start (Below.refl _ _) (by simp)
        have hne5 : Nonempty (Wld (InvC wr [])) := ⟨⟨_, hI0⟩⟩
        have HI := Lib.hid hI0
        clear HS HE1 HQ hd1 hd2 hI0 c5 hb3
        rcases hm with ⟨hm1, hm2⟩ | hm1
        all_goals
          go_wp2_with fail
          refine wp_region_inv (InvC wr []) (by kernel_rfl) (by kernel_rfl) HI.out ?_
          repeat (go_big_quiet_step (fail))
          refine wpQuiet_nil ?_
          intro w6 hw6
          have HB6 : Hid (Below wr.heap.size wr w6) := by obtain ⟨i, rfl⟩ := hw6; exact Lib.hid i.ok.1
          clear hw6 hne5
          go_wp2_with fail
          go_roundw
          case rel => exact ⟨k + 1, by rw [HN.out], by go_num, by omega, HBL.out.trans (HB6.out.mono HBL.out.size)⟩
          case measure => simp [intOf]; omega
    · obtain rfl : k = s.size := by omega
      have HN : Hid (quoteF s = bytesOf (quoteL s s.size) ++ ⟨#[34]⟩) := Lib.hid (by unfold quoteF; rw [bytesOf_app]; rfl)
      generalize bytesOf (quoteL s s.size) = o at *
      go_wp2_with fail
      go_ret
      exact ⟨by rw [HN.out]; rfl, HBL.out⟩
end Go.Proofs.Ytppnjliamfnlkaa
