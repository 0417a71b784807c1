import Derived.Test.YtgoaakdopbielaaDoorBgH
import Derived.Deep.RegionLaw
namespace Go.Proofs.YtgoaakdopbielaaDoor
open Go.RowKit
set_option linter.unusedSimpArgs false
set_option linter.unusedVariables false
set_option linter.unusedSectionVars false

/-! Layer 9: sums, differences, products of rows; which of two is greater. -/
theorem win_app0 (a : List Int) : winL (a ++ [0]) 0 (a.length + 1) = a ++ [0] := by unfold winL; rw [List.drop_zero]; exact List.take_of_length_le (by simp)
theorem put_all (a m : List Int) (h : m.length = a.length) : putL a 0 m = m := by unfold putL; rw [List.take_zero, List.nil_append, Nat.zero_add, h, List.drop_length, List.append_nil]
theorem okI_wide {a : List Int} (h : okR a) : okI (a ++ [0]) := by unfold okI; rw [List.dropLast_concat]; exact h
def addW (a b : List Int) (f : Int) : List Int := addL 0 (a ++ [0]) b f
def takW (a b : List Int) (f : Int) : List Int := takL 0 (a ++ [0]) b f
theorem addW_len (a b : List Int) (f : Int) : (addW a b f).length = a.length + 1 := by unfold addW; rw [addL_len]; simp
theorem takW_len (a b : List Int) (f : Int) : (takW a b f).length = a.length + 1 := by unfold takW; rw [takL_len]; simp
theorem app0_val (a : List Int) : valI (a ++ [0]) = valI a := by rw [valI_app]; simp [valI]
theorem addW_val (a b : List Int) (f : Int) (h : b.length ≤ a.length) : valI (addW a b f) = valI a + f * valI b := by unfold addW; rw [addL_val _ _ _ _ (by simp; omega), app0_val]; omega
theorem takW_val (a b : List Int) (f : Int) (h : b.length ≤ a.length) : valI (takW a b f) = valI a - f * valI b := by unfold takW; rw [takL_val _ _ _ _ (by simp; omega), app0_val]; omega
/-- What plus tells. -/
def plusR (a b : List Int) : List Int := if a.length < b.length then trimL (addW b a 1) else trimL (addW a b 1)
theorem addW_ok (a b : List Int) (ha : okR a) (hb : okR b) (h : b.length ≤ a.length) : okR (addW a b 1) := by
  have hv := addW_val a b 1 h
  have h1 := valI_lt a ha
  have h2 := valI_lt b hb
  have h3 := valI_nonneg a ha
  have h4 := valI_nonneg b hb
  have h5 := powB_mono h
  refine okI_all (addL_ok _ _ _ _) (by show 0 ≤ valI (addW a b 1); omega) ?_
  show valI (addW a b 1) < powB (addW a b 1).length
  rw [addW_len, powB_succ, hv]
  have hB : BB * powB a.length = 1000000000 * powB a.length := rfl
  have := powB_pos a.length
  omega
theorem plus_val {a b : List Int} (ha : okR a) (hb : okR b) : canon (plusR a b) ∧ valI (plusR a b) = valI a + valI b ∧ (plusR a b).length ≤ max a.length b.length + 1 := by
  unfold plusR
  split
  · rename_i h
    refine ⟨trim_ok _ (addW_ok b a hb ha (by omega)), by rw [trim_val, addW_val b a 1 (by omega)]; omega, ?_⟩
    have := trim_le (addW b a 1)
    rw [addW_len] at this
    omega
  · rename_i h
    refine ⟨trim_ok _ (addW_ok a b ha hb (by omega)), by rw [trim_val, addW_val a b 1 (by omega)]; omega, ?_⟩
    have := trim_le (addW a b 1)
    rw [addW_len] at this
    omega
/-- What without tells. -/
def withoutR (a b : List Int) : List Int := trimL (takW a b 1)
theorem without_val {a b : List Int} (ha : okR a) (hb : okR b) (hl : b.length ≤ a.length) (h : valI b ≤ valI a) : canon (withoutR a b) ∧ valI (withoutR a b) = valI a - valI b ∧ (withoutR a b).length ≤ a.length + 1 := by
  unfold withoutR
  have hv := takW_val a b 1 hl
  have h1 := valI_lt a ha
  have h4 := valI_nonneg b hb
  have hok : okR (takW a b 1) := by
    refine okI_all (takL_ok _ _ _ _ (okI_wide ha)) (by show 0 ≤ valI (takW a b 1); omega) ?_
    show valI (takW a b 1) < powB (takW a b 1).length
    rw [takW_len, powB_succ, hv]
    have hB : BB * powB a.length = 1000000000 * powB a.length := rfl
    have := powB_pos a.length
    omega
  refine ⟨trim_ok _ hok, by rw [trim_val, hv]; omega, ?_⟩
  have := trim_le (takW a b 1)
  rw [takW_len] at this
  omega
theorem row_of {w : World} {g n : Nat} {L a : List Int} (hL : Blk w g L) (hw : L.take n = a) (hn : n = a.length) (hl : n ≤ L.length) : RowA w (.slice (some ⟨g, 0, none⟩) n n) a := by
  subst hn
  exact ⟨g, 0, a.length, L, rfl, hL, by unfold winL; rw [List.drop_zero]; exact hw, by omega, Nat.le_refl _⟩
set_option maxRecDepth 100000 in
set_option maxHeartbeats 1600000 in
theorem plusU_v (p o capA q r capB : Nat) (a b L M : List Int) (va vb : Value) (w : World) (hL : Blk w p L) (hLw : winL L o a.length = a) (hM : Blk w q M) (hMw : winL M r b.length = b) (hMl : r + b.length ≤ M.length)
    (hab : b.length ≤ a.length) (ha : okR a) (hb : okR b) (hl : a.length ≤ 100000) :
    (Calls Tryd.prog 71 #[.slice (some ⟨p, o, none⟩) a.length capA] w fun e w' => e = .returned (.slice (some ⟨w.heap.size, 0, none⟩) (a.length + 1) (a.length + 1)) ∧ Blk w' w.heap.size (a ++ [0]) ∧ Below w.heap.size w w') ∧
    (∀ w1, Blk w1 w.heap.size (a ++ [0]) → Below w.heap.size w w1 → Calls Tryd.prog 72 #[.slice (some ⟨w.heap.size, 0, none⟩) (a.length + 1) (a.length + 1), .slice (some ⟨q, r, none⟩) b.length capB, .int .i64 1] w1 fun e w' => e = .returned (.tuple #[]) ∧ Blk w' w.heap.size (addW a b 1) ∧ Below w.heap.size w w') ∧
    (∀ w1, Blk w1 w.heap.size (addW a b 1) → Calls Tryd.prog 66 #[.slice (some ⟨w.heap.size, 0, none⟩) (a.length + 1) (a.length + 1)] w1 fun e w' => e = .returned (.slice (some ⟨w.heap.size, 0, none⟩) (trimL (addW a b 1)).length (trimL (addW a b 1)).length) ∧ w' = w1) := by
  refine ⟨wider_v p o capA a L w hL hLw hl, fun w1 h1 h2 => ?_, fun w1 h1 => ?_⟩
  · have hq := hM.lt
    have h := add_v w.heap.size 0 a.length (a.length + 1) q r b.length capB 1 (a ++ [0]) M w1 h1 (hM.below h2) (by omega) (by simp) hMl hab (by rw [win_app0]; exact okI_wide ha) (by rw [hMw]; exact hb) ⟨by decide, by decide⟩ (by omega) (fun x hx => by
      rw [Nat.zero_add, List.getElem?_append_right (by omega), Nat.sub_self] at hx
      have : x = 0 := by simpa using hx.symm
      omega)
    rw [win_app0, hMw] at h
    refine h.mono ?_
    rintro e w' ⟨rfl, h3, h4⟩
    rw [put_all _ _ (by rw [addL_len])] at h3
    exact ⟨rfl, h3, h2.trans (h4.below h2.size (fun k hk => by omega))⟩
  · have h := trimmed_v w.heap.size 0 (a.length + 1) (addW a b 1) (addW a b 1) w1 h1 (win_full _) (by rw [addW_len]; omega) (by rw [addW_len]; omega)
    rw [addW_len] at h
    exact h
set_option maxRecDepth 100000 in
set_option maxHeartbeats 1600000 in
theorem plus_v (va vb : Value) (a b : List Int) (w : World) (hA : RowA w va a) (hB : RowA w vb b) (ha : okR a) (hb : okR b) (hla : a.length ≤ 100000) (hlb : b.length ≤ 100000) :
    Calls Tryd.prog 48 #[va, vb] w fun e w' => ∃ v, e = .returned v ∧ RowA w' v (plusR a b) ∧ Below w.heap.size w w' := by
  obtain ⟨p, o, capA, L, rfl, hL, hLw, hLl, _⟩ := hA
  obtain ⟨q, r, capB, M, rfl, hM, hMw, hMl, _⟩ := hB
  by_cases hc : a.length < b.length
  · obtain ⟨h1, h2, h3⟩ := plusU_v q r capB p o capA b a M L (.nilIface) (.nilIface) w hM hMw hL hLw hLl (by omega) hb ha hlb
    have HR : Hid (plusR a b = trimL (addW b a 1)) := Lib.hid (by unfold plusR; rw [if_pos hc])
    have hci : (a.length : Int) < (b.length : Int) := by omega
    have hcd : decide ((a.length : Int) < (b.length : Int)) = true := decide_eq_true hci
    clear hL hLw hLl hM hMw hMl hla hlb
    go_enter Tryd.func48, Tryd.ntmps48
    go_wp2_with (first
      | (go_at_call 71; with_reducible refine Calls.mono h1 ?_; rintro e w1 ⟨rfl, hb1, hbl1⟩; have H1 := Lib.hid (h2 _ hb1 hbl1); clear hb1 hbl1 h2)
      | (go_at_call 72; with_reducible refine Calls.mono H1.out ?_; rintro e w2 ⟨rfl, hb2, hbl2⟩; have H2 := Lib.hid (h3 _ hb2); have HB2 := Lib.hid hb2; have HBL2 := Lib.hid hbl2; clear hb2 hbl2 h3)
      | (go_at_call 66; with_reducible refine Calls.mono H2.out ?_; rintro e w3 ⟨rfl, hw3⟩; replace hw3 := hw3.symm; subst hw3))
    go_ret
    refine ⟨_, rfl, ?_, HBL2.out⟩
    rw [HR.out]
    exact row_of HB2.out (trim_take _).symm rfl (trim_le _)
  · obtain ⟨h1, h2, h3⟩ := plusU_v p o capA q r capB a b L M (.nilIface) (.nilIface) w hL hLw hM hMw hMl (by omega) ha hb hla
    have HR : Hid (plusR a b = trimL (addW a b 1)) := Lib.hid (by unfold plusR; rw [if_neg hc])
    have hci : ¬ (a.length : Int) < (b.length : Int) := by omega
    have hcd : decide ((a.length : Int) < (b.length : Int)) = false := decide_eq_false hci
    clear hL hLw hLl hM hMw hMl hla hlb
    go_enter Tryd.func48, Tryd.ntmps48
    go_wp2_with (first
      | (go_at_call 71; with_reducible refine Calls.mono h1 ?_; rintro e w1 ⟨rfl, hb1, hbl1⟩; have H1 := Lib.hid (h2 _ hb1 hbl1); clear hb1 hbl1 h2)
      | (go_at_call 72; with_reducible refine Calls.mono H1.out ?_; rintro e w2 ⟨rfl, hb2, hbl2⟩; have H2 := Lib.hid (h3 _ hb2); have HB2 := Lib.hid hb2; have HBL2 := Lib.hid hbl2; clear hb2 hbl2 h3)
      | (go_at_call 66; with_reducible refine Calls.mono H2.out ?_; rintro e w3 ⟨rfl, hw3⟩; replace hw3 := hw3.symm; subst hw3))
    go_ret
    refine ⟨_, rfl, ?_, HBL2.out⟩
    rw [HR.out]
    exact row_of HB2.out (trim_take _).symm rfl (trim_le _)
set_option maxRecDepth 100000 in
set_option maxHeartbeats 1600000 in
theorem without_v (va vb : Value) (a b : List Int) (w : World) (hA : RowA w va a) (hB : RowA w vb b) (ha : okR a) (hb : okR b) (hla : a.length ≤ 100000) (hab : b.length ≤ a.length) :
    Calls Tryd.prog 50 #[va, vb] w fun e w' => ∃ v, e = .returned v ∧ RowA w' v (withoutR a b) ∧ Below w.heap.size w w' := by
  obtain ⟨p, o, capA, L, rfl, hL, hLw, hLl, _⟩ := hA
  obtain ⟨q, r, capB, M, rfl, hM, hMw, hMl, _⟩ := hB
  have hq := hM.lt
  have h1 := wider_v p o capA a L w hL hLw hla
  have h2 : ∀ w1, Blk w1 w.heap.size (a ++ [0]) → Below w.heap.size w w1 → Calls Tryd.prog 73 #[.slice (some ⟨w.heap.size, 0, none⟩) (a.length + 1) (a.length + 1), .slice (some ⟨q, r, none⟩) b.length capB, .int .i64 1] w1 fun e w' => e = .returned (.tuple #[]) ∧ Blk w' w.heap.size (takW a b 1) ∧ Below w.heap.size w w' := fun w1 h1 h2 => by
    have h := take_v w.heap.size 0 a.length (a.length + 1) q r b.length capB 1 (a ++ [0]) M w1 h1 (hM.below h2) (by omega) (by simp) hMl hab (by rw [win_app0]; exact okI_wide ha) (by rw [hMw]; exact hb) ⟨by decide, by decide⟩ (by omega) (fun x hx => by
      rw [Nat.zero_add, List.getElem?_append_right (by omega), Nat.sub_self] at hx
      have : x = 0 := by simpa using hx.symm
      omega)
    rw [win_app0, hMw] at h
    refine h.mono ?_
    rintro e w' ⟨rfl, h3, h4⟩
    rw [put_all _ _ (by rw [takL_len])] at h3
    exact ⟨rfl, h3, h2.trans (h4.below h2.size (fun k hk => by omega))⟩
  have h3 : ∀ w1, Blk w1 w.heap.size (takW a b 1) → Calls Tryd.prog 66 #[.slice (some ⟨w.heap.size, 0, none⟩) (a.length + 1) (a.length + 1)] w1 fun e w' => e = .returned (.slice (some ⟨w.heap.size, 0, none⟩) (trimL (takW a b 1)).length (trimL (takW a b 1)).length) ∧ w' = w1 := fun w1 h1 => by
    have h := trimmed_v w.heap.size 0 (a.length + 1) (takW a b 1) (takW a b 1) w1 h1 (win_full _) (by rw [takW_len]; omega) (by rw [takW_len]; omega)
    rw [takW_len] at h
    exact h
  clear hL hLw hLl hM hMw hMl hla
  go_enter Tryd.func50, Tryd.ntmps50
  go_wp2_with (first
    | (go_at_call 71; with_reducible refine Calls.mono h1 ?_; rintro e w1 ⟨rfl, hb1, hbl1⟩; have H1 := Lib.hid (h2 _ hb1 hbl1); clear hb1 hbl1 h2)
    | (go_at_call 73; with_reducible refine Calls.mono H1.out ?_; rintro e w2 ⟨rfl, hb2, hbl2⟩; have H2 := Lib.hid (h3 _ hb2); have HB2 := Lib.hid hb2; have HBL2 := Lib.hid hbl2; clear hb2 hbl2 h3)
    | (go_at_call 66; with_reducible refine Calls.mono H2.out ?_; rintro e w3 ⟨rfl, hw3⟩; replace hw3 := hw3.symm; subst hw3))
  go_ret
  refine ⟨_, rfl, ?_, HBL2.out⟩
  exact row_of HB2.out (trim_take _).symm rfl (trim_le _)
end Go.Proofs.YtgoaakdopbielaaDoor
