import Derived.Test.YtlgolagedgllbaaDoorVrU
import Derived.Deep.RegionLaw
namespace Go.Proofs.YtlgolagedgllbaaDoor
open Go.RowKit Go.Shelf
set_option linter.unusedSimpArgs false
set_option linter.unusedVariables false
set_option linter.unusedSectionVars false

/-! The document's Text. -/
def tenD : ByteArray := ⟨#[48, 49, 50, 51, 52, 53, 54, 55, 56, 57]⟩
theorem ten_one : ∀ M, M < 10 → (⟨#[49, 46]⟩ : ByteArray) ++ tenD.extract M (M + 1) = textF (M : Int) := by decide +kernel
theorem ten_two : ∀ M, M < 100 → 10 ≤ M → (⟨#[49, 46]⟩ : ByteArray) ++ tenD.extract (M / 10) (M / 10 + 1) ++ tenD.extract (M % 10) (M % 10 + 1) = textF (M : Int) := by decide +kernel
theorem ten_size (k : Nat) (h : k < 10) : (tenD.extract k (k + 1)).size = 1 := by
  rw [ByteArray.size_extract]
  have : tenD.size = 10 := rfl
  omega
set_option maxRecDepth 100000 in
set_option maxHeartbeats 3200000 in
theorem reftext_v (m : Int) (w : World) :
    Calls Tryd.prog 10 #[.int .i64 m] w fun e w' => e = .returned (.string (textF m)) ∧ Below w.heap.size w w' := by
  by_cases h0 : m < 0
  · have ht : textF m = ⟨#[]⟩ := by unfold textF; rw [if_pos (.inl h0)]
    have hd : decide (m < 0) = true := decide_eq_true h0
    rw [ht]; clear ht
    go_enter Tryd.func10, Tryd.ntmps10
    go_wp2_with fail
    go_ret
    exact ⟨rfl, Below.refl _ _⟩
  by_cases h1 : 99 < m
  · have ht : textF m = ⟨#[]⟩ := by unfold textF; rw [if_pos (.inr h1)]
    have hd0 : decide (m < 0) = false := decide_eq_false h0
    have hd1 : decide (99 < m) = true := decide_eq_true h1
    rw [ht]; clear ht
    go_enter Tryd.func10, Tryd.ntmps10
    go_wp2_with fail
    go_ret
    exact ⟨rfl, Below.refl _ _⟩
  obtain ⟨M, rfl⟩ := Int.eq_ofNat_of_zero_le (show 0 ≤ m by omega)
  have hd0 : decide ((M : Int) < 0) = false := decide_eq_false h0
  have hd1 : decide (99 < (M : Int)) = false := decide_eq_false h1
  have hM : M < 100 := by omega
  have hn9 : ¬ 99 < M := by omega
  by_cases h10 : M < 10
  · have hi : (M : Int) < 10 := by omega
    have hd2 : decide ((M : Int) < 10) = true := decide_eq_true hi
    have hd3 : decide (M < 10) = true := decide_eq_true h10
    obtain ⟨q, hq⟩ : ∃ q, (⟨#[48, 49, 50, 51, 52, 53, 54, 55, 56, 57]⟩ : ByteArray).extract M (M + 1) = q := ⟨_, rfl⟩
    have hr := ten_one M h10
    have hz := ten_size M h10
    rw [show tenD.extract M (M + 1) = q from hq] at hr hz
    have HR := Lib.hid hr
    have hm1 : M + 1 ≤ 10 := by omega
    have hm2 : (M : Int) + 1 ≤ 10 := by omega
    clear hr
    go_enter Tryd.func10, Tryd.ntmps10
    go_wp2_with fail
    go_ret
    exact ⟨by rw [← HR.out]; rfl, Below.refl _ _⟩
  · have hd2 : decide ((M : Int) < 10) = false := decide_eq_false (by omega)
    have hd3 : decide (M < 10) = false := decide_eq_false h10
    obtain ⟨a, ha⟩ : ∃ a, a = M / 10 := ⟨_, rfl⟩
    obtain ⟨b, hb⟩ : ∃ b, b = M % 10 := ⟨_, rfl⟩
    have ha1 : (M : Int) / 10 = (a : Int) := by omega
    have hb1 : (M : Int) % 10 = (b : Int) := by omega
    have ha9 : a < 10 := by omega
    have hb9 : b < 10 := by omega
    obtain ⟨q, hq⟩ : ∃ q, (⟨#[48, 49, 50, 51, 52, 53, 54, 55, 56, 57]⟩ : ByteArray).extract a (a + 1) = q := ⟨_, rfl⟩
    obtain ⟨r, hr⟩ : ∃ r, (⟨#[48, 49, 50, 51, 52, 53, 54, 55, 56, 57]⟩ : ByteArray).extract b (b + 1) = r := ⟨_, rfl⟩
    have hres := ten_two M hM (by omega)
    rw [← ha, ← hb, show tenD.extract a (a + 1) = q from hq, show tenD.extract b (b + 1) = r from hr] at hres
    have hz1 := ten_size a ha9
    have hz2 := ten_size b hb9
    rw [show tenD.extract a (a + 1) = q from hq] at hz1
    rw [show tenD.extract b (b + 1) = r from hr] at hz2
    have HR := Lib.hid hres
    have hm1 : a + 1 ≤ 10 := by omega
    have hm2 : (a : Int) + 1 ≤ 10 := by omega
    have hm3 : b + 1 ≤ 10 := by omega
    have hm4 : (b : Int) + 1 ≤ 10 := by omega
    have k1 : IntKind.i64.wrap (a : Int) = a := IntWalk.i64_in _ (by omega)
    have k2 : IntKind.i64.wrap ((a : Int) + 1) = (a : Int) + 1 := IntWalk.i64_in _ (by omega)
    have k3 : IntKind.i64.wrap (b : Int) = b := IntWalk.i64_in _ (by omega)
    have k4 : IntKind.i64.wrap ((b : Int) + 1) = (b : Int) + 1 := IntWalk.i64_in _ (by omega)
    have k5 : Int.tmod (M : Int) 10 = (b : Int) := by rw [hb]; rfl
    have k6 : ((a : Int) + 1).toNat = a + 1 := by omega
    have k7 : ((b : Int) + 1).toNat = b + 1 := by omega
    have k8 : (0 : Int) ≤ (a : Int) + 1 := by omega
    have k9 : (0 : Int) ≤ (b : Int) + 1 := by omega
    have j1 : (a : Int) ≤ (a : Int) + 1 := by omega
    have j2 : (b : Int) ≤ (b : Int) + 1 := by omega
    have f1 : ¬ 9223372036854775807 < 2 + q.size := by omega
    have f2 : ¬ 9223372036854775807 < 2 + 1 + r.size := by omega
    clear hres ha hb
    go_enter Tryd.func10, Tryd.ntmps10
    go_wp2_with fail
    go_region_law
    simp only [Act.put, List.getElem_toArray, List.getElem_cons_succ, List.getElem_cons_zero]
    go_wp2_with fail
    go_simp
    go_ret
    exact ⟨by rw [← HR.out]; rfl, (Below.refl _ _).drew⟩
end Go.Proofs.YtlgolagedgllbaaDoor
