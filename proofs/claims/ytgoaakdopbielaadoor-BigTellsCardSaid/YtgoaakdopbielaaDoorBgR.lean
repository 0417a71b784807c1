import Derived.Test.YtgoaakdopbielaaDoorBgQ
import Derived.Deep.RegionLaw
namespace Go.Proofs.YtgoaakdopbielaaDoor
open Go.RowKit Go.Shelf
set_option linter.unusedSimpArgs false
set_option linter.unusedVariables false
set_option linter.unusedSectionVars false

/-! Layer 9: what is reckoned with numbers. -/
/-- A number that is told: it is z. -/
def NumA (w : World) (x : Value) (z : Int) (n : Nat) : Prop := ∃ b v c, x = .agg #[.bool b, v] ∧ RowA w v c ∧ canon c ∧ signZ b c = z ∧ c.length ≤ n
theorem NumA.below {w w' : World} {x : Value} {z : Int} {n : Nat} (h : NumA w x z n) (hb : Below w.heap.size w w') : NumA w' x z n := by
  obtain ⟨b, v, c, h1, h2, h3⟩ := h
  exact ⟨b, v, c, h1, h2.below hb, h3⟩
theorem sign_neg (b : Bool) (c : List Int) : signZ (!b) c = - signZ b c := by unfold signZ; cases b <;> simp
theorem RowA.shape {w : World} {v : Value} {a : List Int} (h : RowA w v a) : ∃ p o n cap, v = .slice (some ⟨p, o, none⟩) n cap := by
  obtain ⟨p, o, cap, L, h1, _⟩ := h
  exact ⟨p, o, _, cap, h1⟩
theorem row_lt {w : World} {v : Value} {a : List Int} (h : RowA w v a) (x : Value) : RowA (w.alloc (.cells #[x, v] 44)) v a := h.below ((Below.refl _ _).alloc (Nat.le_refl _) _)
set_option maxRecDepth 100000 in
set_option maxHeartbeats 1600000 in
theorem opposite_v (x : Value) (z : Int) (n : Nat) (w : World) (h : NumA w x z n) :
    Calls Tryd.prog 30 #[x] w fun e w' => ∃ y, e = .returned y ∧ NumA w' y (-z) n ∧ Below w.heap.size w w' := by
  obtain ⟨b, v, c, rfl, hr, hc, hz, hl⟩ := h
  obtain ⟨p, o, m, cap, rfl⟩ := hr.shape
  have h0 : Below w.heap.size w (w.alloc (.cells #[.bool b, .slice (some ⟨p, o, none⟩) m cap] 44)) := (Below.refl _ _).alloc (Nat.le_refl _) _
  have h1 : ∀ x y, Below w.heap.size w ((w.alloc (.cells #[.bool b, .slice (some ⟨p, o, none⟩) m cap] 44)).alloc (.cells #[x, y] 44)) := fun x y => h0.alloc h0.size _
  have HRS := Lib.hid (fun x y => hr.below (h1 x y))
  have HBS := Lib.hid h1
  have HZ : Hid (signZ (!b) c = -z) := Lib.hid (by rw [sign_neg, hz])
  clear h0 h1 hr
  go_enter Tryd.func30, Tryd.ntmps30
  go_wp2_with fail
  refine bodyPost_ret (v := .agg #[.bool (!b), .slice (some ⟨p, o, none⟩) m cap]) ?_ rfl ⟨_, rfl, ⟨!b, _, c, rfl, HRS.out _ _, hc, HZ.out, hl⟩, HBS.out _ _⟩
  simp [results, Tryd.results30, go_sem]
set_option maxRecDepth 100000 in
set_option maxHeartbeats 1600000 in
theorem sign_v (x : Value) (z : Int) (n : Nat) (w : World) (h : NumA w x z n) :
    Calls Tryd.prog 46 #[x] w fun e w' => e = .returned (.int .i64 (Lib.compareInt z 0)) ∧ Below w.heap.size w w' := by
  obtain ⟨b, v, c, rfl, hr, hc, hz, hl⟩ := h
  obtain ⟨p, o, cap, L, rfl, hL, _⟩ := hr
  have h0 : Below w.heap.size w (w.alloc (.cells #[.bool b, .slice (some ⟨p, o, none⟩) c.length cap] 44)) := (Below.refl _ _).alloc (Nat.le_refl _) _
  have HB0 := Lib.hid h0
  have hv0 := valI_nonneg c hc.1
  obtain ⟨m, hm⟩ : ∃ m, c.length = m := ⟨_, rfl⟩
  have HC : Hid (m = 0 ∧ z = 0 ∨ m ≠ 0 ∧ ((b = true ∧ z < 0) ∨ (b = false ∧ 0 < z))) := Lib.hid (by
    by_cases h : c = []
    · left
      refine ⟨by rw [← hm, h]; rfl, ?_⟩
      rw [← hz, h]; unfold signZ; cases b <;> rfl
    · right
      have hne : valI c ≠ 0 := fun e => h (canon_zero hc e)
      refine ⟨fun e => h (List.eq_nil_of_length_eq_zero (by omega)), ?_⟩
      rw [← hz]
      unfold signZ
      cases b
      · right; simp; omega
      · left; simp; omega)
  rw [hm] at HB0 ⊢
  clear h0 hL hc hz hl hm hv0
  rcases HC.out with ⟨rfl, rfl⟩ | ⟨hm0, ⟨rfl, hz⟩ | ⟨rfl, hz⟩⟩
  · go_enter Tryd.func46, Tryd.ntmps46
    go_wp2_with fail
    go_ret
    exact ⟨rfl, HB0.out⟩
  · have e1 : ((m : Int) == 0) = false := by rw [beq_eq_false_iff_ne]; omega
    have e2 : decide ((m : Int) = 0) = false := decide_eq_false (by omega)
    have e3 : ¬ (m : Int) = 0 := by omega
    have HZ : Hid (Lib.compareInt z 0 = -1) := Lib.hid (by unfold Lib.compareInt; rw [if_pos hz])
    clear HC hz
    go_enter Tryd.func46, Tryd.ntmps46
    go_wp2_with fail
    go_ret
    exact ⟨by rw [HZ.out]; rfl, HB0.out⟩
  · have e1 : ((m : Int) == 0) = false := by rw [beq_eq_false_iff_ne]; omega
    have e2 : decide ((m : Int) = 0) = false := decide_eq_false (by omega)
    have e3 : ¬ (m : Int) = 0 := by omega
    have HZ : Hid (Lib.compareInt z 0 = 1) := Lib.hid (by unfold Lib.compareInt; rw [if_neg (by omega), if_pos (by omega)])
    clear HC hz
    go_enter Tryd.func46, Tryd.ntmps46
    go_wp2_with fail
    go_ret
    exact ⟨by rw [HZ.out]; rfl, HB0.out⟩
end Go.Proofs.YtgoaakdopbielaaDoor
