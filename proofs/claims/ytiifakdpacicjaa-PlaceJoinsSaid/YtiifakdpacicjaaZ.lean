import Derived.Test.YtiifakdpacicjaaW
import Derived.Test.YtiifakdpacicjaaY
namespace Go.Proofs.Ytiifakdpacicjaa
open Go.RowKit

/-- A walk stands still here. -/
def Stop (p : Prop) : Prop := p
theorem Stop.off {p : Prop} (h : Stop p) : p := h
theorem Stop.on {p : Prop} (h : p) : Stop p := h

theorem bsl_cells {w : World} {p : Option Addr} {s : ByteArray} (h : BSl w p s) (h0 : 0 < s.size) : ∃ b o, p = some ⟨b, o, none⟩ ∧ BytesN w b o s := by
  rcases h with h | ⟨b, o, h1, h2, _⟩
  · omega
  · exact ⟨b, o, h1, h2⟩

set_option maxHeartbeats 1600000 in
theorem placeTexts_walk (p q : Option Addr) (cp cq : Nat) (a b : ByteArray) (w : World) (ha : BSl w p a) (hcp : p = none → cp = 0) (hb : BSl w q b) (hcq : q = none → cq = 0) :
    Calls Try.prog 8 #[.slice p a.size cp, .slice q b.size cq] w fun e w' => e = .returned (.bool true) ∧ Below w.heap.size w w' := by
  have HA := Lib.hid ha; clear ha
  have HB := Lib.hid hb; clear hb
  have HCP := Lib.hid hcp; clear hcp
  have HCQ := Lib.hid hcq; clear hcq
  by_cases h1 : 300 < a.size
  · have h1' : (300 : Int) < a.size := by omega
    clear h1
    go_enter Try.func8, Try.ntmps8
    go_wp2_with (go_at_call 14; refine (awake_any _).mono ?_; rintro e w' ⟨rfl, hb⟩; have HBB := Lib.hid hb; clear hb)
    go_ret
    exact ⟨rfl, HBB.out⟩
  have h1' : ¬ (300 : Int) < a.size := by omega
  by_cases h2 : 300 < b.size
  · have h2' : (300 : Int) < b.size := by omega
    clear h1 h2
    go_enter Try.func8, Try.ntmps8
    go_wp2_with (go_at_call 14; refine (awake_any _).mono ?_; rintro e w' ⟨rfl, hb⟩; have HBB := Lib.hid hb; clear hb)
    go_ret
    exact ⟨rfl, HBB.out⟩
  have h2' : ¬ (300 : Int) < b.size := by omega
  by_cases h3 : ¬ wrongR a (a.size + 1) 0 = -1
  · have h3' : (wrongR a (a.size + 1) 0 != -1) = true := by simp [h3]
    clear h3
    go_enter Try.func8, Try.ntmps8
    go_wp2_with fail
    refine (refWrong_any p cp a w HA.out (by omega)).mono ?_
    rintro e w1 ⟨rfl, rfl⟩
    go_wp2_with (go_at_call 14; refine (awake_any _).mono ?_; rintro e w' ⟨rfl, hb⟩; have HBB := Lib.hid hb; clear hb)
    go_ret
    exact ⟨rfl, HBB.out⟩
  have h3 := Decidable.not_not.1 h3
  by_cases h4 : ¬ wrongR b (b.size + 1) 0 = -1
  · have h4' : (wrongR b (b.size + 1) 0 != -1) = true := by simp [h4]
    have H3 := Lib.hid h3
    clear h3 h4
    go_enter Try.func8, Try.ntmps8
    go_wp2_with fail
    refine (refWrong_any p cp a w HA.out (by omega)).mono ?_
    rintro e w1 ⟨rfl, rfl⟩
    rw [H3.out]
    go_wp2_with fail
    refine (refWrong_any q cq b w1 HB.out (by omega)).mono ?_
    rintro e w2 ⟨rfl, rfl⟩
    go_wp2_with (go_at_call 14; refine (awake_any _).mono ?_; rintro e w' ⟨rfl, hb⟩; have HBB := Lib.hid hb; clear hb)
    go_ret
    exact ⟨rfl, HBB.out⟩
  have h4 := Decidable.not_not.1 h4
  have H3 := Lib.hid h3
  have H4 := Lib.hid h4
  clear h3 h4
  have hcase : b.size < 3 ∨ (3 ≤ b.size ∧ (byteN b 0 ≠ 239 ∨ (byteN b 0 = 239 ∧ (byteN b 1 ≠ 187 ∨ (byteN b 1 = 187 ∧ (byteN b 2 ≠ 191 ∨ (byteN b 2 = 191 ∧ (a.size = 0 ∨ 0 < a.size)))))))) := by omega
  go_enter Try.func8, Try.ntmps8
  go_wp2_with fail
  refine (refWrong_any p cp a w HA.out (by omega)).mono ?_
  rintro e w1 ⟨rfl, rfl⟩
  rw [H3.out]
  go_wp2_with fail
  refine (refWrong_any q cq b w1 HB.out (by omega)).mono ?_
  rintro e w2 ⟨rfl, rfl⟩
  rw [H4.out]
  have HCASE := Lib.hid hcase; clear hcase
  go_wp2_with (first
    | (at_builtin; refine wp_append_bytes rfl (.tmp 26) (.tmp 27) rfl w2.heap.size _ ByteArray.empty rfl (OwnB.made (Nat.le_refl _)) p cp a rfl (HA.out.alloc _) HCP.out (by simp; omega) (by simp) ?_; intro v1 w3 hv1 hg1; have HV := Lib.hid hv1; have HB3 : Hid (Below w2.heap.size w2 w3) := grown_below ((Below.refl _ _).alloc (Nat.le_refl _) _) rfl hg1 (Nat.le_refl _); clear hv1 hg1)
    | (at_builtin; refine wp_append_bytes rfl (.tmp 28) (.tmp 29) rfl w2.heap.size _ (ByteArray.empty ++ a) rfl HV.out q cq b rfl (HB.out.below HB3.out) HCQ.out (by rw [ByteArray.size_append]; simp; omega) HB3.out.size ?_; intro v2 w4 hv2 hg2; have HV2 := Lib.hid hv2; have HB4 : Hid (Below w2.heap.size w2 w4) := HB3.out.grown hg2 HB3.out.size (fun k hk => (HV.out.lt k hk).1); clear hv2 hg2; refine Stop.off ?_))
  refine Stop.on ?_
  obtain ⟨r, c, hv, hr, _, _⟩ := HV2.out.bsl
  rw [ByteArray.empty_append] at hv hr
  subst hv
  have HR := Lib.hid hr
  have hsz : (a ++ b).size ≤ 4611686018427387904 := by rw [ByteArray.size_append]; omega
  clear hr
  rcases HCASE.out with k0 | ⟨k0, k1 | ⟨k1, k2 | ⟨k2, k3 | ⟨k3, k4 | k4⟩⟩⟩⟩
  · have g0 : ¬ (3 : Int) ≤ (b.size : Int) := by omega
    have HEQ := texts_join a b H3.out H4.out (by omega)
    generalize a ++ b = t at HEQ HR hsz ⊢
    replace HEQ := Lib.hid HEQ
    clear k0
    go_wp2_with fail
    refine (wrong_r r c t w4 HR.out hsz).mono ?_
    rintro e w5 ⟨rfl, hb5⟩
    rw [HEQ.out]
    have HB5 : Hid (Below w2.heap.size w2 w5) := HB4.out.trans (hb5.mono HB4.out.size)
    clear hb5
    go_wp2_with (go_at_call 14; refine (awake_any _).mono ?_; rintro e w6 ⟨rfl, hb6⟩; have HB6 : Hid (Below w2.heap.size w2 w6) := HB5.out.trans (hb6.mono HB5.out.size); clear hb6)
    go_ret
    exact ⟨rfl, HB6.out⟩
  · have g0 : (3 : Int) ≤ (b.size : Int) := by omega
    obtain ⟨bq, oq, rfl, hbq⟩ := bsl_cells (HB.out.below HB4.out) (show 0 < b.size by omega)
    have e0 := hbq 0 (by omega)
    rw [Nat.add_zero] at e0
    have e1 := hbq 1 (by omega)
    have e2 := hbq 2 (by omega)
    clear hbq
    have g1 : ((byteN b 0 : Int) == 239) = false := by simp; omega
    have HEQ := texts_join a b H3.out H4.out (by omega)
    generalize a ++ b = t at HEQ HR hsz ⊢
    replace HEQ := Lib.hid HEQ
    clear k0 k1
    go_wp2_with fail
    refine (wrong_r r c t w4 HR.out hsz).mono ?_
    rintro e w5 ⟨rfl, hb5⟩
    rw [HEQ.out]
    have HB5 : Hid (Below w2.heap.size w2 w5) := HB4.out.trans (hb5.mono HB4.out.size)
    clear hb5
    go_wp2_with (go_at_call 14; refine (awake_any _).mono ?_; rintro e w6 ⟨rfl, hb6⟩; have HB6 : Hid (Below w2.heap.size w2 w6) := HB5.out.trans (hb6.mono HB5.out.size); clear hb6)
    go_ret
    exact ⟨rfl, HB6.out⟩
  · have g0 : (3 : Int) ≤ (b.size : Int) := by omega
    obtain ⟨bq, oq, rfl, hbq⟩ := bsl_cells (HB.out.below HB4.out) (show 0 < b.size by omega)
    have e0 := hbq 0 (by omega)
    rw [Nat.add_zero] at e0
    have e1 := hbq 1 (by omega)
    have e2 := hbq 2 (by omega)
    clear hbq
    rw [k1] at e0
    have g2 : ((byteN b 1 : Int) == 187) = false := by simp; omega
    have HEQ := texts_join a b H3.out H4.out (by omega)
    generalize a ++ b = t at HEQ HR hsz ⊢
    replace HEQ := Lib.hid HEQ
    clear k0 k1 k2
    go_wp2_with fail
    refine (wrong_r r c t w4 HR.out hsz).mono ?_
    rintro e w5 ⟨rfl, hb5⟩
    rw [HEQ.out]
    have HB5 : Hid (Below w2.heap.size w2 w5) := HB4.out.trans (hb5.mono HB4.out.size)
    clear hb5
    go_wp2_with (go_at_call 14; refine (awake_any _).mono ?_; rintro e w6 ⟨rfl, hb6⟩; have HB6 : Hid (Below w2.heap.size w2 w6) := HB5.out.trans (hb6.mono HB5.out.size); clear hb6)
    go_ret
    exact ⟨rfl, HB6.out⟩
  · have g0 : (3 : Int) ≤ (b.size : Int) := by omega
    obtain ⟨bq, oq, rfl, hbq⟩ := bsl_cells (HB.out.below HB4.out) (show 0 < b.size by omega)
    have e0 := hbq 0 (by omega)
    rw [Nat.add_zero] at e0
    have e1 := hbq 1 (by omega)
    have e2 := hbq 2 (by omega)
    clear hbq
    rw [k1] at e0
    rw [k2] at e1
    have g3 : ((byteN b 2 : Int) == 191) = false := by simp; omega
    have HEQ := texts_join a b H3.out H4.out (by omega)
    generalize a ++ b = t at HEQ HR hsz ⊢
    replace HEQ := Lib.hid HEQ
    clear k0 k1 k2 k3
    go_wp2_with fail
    refine (wrong_r r c t w4 HR.out hsz).mono ?_
    rintro e w5 ⟨rfl, hb5⟩
    rw [HEQ.out]
    have HB5 : Hid (Below w2.heap.size w2 w5) := HB4.out.trans (hb5.mono HB4.out.size)
    clear hb5
    go_wp2_with (go_at_call 14; refine (awake_any _).mono ?_; rintro e w6 ⟨rfl, hb6⟩; have HB6 : Hid (Below w2.heap.size w2 w6) := HB5.out.trans (hb6.mono HB5.out.size); clear hb6)
    go_ret
    exact ⟨rfl, HB6.out⟩
  · have g0 : (3 : Int) ≤ (b.size : Int) := by omega
    obtain ⟨bq, oq, rfl, hbq⟩ := bsl_cells (HB.out.below HB4.out) (show 0 < b.size by omega)
    have e0 := hbq 0 (by omega)
    rw [Nat.add_zero] at e0
    have e1 := hbq 1 (by omega)
    have e2 := hbq 2 (by omega)
    clear hbq
    rw [k1] at e0
    rw [k2] at e1
    rw [k3] at e2
    have g4 : ¬ (0 : Int) < (a.size : Int) := by omega
    have HEQ := texts_join a b H3.out H4.out (by omega)
    generalize a ++ b = t at HEQ HR hsz ⊢
    replace HEQ := Lib.hid HEQ
    clear k0 k1 k2 k3 k4
    go_wp2_with fail
    refine (wrong_r r c t w4 HR.out hsz).mono ?_
    rintro e w5 ⟨rfl, hb5⟩
    rw [HEQ.out]
    have HB5 : Hid (Below w2.heap.size w2 w5) := HB4.out.trans (hb5.mono HB4.out.size)
    clear hb5
    go_wp2_with (go_at_call 14; refine (awake_any _).mono ?_; rintro e w6 ⟨rfl, hb6⟩; have HB6 : Hid (Below w2.heap.size w2 w6) := HB5.out.trans (hb6.mono HB5.out.size); clear hb6)
    go_ret
    exact ⟨rfl, HB6.out⟩
  · have g0 : (3 : Int) ≤ (b.size : Int) := by omega
    obtain ⟨bq, oq, rfl, hbq⟩ := bsl_cells (HB.out.below HB4.out) (show 0 < b.size by omega)
    have e0 := hbq 0 (by omega)
    rw [Nat.add_zero] at e0
    have e1 := hbq 1 (by omega)
    have e2 := hbq 2 (by omega)
    clear hbq
    rw [k1] at e0
    rw [k2] at e1
    rw [k3] at e2
    have g4 : (0 : Int) < (a.size : Int) := by omega
    have HEQ := texts_marked a b H3.out k4 ⟨k0, k1, k2, k3⟩
    generalize a ++ b = t at HEQ HR hsz ⊢
    replace HEQ := Lib.hid HEQ
    clear k0 k1 k2 k3 k4
    go_wp2_with fail
    refine (wrong_r r c t w4 HR.out hsz).mono ?_
    rintro e w5 ⟨rfl, hb5⟩
    rw [HEQ.out]
    have HB5 : Hid (Below w2.heap.size w2 w5) := HB4.out.trans (hb5.mono HB4.out.size)
    clear hb5
    go_wp2_with (go_at_call 14; refine (awake_any _).mono ?_; rintro e w6 ⟨rfl, hb6⟩; have HB6 : Hid (Below w2.heap.size w2 w6) := HB5.out.trans (hb6.mono HB5.out.size); clear hb6)
    go_ret
    exact ⟨rfl, HB6.out⟩
end Go.Proofs.Ytiifakdpacicjaa
