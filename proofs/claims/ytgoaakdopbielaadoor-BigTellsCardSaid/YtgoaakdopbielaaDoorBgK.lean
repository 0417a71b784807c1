import Derived.Test.YtgoaakdopbielaaDoorBgJ
namespace Go.Proofs.YtgoaakdopbielaaDoor
open Go.RowKit
set_option linter.unusedSimpArgs false
set_option linter.unusedVariables false
set_option linter.unusedSectionVars false

/-! Layer 9: products of rows. -/
/-- A row in memory that is new. -/
def RowF (B : Nat) (w : World) (v : Value) (a : List Int) : Prop := ∃ p o cap L, B ≤ p ∧ v = .slice (some ⟨p, o, none⟩) a.length cap ∧ Blk w p L ∧ winL L o a.length = a ∧ o + a.length ≤ L.length ∧ a.length ≤ cap
theorem RowF.row {B : Nat} {w : World} {v : Value} {a : List Int} (h : RowF B w v a) : RowA w v a := by
  obtain ⟨p, o, cap, L, _, h2⟩ := h
  exact ⟨p, o, cap, L, h2⟩
theorem rowF_of {w : World} {g n : Nat} {L a : List Int} (hL : Blk w g L) (hw : L.take n = a) (hn : n = a.length) (hl : n ≤ L.length) : RowF g w (.slice (some ⟨g, 0, none⟩) n n) a := by
  subst hn
  exact ⟨g, 0, a.length, L, Nat.le_refl _, rfl, hL, by unfold winL; rw [List.drop_zero]; exact hw, by omega, Nat.le_refl _⟩
set_option maxRecDepth 100000 in
set_option maxHeartbeats 3200000 in
theorem times_v (va vb : Value) (a b : List Int) (w : World) (hA : RowA w va a) (hB : RowA w vb b) (ha : okR a) (hb : okR b) (hla : a.length ≤ 10000) (hlb : b.length ≤ 10000) :
    Calls Tryd.prog 51 #[va, vb] w fun e w' => ∃ v c, e = .returned v ∧ RowF w.heap.size w' v c ∧ canon c ∧ valI c = valI a * valI b ∧ c.length ≤ a.length + b.length ∧ Below w.heap.size w w' := by
  obtain ⟨p, o, capA, L, rfl, hL, hLw, hLl, _⟩ := hA
  obtain ⟨q, r, capB, M, rfl, hM, hMw, hMl, _⟩ := hB
  obtain ⟨K, hK⟩ : ∃ K : Nat, (a.length : Int) + (b.length : Int) = (K : Int) := ⟨a.length + b.length, by simp⟩
  have HK2 : Hid (K = a.length + b.length) := Lib.hid (by omega)
  have hmk := run_make_row' (P := Tryd.prog) 42 3 (.int .i64 0) 8 Tryd.underlying42 (by kernel_rfl) rfl .i64 .i64 K (by omega) (by omega)
  have hpl := hL.lt
  have hql := hM.lt
  have hKb : K ≤ 20000 := by omega
  have hb0 : Below w.heap.size w (w.alloc (.cells (madeCells #[.int .i64 0] K) 3)) := (Below.refl _ _).alloc (Nat.le_refl _) _
  have HB0 := Lib.hid hb0
  have HM0 := Lib.hid (Blk.made w K)
  have HS0 : Hid (timesS a b (List.replicate K 0) 0) := Lib.hid (by rw [HK2.out]; exact times_start a b)
  have HCA := Lib.hid (fun (W : World) (hW : Below w.heap.size w W) i x hx => (hL.below hW).cellD (o + i) x (win_cells hLw i x hx))
  obtain ⟨n, hn⟩ : ∃ n, a.length = n := ⟨_, rfl⟩
  obtain ⟨m, hm⟩ : ∃ m, b.length = m := ⟨_, rfl⟩
  -- what add does to the row
  have HADD : Hid (∀ (W : World) (i : Nat) (f : Int) (O : List Int), i < n → a[i]? = some f → timesS a b O i → Blk W w.heap.size O → Below w.heap.size w W →
      Calls Tryd.prog 72 #[.slice (some ⟨w.heap.size, i, none⟩) (m + 1) (m + 1), .slice (some ⟨q, r, none⟩) m capB, .int .i64 f] W fun e w' => e = .returned (.tuple #[]) ∧ ∃ O2, timesS a b O2 (i + 1) ∧ Blk w' w.heap.size O2 ∧ Below w.heap.size w w') := Lib.hid (by
    intro W i f O hi hf hS hO hW
    have hil : i < a.length := by omega
    rw [List.getElem?_eq_getElem hil] at hf
    have hfe : a[i] = f := Option.some.inj hf
    have hst := times_step ha hb hil hS
    have hOl : O.length = a.length + b.length := hS.1
    have hfo := ha a[i] (List.getElem_mem hil)
    rw [hfe] at hst hfo
    unfold okP at hfo
    have hB9 : BB = 1000000000 := rfl
    have h := add_v w.heap.size i m (m + 1) q r m capB f O M W hO (hM.below hW) (by omega) (by omega) (by omega) (Nat.le_refl _) (by rw [← hm]; exact okI_of hst.2) (by rw [← hm, hMw]; exact hb) ⟨hfo.1, by omega⟩ (by omega) (fun x hx => by
      have := hS.2.1 x (List.mem_of_getElem? hx)
      unfold okP at this
      omega)
    refine h.mono ?_
    rintro e w' ⟨rfl, h3, h4⟩
    refine ⟨rfl, _, ?_, h3, hW.trans (h4.below hW.size (fun k hk => by omega))⟩
    rw [← hm, hMw]
    exact hst.1)
  have HT : Hid (∀ (W : World) (O : List Int), timesS a b O n → Blk W w.heap.size O → Calls Tryd.prog 66 #[.slice (some ⟨w.heap.size, 0, none⟩) K K] W fun e w' => ∃ v, e = .returned v ∧ (∃ c, RowF w.heap.size w' v c ∧ canon c ∧ valI c = valI a * valI b ∧ c.length ≤ n + m) ∧ w' = W) := Lib.hid (by
    intro W O hS hO
    have hOl : O.length = K := by rw [HK2.out]; exact hS.1
    have h := trimmed_v w.heap.size 0 K O O W hO (win_full _) (by omega) (by omega)
    rw [hOl] at h
    refine h.mono ?_
    rintro e w' ⟨rfl, rfl⟩
    refine ⟨_, rfl, ⟨trimL O, rowF_of hO (trim_take _).symm rfl (trim_le _), trim_ok _ hS.2.1, ?_, ?_⟩, rfl⟩
    · rw [trim_val]; rw [← hn] at hS; exact times_end hS
    · have := trim_le O; omega)
  have HGA : Hid (∀ j, j < n → ∃ x, a[j]? = some x) := Lib.hid (fun j hj => ⟨_, List.getElem?_eq_getElem (by omega)⟩)
  have hnb : n ≤ 10000 := by omega
  have hmb : m ≤ 10000 := by omega
  have hKnm : n + m = K := by rw [HK2.out]; omega
  rw [hn, hm] at hK ⊢
  clear hL hLw hLl hM hMw hMl ha hb hla hlb hn hm hb0 HK2
  go_enter Tryd.func51, Tryd.ntmps51
  go_wp2_with fail
  go_loopw [16] (fun iv wr => ∃ (i : Nat) (O : List Int), iv = .int .i64 i ∧ i ≤ n ∧ timesS a b O i ∧ Blk wr w.heap.size O ∧ Below w.heap.size w wr) (fun iv _ => n - (intOf iv).toNat)
  case atStart => exact ⟨0, _, rfl, by omega, HS0.out, HM0.out, HB0.out⟩
  case round =>
    obtain ⟨i, O, rfl, hi, hS, hO, hbr⟩ := hrel
    have HS := Lib.hid hS
    have HO := Lib.hid hO
    have HBR := Lib.hid hbr
    clear hS hO hbr
    by_cases hlt : i < n
    · have hlti : (i : Int) < (n : Int) := by omega
      obtain ⟨f, hf⟩ := HGA.out i hlt
      have hcf := HCA.out wr HBR.out i f hf
      have hwin := fun w2 => window_v w.heap.size 0 K K i (m + 1) w2 (by omega) (by omega) (by omega)
      have hadd := HADD.out wr i f O hlt hf HS.out HO.out HBR.out
      rw [show ((m + 1 : Nat) : Int) = (m : Int) + 1 from by omega, Nat.zero_add] at hwin
      clear hf
      go_wp2_with (first
        | (go_at_call 74; with_reducible refine Calls.mono (hwin _) ?_; rintro e w2 ⟨rfl, hw2⟩; replace hw2 := hw2.symm; subst hw2)
        | (go_at_call 72; with_reducible refine Calls.mono hadd ?_; rintro e w3 ⟨rfl, O2, hS2, hO2, hbl⟩; have HS2 := Lib.hid hS2; have HO2 := Lib.hid hO2; have HBL := Lib.hid hbl; clear hS2 hO2 hbl))
      go_roundw
      case rel => exact ⟨i + 1, O2, by go_num, by omega, HS2.out, HO2.out, HBL.out⟩
      case measure => first | (simp [intOf]; done) | (simp [intOf]; omega)
    · obtain rfl : i = n := by omega
      have hlti : ¬ (i : Int) < (i : Int) := by omega
      have htr := HT.out wr O HS.out HO.out
      go_wp2_with (go_at_call 66; with_reducible refine Calls.mono htr ?_; rintro e w3 ⟨v, rfl, hc, hw3⟩; replace hw3 := hw3.symm; subst hw3; have HC := Lib.hid hc; clear hc)
      go_ret
      obtain ⟨c, h1, h2, h3, h4⟩ := HC.out
      exact ⟨_, c, rfl, h1, h2, h3, h4, HBR.out⟩
end Go.Proofs.YtgoaakdopbielaaDoor
