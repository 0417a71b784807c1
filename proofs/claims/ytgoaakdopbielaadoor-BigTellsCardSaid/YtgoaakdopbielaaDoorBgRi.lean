import Derived.Test.YtgoaakdopbielaaDoorMd
import Derived.Test.YtgoaakdopbielaaDoorReg
import Derived.Deep.QuietTactic
import Derived.BigQuiet
namespace Go.Proofs.YtgoaakdopbielaaDoor
open Go.RowKit Go.Shelf
set_option linter.unusedSimpArgs false
set_option linter.unusedVariables false
set_option linter.unusedSectionVars false

/-! Layer 9, the document's own: the product of amounts. -/
theorem row_kept {B : Nat} {e : TypeId} {k : Nat} {v : Value} {n : Nat} {xs : List Value} {w w' : World} (h : w.ownsRow B e k v n xs) (hb : Below w.heap.size w w') : w'.ownsRow B e k v n xs :=
  h.kept (row := none) ⟨hb.os, hb.tape, hb.output, hb.size, fun j hj _ => hb.block j hj⟩ (by cases hv : v.ownBlock <;> simp)
theorem i64s_set (l : List Nat) (j r : Nat) : (i64s l).set j (.int .i64 (r : Int)) = i64s (l.set j r) := by
  unfold i64s
  rw [List.map_set]
set_option maxRecDepth 100000 in
set_option maxHeartbeats 3200000 in
theorem rtimes_v (a b : Nat) (w : World) (ha : (digB a).size ≤ 300) (hb : (digB b).size ≤ 300) :
    Calls Tryd.prog 56 #[.string (digB a), .string (digB b)] w fun e w' => e = .returned (.string (digB (a * b))) ∧ Below w.heap.size w w' := by
  have HA := Lib.hid (fun i w => rat_v a i w (by omega))
  have HB := Lib.hid (fun i w => rat_v b i w (by omega))
  have HP := Lib.hid (fun (v : Value) (l : List Nat) (W : World) (hv : W.ownsRow w.heap.size 3 1 v l.length (i64s l)) (hl : ∀ x ∈ l, x < 10) (h1 : 1 ≤ l.length) (h2 : l.length ≤ 2000) => rplain_v w.heap.size v l W hv hl h1 h2)
  obtain ⟨m, hm⟩ : ∃ m, (digB b).size = m := ⟨_, rfl⟩
  obtain ⟨n, hn⟩ : ∃ n, (digB a).size = n := ⟨_, rfl⟩
  have HE : Hid (∀ i k c l, timI a b i k l c → k = m + 1 → valD l = a % 10 ^ (i + 1) * b) := Lib.hid (fun i k c l h hk => timI_end (m := m) (by rw [← hk]; exact h) (by rw [← hm]; exact digB_lt b))
  have HF : Hid (∀ i, i = n → a % 10 ^ i * b = a * b) := Lib.hid (fun i h => by rw [h, Nat.mod_eq_of_lt (by rw [← hn]; exact digB_lt a)])
  have hN : Hid (digB (a * b) = ⟨(Lib.decDigits (a * b)).toArray⟩) := Lib.hid rfl
  generalize digB (a * b) = T at *
  generalize digB a = A at *
  generalize digB b = B at *
  obtain ⟨K, hK⟩ : ∃ K : Nat, (n : Int) + (m : Int) + 1 = (K : Int) := ⟨n + m + 1, by omega⟩
  have hKn : n + m + 1 = K := by omega
  have hni : (A.size : Int) = (n : Int) := by omega
  have hmi : (B.size : Int) = (m : Int) := by omega
  have hn3 : n ≤ 300 := by omega
  have hm3 : m ≤ 300 := by omega
  have hmk := run_make_row' (P := Tryd.prog) 41 3 (.int .i64 0) 8 Tryd.underlying41 (by kernel_rfl) rfl .i64 .i64 K (by omega) (by omega) w
  have HR0 : Hid ((w.alloc (.cells (madeCells #[.int .i64 0] K) 3)).ownsRow w.heap.size 3 1 (.slice (some ⟨w.heap.size, 0, none⟩) K K) K (i64s (List.replicate K 0))) := Lib.hid (by
    have h := World.ownsRow_lit (base := w.heap.size) (e := 3) (size := 1) w (madeCells #[.int .i64 0] K) K (Nat.le_refl _) (by unfold maxLen; omega) (by
      rw [← Array.length_toList, toList_madeCells_one, List.length_replicate, Nat.mul_one])
    rw [toList_madeCells_one] at h
    simpa [i64s] using h)
  have HB0 : Hid (Below w.heap.size w (w.alloc (.cells (madeCells #[.int .i64 0] K) 3))) := Lib.hid ((Below.refl _ _).alloc (Nat.le_refl _) _)
  have HZ : Hid (figs (List.replicate K 0) ∧ valD (List.replicate K 0) = a % 10 ^ 0 * b) := Lib.hid ⟨fun x hx => by rw [(List.mem_replicate.1 hx).2]; decide, by
    rw [valD_zeros _ (fun x hx => (List.mem_replicate.1 hx).2), Nat.pow_zero, Nat.mod_one, Nat.zero_mul]⟩
  generalize w.alloc (.cells (madeCells #[.int .i64 0] K) 3) = w0 at *
  clear hm hn ha hb
  go_enter Tryd.func56, Tryd.ntmps56
  go_wp2_with fail
  go_loopw [6] (fun iv wr => ∃ (i : Nat) (l : List Nat), iv = .int .i64 i ∧ i ≤ n ∧ l.length = K ∧ figs l ∧ valD l = a % 10 ^ i * b ∧ wr.ownsRow w.heap.size 3 1 (.slice (some ⟨w.heap.size, 0, none⟩) K K) K (i64s l) ∧ Below w.heap.size w wr) (fun iv _ => n - (intOf iv).toNat)
  case atStart => exact ⟨0, List.replicate K 0, rfl, by omega, by simp, HZ.out.1, HZ.out.2, HR0.out, HB0.out⟩
  case round =>
    obtain ⟨i, l, rfl, hi, hlK, hfl, hvl, hown, hbl⟩ := hrel
    clear HR0 HB0 HZ
    by_cases hlt : i < n
    · have hlti : (i : Int) < (n : Int) := by omega
      have HI0 := Lib.hid (timI_start hfl hvl)
      have HO := Lib.hid hown
      have HW := Lib.hid hbl
      clear hown hbl hfl hvl
      go_wp2_with fail
      go_loopw [7, 8] (fun cv kv wr2 => ∃ (k c : Nat) (l2 : List Nat), kv = .int .i64 k ∧ cv = .int .i64 c ∧ k ≤ m + 1 ∧ l2.length = K ∧ timI a b i k l2 c ∧ wr2.ownsRow w.heap.size 3 1 (.slice (some ⟨w.heap.size, 0, none⟩) K K) K (i64s l2) ∧ Below w.heap.size w wr2) (fun _ kv _ => m + 1 - (intOf kv).toNat)
      case atStart => exact ⟨0, 0, l, rfl, rfl, by omega, hlK, HI0.out, HO.out, HW.out⟩
      case round =>
        obtain ⟨k, c, l2, rfl, rfl, hk, hl2, hI, hown, hbl⟩ := hrel
        have HI := Lib.hid hI
        have HO2 := Lib.hid hown
        have HW2 := Lib.hid hbl
        have hc9 := hI.2.1
        clear hI hown hbl HO HW HI0 hlK
        by_cases hlt2 : k ≤ m
        · have hlt2i : (k : Int) ≤ (m : Int) := by omega
          obtain ⟨x, hx⟩ : ∃ x, l2[i + k]? = some x := ⟨_, List.getElem?_eq_getElem (by omega)⟩
          have hst := timI_step HI.out hx
          have hx10 : x < 10 := HI.out.1 x (List.mem_of_getElem? hx)
          have dp := dgt_lt a i
          have dq := dgt_lt b k
          have ra := fun w => HA.out i w
          have rb := fun w => HB.out k w
          generalize dgt a i = p at *
          generalize dgt b k = q at *
          have hpq : p * q ≤ 9 * 9 := Nat.mul_le_mul (by omega) (by omega)
          have hpqi : (p : Int) * (q : Int) = ((p * q : Nat) : Int) := by rw [Int.natCast_mul]
          obtain ⟨hS0, hs99⟩ := hst
          have HS := Lib.hid hS0
          clear hS0
          generalize p * q = y at *
          obtain ⟨s, hs⟩ : ∃ s, x + y + c = s := ⟨_, rfl⟩
          have hs1 : (x : Int) + (y : Int) + (c : Int) = (s : Int) := by omega
          have q1 : IntKind.i64.wrap ((x : Int) + (y : Int)) = (x : Int) + (y : Int) := IntWalk.i64_in _ (by omega)
          have q2 : IntKind.i64.wrap (y : Int) = (y : Int) := IntWalk.i64_in _ (by omega)
          have ht1 : (s : Int).tmod 10 = ((s % 10 : Nat) : Int) := by rw [Int.tmod_eq_emod_of_nonneg (by omega)]; omega
          have ht2 : (s : Int).tdiv 10 = ((s / 10 : Nat) : Int) := by rw [Int.tdiv_eq_ediv_of_nonneg (by omega)]; omega
          rw [hs] at HS hs99
          obtain ⟨r, hr⟩ : ∃ r, s % 10 = r := ⟨_, rfl⟩
          obtain ⟨d, hd⟩ : ∃ d, s / 10 = d := ⟨_, rfl⟩
          have hr10 : r < 10 := by omega
          have hd10 : d < 10 := by omega
          rw [hr] at ht1 HS
          rw [hd] at ht2 HS
          obtain ⟨j, hj⟩ : ∃ j, i + k = j := ⟨_, rfl⟩
          have hji : (i : Int) + (k : Int) = (j : Int) := by omega
          have hjK : j < K := by omega
          have hjKi : (j : Int) < (K : Int) := by omega
          rw [hj] at hx HS
          have hcell : wr.cell? ⟨w.heap.size, j, none⟩ = some (.int .i64 (x : Int)) := by
            rw [HO2.out.cellAt j (by omega)]
            have := (List.getElem?_eq_some_iff.mp hx)
            rw [i64s_get l2 j this.1, this.2]
          obtain ⟨cs, hcs⟩ : ∃ cs, cs = [(w.heap.size, j, Value.int .i64 (x : Int))] := ⟨_, rfl⟩
          have hI0 : InvC wr cs (World.drew wr) := by
            refine InvC.start (Below.refl _ _) ?_
            rw [hcs]; simp [hcell]
          have q0 : ∀ i : Wld (InvC wr cs), i.w.cell? ⟨w.heap.size, j, none⟩ = some (.int .i64 (x : Int)) := fun i => InvC.cell i (by rw [hcs]; simp)
          have hne5 : Nonempty (Wld (InvC wr cs)) := ⟨⟨_, hI0⟩⟩
          have HRA := Lib.hid ra
          have HRB := Lib.hid rb
          have HI00 := Lib.hid hI0
          clear ra rb hs hr hd hcs hx hI0 hcell hj
          go_wp2_with fail
          refine wp_region_inv (InvC wr cs) (by kernel_rfl) (by kernel_rfl) HI00.out ?_
          repeat (go_big_quiet_step ((first
            | (go_at_call 75; with_reducible exact Calls.inv_same (HRA.out _))
            | (go_at_call 75; with_reducible exact Calls.inv_same (HRB.out _)))))
          refine wpQuiet_nil ?_
          intro w6 hw6
          obtain ⟨i6, rfl⟩ := hw6
          have HB8 := Lib.hid i6.ok.1
          have HO6 := Lib.hid (row_kept HO2.out HB8.out)
          have z0 := q0 i6
          have z1 : i6.w.frozen? ⟨w.heap.size, j, none⟩ = false := HO6.out.frozenAt _
          have HST := HO6.out.stored j (.int .i64 (r : Int))
          rw [i64s_set] at HST
          have HST := Lib.hid HST
          have HW6 := Lib.hid (HW2.out.trans (HB8.out.mono HW2.out.size))
          clear q0 hne5 HI00 HB8
          generalize i6.w = w6 at *
          go_wp2_with fail
          go_roundw
          case rel =>
            refine ⟨k + 1, d, l2.set j r, by go_num, rfl, by omega, by simp [hl2], HS.out, HST.out.1, ?_⟩
            exact HW6.out.grown HST.out.2 (by have := HW6.out.size; omega) (fun k hk => (HO6.out.lt k hk).1)
          case measure => simp [intOf]; omega
        · have hke : k = m + 1 := by omega
          have hlt2i : ¬ (k : Int) ≤ (m : Int) := by omega
          have HV := Lib.hid (HE.out i k c l2 HI.out hke)
          have HG := Lib.hid HI.out.1
          go_wp2_with fail
          go_roundw
          case rel => exact ⟨i + 1, l2, by go_num, by omega, hl2, HG.out, HV.out, HO2.out, HW2.out⟩
          case measure => simp [intOf]; omega
    · have hie : i = n := by omega
      have hlti : ¬ (i : Int) < (n : Int) := by omega
      have hp := HP.out (.slice (some ⟨w.heap.size, 0, none⟩) K K) l wr (by rw [hlK]; exact hown) hfl (by omega) (by omega)
      rw [hvl, HF.out i hie, ← hN.out] at hp
      have HPP := Lib.hid hp
      have HW := Lib.hid hbl
      clear hp hown hbl hfl hvl
      go_wp2_with (go_at_call 76; with_reducible refine Calls.mono HPP.out ?_; rintro e w2 ⟨rfl, hb2⟩; have HB2 := Lib.hid (HW.out.trans (hb2.mono HW.out.size)); clear hb2)
      go_ret
      exact ⟨by first | rfl | simp, HB2.out⟩
end Go.Proofs.YtgoaakdopbielaaDoor
