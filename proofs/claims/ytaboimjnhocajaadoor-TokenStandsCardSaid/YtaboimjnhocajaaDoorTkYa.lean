import Derived.Test.YtaboimjnhocajaaDoorTkY
import Derived.Deep.OwnRows
import Derived.Test.YtaboimjnhocajaaDoorReg
namespace Go.Proofs.YtaboimjnhocajaaDoor
open Go.RowKit
set_option linter.unusedSimpArgs false
set_option linter.unusedVariables false

/-- A row of marks. -/
def Marks (w : World) (g N : Nat) (f : Nat → Bool) : Prop := ∃ cs, w.heap[g]? = some (.cells cs 4 (0, 0)) ∧ cs.size = N ∧ ∀ j, j < N → cs[j]? = some (.bool (f j))
theorem marks_made (w : World) (N : Nat) : Marks (w.alloc (.cells (madeCells #[.bool false] N) 4)) w.heap.size N (usedB []) := by
  refine ⟨_, heap_alloc_new w _, ?_, ?_⟩
  · simp [madeCells]
  · intro j hj
    simp only [madeCells]
    rw [Array.getElem?_map]
    simp [hj, Nat.mod_one, usedB]
theorem marks_set {w : World} {g N i : Nat} {f : Nat → Bool} (h : Marks w g N f) (hi : i < N) : Marks (w.setCell ⟨g, i, none⟩ (.bool true)) g N (fun j => f j || j == i) := by
  obtain ⟨cs, h1, h2, h3⟩ := h
  refine ⟨_, heap_setCell h1 _, by simp [h2], ?_⟩
  intro j hj
  rw [Array.getElem?_setIfInBounds]
  by_cases hji : i = j
  · subst hji
    rw [if_pos rfl, if_pos (by omega)]
    simp
  · rw [if_neg hji, h3 j hj]
    show some (Value.bool (f j)) = some (Value.bool (f j || j == i))
    have : (j == i) = false := by simp; omega
    rw [this, Bool.or_false]
theorem Marks.keep {w w' : World} {g N : Nat} {f : Nat → Bool} (h : Marks w g N f) (he : w'.heap[g]? = w.heap[g]?) : Marks w' g N f := by
  obtain ⟨cs, h1, h2, h3⟩ := h
  exact ⟨cs, by rw [he]; exact h1, h2, h3⟩
theorem Marks.congr {w : World} {g N : Nat} {f f' : Nat → Bool} (h : Marks w g N f) (he : ∀ j, j < N → f j = f' j) : Marks w g N f' := by
  obtain ⟨cs, h1, h2, h3⟩ := h
  exact ⟨cs, h1, h2, fun j hj => by rw [h3 j hj, he j hj]⟩

set_option maxRecDepth 100000 in
set_option maxHeartbeats 6400000 in
theorem stands_walk (p : Option Addr) (cap : Nat) (s : ByteArray) (w : World) (hb : BSl w p s) (hcap : s.size ≤ cap) (hE : Env w) (h2 : 2 ≤ w.heap.size) :
    Calls Tryd.prog 5 #[.slice p s.size cap] w fun e w' => e = .returned (.bool true) ∧ Below w.heap.size w w' := by
  by_cases hl : 1000 < s.size
  · go_enter Tryd.func5, Tryd.ntmps5
    go_wp2_with fail
    go_ret
    exact ⟨rfl, Below.refl _ _⟩
  have hsc := Scan_any p cap s w hb hE h2 (by omega)
  have hnt := fun w1 (hb1 : Below w.heap.size w w1) => Notes_any p cap s w1 (hb.below hb1) (hE.below hb1 h2) (by have := hb1.size; omega) (by omega)
  have hok : ∀ tk nt, scanF s = .ok (tk, nt) → SOK s s.size tk nt ∧ tk.length ≤ 65537 ∧ nt.length ≤ 65536 := fun tk nt h => ⟨sok_scan h, scan_len h⟩
  have her : ∀ a n, scanF s = .error (a, n) → 0 ≤ a ∧ a ≤ s.size ∧ (n = 12 ∨ n = 2 ∨ n = 3) := fun a n h => scan_err_at (by omega) h
  generalize scanF s = R at hsc hnt hok her
  have HE := Lib.hid hE
  have HBS := Lib.hid hb
  clear hE hb
  rcases R with ⟨at_, n⟩ | ⟨tk, nt⟩
  · obtain ⟨ha1, ha2, hn⟩ := her _ _ rfl
    have hn0 : (n != 0) = true := by rcases hn with rfl | rfl | rfl <;> rfl
    clear her hok hn
    have HNT := Lib.hid hnt
    clear hnt
    go_enter Tryd.func5, Tryd.ntmps5
    go_wp2_with (first
      | (go_at_call 10; refine hsc.mono ?_; rintro e w2 ⟨rfl, hb2⟩)
      | (go_at_call 13; refine (HNT.out _ hb2).mono ?_; rintro e w3 ⟨rfl, hb3⟩; have hb23 := hb2.trans (hb3.mono hb2.size))
      | (go_at_call 14; refine (awake_any _ (HE.out.below hb23 h2) (by have := hb23.size; omega)).mono ?_; rintro e w4 ⟨rfl, hb4⟩))
    go_ret
    exact ⟨by simp [ha1, ha2], hb23.trans (hb4.mono hb23.size)⟩
  · obtain ⟨hS, hlen1, hlen2⟩ := hok tk nt rfl
    clear hok her
    have HNT := Lib.hid hnt
    clear hnt
    go_enter Tryd.func5, Tryd.ntmps5
    obtain ⟨N, hN⟩ : ∃ N : Nat, (s.size : Int) + 1 = (N : Int) := ⟨s.size + 1, by simp⟩
    have hmk := run_make_row' (P := Tryd.prog) 36 4 (.bool false) 1 Tryd.underlying36 (by kernel_rfl) rfl .i64 .i64 N (by omega) (by omega)
    go_wp2_with (first
      | (go_at_call 10; refine hsc.mono ?_; rintro e w2 ⟨vt, rfl, hb2, ho2⟩)
      | (go_at_call 13; refine (HNT.out _ hb2).mono ?_; rintro e w3 ⟨vn, rfl, hb3, ho3⟩; obtain ⟨a1, c1, rfl⟩ := own_slice ho2; obtain ⟨a2, c2, rfl⟩ := own_slice ho3))
    have hm0 := marks_made w3 N
    have hb4 : Below w3.heap.size w3 (w3.alloc (.cells (madeCells #[.bool false] N) 4)) := (Below.refl _ _).alloc (Nat.le_refl _) _
    have hg4 : w3.heap.size < (w3.alloc (.cells (madeCells #[.bool false] N) 4)).heap.size := by simp
    generalize w3.alloc (.cells (madeCells #[.bool false] N) 4) = w4 at hm0 hb4 hg4 ⊢
    obtain ⟨n, hn⟩ : ∃ n, tk.length = n := ⟨_, rfl⟩
    obtain ⟨m, hm⟩ : ∃ m, nt.length = m := ⟨_, rfl⟩
    have HNN := Lib.hid hn
    have HMM := Lib.hid hm
    have htl : n ≤ 65537 := hn ▸ hlen1
    have hHT : Hid (0 < n → ∃ g, a1 = some ⟨g, 0, none⟩ ∧ g < w3.heap.size ∧ ∀ k (h : k < n), w3.cell? ⟨g, k * 3, none⟩ = some (.int .i64 (tk[k]'(by rw [HNN.out]; exact h)).kind) ∧ w3.cell? ⟨g, k * 3 + 1, none⟩ = some (.string (tk[k]'(by rw [HNN.out]; exact h)).text) ∧ w3.cell? ⟨g, k * 3 + 2, none⟩ = some (.int .i64 (tk[k]'(by rw [HNN.out]; exact h)).at_)) := by
      refine Lib.hid fun h0 => ?_
      obtain ⟨g, c', hv, hg, hcs⟩ := tok_cells ho2 (by intro e; rw [e] at hn; simp at hn; omega)
      simp only [Value.slice.injEq, true_and] at hv
      refine ⟨g, hv.1, Nat.lt_of_lt_of_le hg hb3.size, fun k h => ?_⟩
      obtain ⟨x1, x2, x3⟩ := hcs k (by omega)
      exact ⟨by rw [hb3.cell (p := ⟨g, k * 3, none⟩) hg]; exact x1, by rw [hb3.cell (p := ⟨g, k * 3 + 1, none⟩) hg]; exact x2, by rw [hb3.cell (p := ⟨g, k * 3 + 2, none⟩) hg]; exact x3⟩
    have hHN : Hid (0 < m → ∃ g, a2 = some ⟨g, 0, none⟩ ∧ g < w3.heap.size ∧ ∀ k (h : k < m), w3.cell? ⟨g, k * 3, none⟩ = some (.int .i64 (nt[k]'(by rw [HMM.out]; exact h)).kind) ∧ w3.cell? ⟨g, k * 3 + 1, none⟩ = some (.string (nt[k]'(by rw [HMM.out]; exact h)).text) ∧ w3.cell? ⟨g, k * 3 + 2, none⟩ = some (.int .i64 (nt[k]'(by rw [HMM.out]; exact h)).at_)) := by
      refine Lib.hid fun h0 => ?_
      obtain ⟨g, c', hv, hg, hcs⟩ := tok_cells ho3 (by intro e; rw [e] at hm; simp at hm; omega)
      simp only [Value.slice.injEq, true_and] at hv
      exact ⟨g, hv.1, hg, fun k h => hcs k (by omega)⟩
    have hmd : m ≤ 65536 := hm ▸ hlen2
    have HB3 : Hid (Below w.heap.size w w3) := Lib.hid (hb2.trans (hb3.mono hb2.size))
    have HB4 := Lib.hid hb4
    have HM0 := Lib.hid hm0
    have HS := Lib.hid hS
    clear hb2 hb3 ho2 ho3 hsc hmk hb4 hm0 hS HNT
    have HBS3 : Hid (BSl w3 p s) := Lib.hid (HBS.out.below HB3.out)
    have HE3 : Hid (Env w3) := Lib.hid (HE.out.below HB3.out h2)
    have hlt3 : 2 ≤ w3.heap.size := by have := HB3.out.size; omega
    rw [hn, hm]
    clear hn hm
    go_loopw [8, 9] (fun ve vi wr => ∃ (e : Int) (i : Nat), ve = .int .i64 e ∧ vi = .int .i64 i ∧ i ≤ n + m ∧ EndAt tk i e ∧ Marks wr w3.heap.size N (usedB ((tk ++ nt).take i)) ∧ Below w3.heap.size w3 wr ∧ w3.heap.size < wr.heap.size) (fun _ vi _ => n + m - (intOf vi).toNat)
    case atStart => exact ⟨0, 0, rfl, rfl, by omega, ⟨by omega, by omega, .inl rfl⟩, by simpa using HM0.out, HB4.out, hg4⟩
    case round =>
      obtain ⟨e, i, rfl, rfl, hi, hend, hmk, hbr, hgl⟩ := hrel
      have HEND := Lib.hid hend
      have HMK := Lib.hid hmk
      have HBR := Lib.hid hbr
      clear hend hmk
      by_cases hlt : i < n + m
      · by_cases hin : i < n
        · obtain ⟨g, rfl, hg, hcs⟩ := hHT.out (by omega)
          obtain ⟨x1, x2, x3⟩ := hcs i hin
          have e0 := (HBR.out.cell (p := ⟨g, i * 3, none⟩) hg).trans x1
          have e1 := (HBR.out.cell (p := ⟨g, i * 3 + 1, none⟩) hg).trans x2
          have e2 := (HBR.out.cell (p := ⟨g, i * 3 + 2, none⟩) hg).trans x3
          have hea := HS.out.endAt i e (by rw [HNN.out]; exact hin) HEND.out
          have htk := HS.out.tks (tk[i]'(by rw [HNN.out]; exact hin)) (List.getElem_mem _)
          have hal : Below wr.heap.size wr (wr.alloc (.cells #[.int .i64 6, .string ⟨#[10]⟩, .int .i64 0] 38)) := (Below.refl _ _).alloc (Nat.le_refl _) _
          have hgr : g < wr.heap.size := Nat.lt_of_lt_of_le hg HBR.out.size
          replace e0 := (hal.cell (p := ⟨g, i * 3, none⟩) hgr).trans e0
          replace e1 := (hal.cell (p := ⟨g, i * 3 + 1, none⟩) hgr).trans e1
          replace e2 := (hal.cell (p := ⟨g, i * 3 + 2, none⟩) hgr).trans e2
          clear hcs x1 x2 x3 hbr
          obtain ⟨t, HTI0⟩ : ∃ t, Hid ((tk[i]'(by rw [HNN.out]; exact hin)) = t) := ⟨_, Lib.hid rfl⟩
          rw [HTI0.out] at e0 e1 e2 hea htk
          obtain ⟨kd, x, a⟩ := t
          simp only at e0 e1 e2 hea htk
          have hea' : ¬ ((a : Int) < e) := by omega
          have hti : Hid ((tk[i]'(by rw [HNN.out]; exact hin)) = ⟨kd, x, a⟩) := HTI0
          have HTI := hti
          by_cases hr : kd = 6 ∧ x.toList = [10]
          · obtain ⟨rfl, hx⟩ := hr
            obtain rfl := ofL hx
            clear htk hx
            go_wp2_with fail
            refine ⟨⟨e, i + 1, rfl, by go_num, by omega, ?_, ?_, HBR.out.alloc (by omega) _, by simp; omega⟩, by simp [intOf]; omega⟩
            · refine ⟨HEND.out.1, HEND.out.2.1, ?_⟩
              rcases HEND.out.2.2 with h | ⟨t, ht, h⟩
              · exact .inl h
              · exact .inr ⟨t, by rw [take_snoc tk i (by rw [HNN.out]; exact hin)]; exact List.mem_append.2 (.inl ht), h⟩
            · refine (HMK.out.keep (Below.heap_alloc _ _ _ hgl)).congr fun j hj => ?_
              rw [take_snoc (tk ++ nt) i (by simp only [List.length_append, HNN.out, HMM.out]; exact hlt), usedB_snoc, List.getElem_append_left (by rw [HNN.out]; exact hin), HTI.out]
              simp [covB]
          · have hst := htk.2 (fun h => hr ⟨h.1, h.2⟩)
            obtain ⟨a', ha', hx0, hxs, hxt⟩ := hst
            simp only at ha' hx0 hxs hxt
            obtain rfl : a' = a := by omega
            have hx1 : x.size ≤ 1000 := by omega
            have ha1 : a' ≤ 1000 := by omega
            obtain ⟨bx, hbxe⟩ : ∃ bx, wr.heap.size = bx := ⟨_, rfl⟩
            have hglb : w3.heap.size < bx := by omega
            have hcb : (kd == (6 : Int) && x.toList == ([10] : List UInt8)) = false := by
              rw [Bool.and_eq_false_imp]
              intro h1
              rw [beq_iff_eq] at h1
              rw [beq_eq_false_iff_ne]
              exact fun h2 => hr ⟨h1, h2⟩
            obtain ⟨w5, hw5⟩ : ∃ w5, (wr.alloc (.cells #[.int .i64 kd, .string x, .int .i64 a'] 38)) = w5 := ⟨_, rfl⟩
            have hal2 : Below w3.heap.size w3 w5 := by rw [← hw5]; exact HBR.out.alloc (by omega) _
            have hm2 : Marks w5 w3.heap.size N (usedB ((tk ++ nt).take i)) := by rw [← hw5]; exact HMK.out.keep (Below.heap_alloc _ _ _ hgl)
            have hbx : w5.heap[bx]? = some (.cells #[.int .i64 kd, .string x, .int .i64 a'] 38 (0, 0)) := by rw [← hw5, ← hbxe]; exact heap_alloc_new wr _
            have hgl2 : bx < w5.heap.size := by rw [← hw5, ← hbxe]; simp
            obtain ⟨b, o, rfl, hsub⟩ := BSl.sub (HBS3.out.below hal2) a' x.size hx0 hxs
            rw [← hxt] at hsub
            obtain ⟨cs, hcs⟩ : ∃ cs : List (Nat × Nat × Value), cs = [(bx, 0, .int .i64 kd), (bx, 1, .string x), (bx, 2, .int .i64 a')] := ⟨_, rfl⟩
            have q0 : ∀ i : Wld (InvC w5 cs), i.w.cell? ⟨bx, 0, none⟩ = some (.int .i64 kd) := fun i => InvC.cell i (by rw [hcs]; simp)
            have q1 : ∀ i : Wld (InvC w5 cs), i.w.cell? ⟨bx, 1, none⟩ = some (.string x) := fun i => InvC.cell i (by rw [hcs]; simp)
            have q2 : ∀ i : Wld (InvC w5 cs), i.w.cell? ⟨bx, 2, none⟩ = some (.int .i64 a') := fun i => InvC.cell i (by rw [hcs]; simp)
            have hI0 : Hid (InvC w5 cs w5.drew) := by
              refine InvC.start (Below.refl _ _) ?_
              rw [hcs]; simp [cell_of hbx]
            have hne5 : Nonempty (Wld (InvC w5 cs)) := ⟨⟨_, hI0.out⟩⟩
            have hcv : ∀ i : Wld (InvC w5 cs), (convert 22 9 (.slice (some ⟨b, o + a', none⟩) x.size (cap - a'))).run Tryd.prog i.w = .ok (.string x) i.w := fun i => conv_at (hsub.below i.ok.1) (cap - a')
            have hne : ¬ x.toList = [] := by
              intro h
              have := ofL h
              rw [this] at hx0
              simp [ByteArray.size] at hx0
            have hxx : (x.toList != x.toList) = false := by simp
            have hd0 : decide ((a' : Int) < 0) = false := by simp
            have hd1 : decide ((s.size : Int) < (a' : Int) + (x.size : Int)) = false := by simp; omega
            have hwr : IntKind.i64.wrap ((a' : Int) + (x.size : Int)) = (a' : Int) + (x.size : Int) := IntWalk.i64_in _ (by omega)
            have hd2 : (x.toList == []) = false := by simpa using hne
            have HAL2 := Lib.hid hal2
            have HM2 := Lib.hid hm2
            have HBX := Lib.hid hbx
            have HXT := Lib.hid hxt
            have HW5 := Lib.hid hw5
            clear hal2 hm2 hbx hsub hxt hcs hw5
            by_cases h6 : kd = 6
            · have hx10 : ¬ x.toList = [10] := fun h => hr ⟨h6, h⟩
              have hx11 : (x.toList == [10]) = false := by simpa using hx10
              subst h6
              go_wp2_with fail
              rw [HW5.out]
              clear hbxe
              refine wp_region_inv (InvC w5 cs) (by kernel_rfl) (by kernel_rfl) hI0.out ?_
              repeat (go_big_quiet_step (fail))
              refine wpQuiet_nil ?_
              intro w6 hw6
              have HI6 : Hid (InvC w5 cs w6) := by obtain ⟨i, rfl⟩ := hw6; exact i.ok
              clear hw6 q0 q1 q2 hcv hne5
              have hbx6 : w6.heap[bx]? = some (.cells #[.int .i64 6, .string x, .int .i64 a'] 38 (0, 0)) := by rw [HI6.out.1.block _ hgl2]; exact HBX.out
              have hm6 : Marks w6 w3.heap.size N (usedB ((tk ++ nt).take i)) := HM2.out.keep (HI6.out.1.block _ (by omega))
              have hal6 : Below w3.heap.size w3 w6 := HAL2.out.trans (HI6.out.1.mono HAL2.out.size)
              have hgl6 : bx < w6.heap.size := by have := HI6.out.1.size; omega
              have HM6 := Lib.hid hm6
              have HAL6 := Lib.hid hal6
              have HBX6 := Lib.hid hbx6
              have y1 := cell_of hbx6 1
              have y2 := cell_of hbx6 2
              clear hm6 hal6 hbx6
              go_wp2_with fail
              clear y1 y2
              go_loopw [11] (fun vk wr => ∃ k : Nat, vk = .int .i64 k ∧ a' ≤ k ∧ k ≤ a' + x.size ∧ Marks wr w3.heap.size N (fun j => usedB ((tk ++ nt).take i) j || (decide (a' ≤ j) && decide (j < k))) ∧ Below w3.heap.size w3 wr ∧ bx < wr.heap.size ∧ wr.heap[bx]? = some (.cells #[.int .i64 6, .string x, .int .i64 a'] 38 (0, 0))) (fun vk _ => a' + x.size - (intOf vk).toNat)
              case atStart =>
                refine ⟨a', rfl, by omega, by omega, HM6.out.congr fun j hj => ?_, HAL6.out, hgl6, HBX6.out⟩
                have : (decide (a' ≤ j) && decide (j < a')) = false := by simp
                rw [this, Bool.or_false]
              case round =>
                obtain ⟨k, rfl, hk1, hk2, hmi, hbi, hgi, hxi⟩ := hrel
                have HMI := Lib.hid hmi
                have HBI := Lib.hid hbi
                have HXI := Lib.hid hxi
                have y1 := cell_of hxi 1
                have y2 := cell_of hxi 2
                clear hbi hxi
                by_cases hlk : k < a' + x.size
                · obtain ⟨us, m1, m2, m3⟩ := hmi
                  have hkN : k < N := by omega
                  have hfr : usedB ((tk ++ nt).take i) k = false := by
                    refine HS.out.fresh i k (by simp only [List.length_append, HNN.out, HMM.out]; exact hlt) ?_
                    rw [List.getElem_append_left (by rw [HNN.out]; exact hin), HTI.out, covB_of hcb]
                    simp; omega
                  have z0 : wr.cell? ⟨w3.heap.size, k, none⟩ = some (.bool false) := by
                    rw [cell_of m1, m3 k hkN]
                    show some (Value.bool (usedB ((tk ++ nt).take i) k || (decide (a' ≤ k) && decide (k < k)))) = _
                    rw [hfr]
                    simp
                  have z1 := free_of m1 k
                  clear m1 m2 m3 hfr
                  go_wp2_with fail
                  refine ⟨⟨k + 1, by go_num, by omega, by omega, (marks_set HMI.out hkN).congr fun j hj => ?_, HBI.out.setCell (Nat.le_refl _) _, by simpa using hgi, ?_⟩, by simp [intOf]; omega⟩
                  · cases usedB ((tk ++ nt).take i) j
                    · rw [Bool.false_or, Bool.false_or, Bool.eq_iff_iff]; simp; omega
                    · simp
                  · rw [Below.heap_setCell _ _ _ _ (by show bx ≠ w3.heap.size; omega)]; exact HXI.out
                · obtain rfl : k = a' + x.size := by omega
                  clear hmi
                  go_wp2_with fail
                  refine ⟨⟨(a' : Int) + (x.size : Int), i + 1, by go_num, by go_num, by omega, ?_, ?_, HBI.out, by omega⟩, by simp [intOf]; omega⟩
                  · exact ⟨by omega, by omega, .inr ⟨⟨6, x, a'⟩, by rw [take_snoc tk i (by rw [HNN.out]; exact hin), HTI.out]; exact List.mem_append.2 (.inr (List.mem_singleton.2 rfl)), fun h => hx10 h.2, by simp⟩⟩
                  · refine HMI.out.congr fun j hj => ?_
                    rw [take_snoc (tk ++ nt) i (by simp only [List.length_append, HNN.out, HMM.out]; exact hlt), usedB_snoc, List.getElem_append_left (by rw [HNN.out]; exact hin), HTI.out, covB_of hcb]
            · have hk6 : (kd == 6) = false := by simpa using h6
              go_wp2_with fail
              rw [HW5.out]
              clear hbxe
              refine wp_region_inv (InvC w5 cs) (by kernel_rfl) (by kernel_rfl) hI0.out ?_
              repeat (go_big_quiet_step (fail))
              refine wpQuiet_nil ?_
              intro w6 hw6
              have HI6 : Hid (InvC w5 cs w6) := by obtain ⟨i, rfl⟩ := hw6; exact i.ok
              clear hw6 q0 q1 q2 hcv hne5
              have hbx6 : w6.heap[bx]? = some (.cells #[.int .i64 kd, .string x, .int .i64 a'] 38 (0, 0)) := by rw [HI6.out.1.block _ hgl2]; exact HBX.out
              have hm6 : Marks w6 w3.heap.size N (usedB ((tk ++ nt).take i)) := HM2.out.keep (HI6.out.1.block _ (by omega))
              have hal6 : Below w3.heap.size w3 w6 := HAL2.out.trans (HI6.out.1.mono HAL2.out.size)
              have hgl6 : bx < w6.heap.size := by have := HI6.out.1.size; omega
              have HM6 := Lib.hid hm6
              have HAL6 := Lib.hid hal6
              have HBX6 := Lib.hid hbx6
              have y1 := cell_of hbx6 1
              have y2 := cell_of hbx6 2
              clear hm6 hal6 hbx6
              go_wp2_with fail
              clear y1 y2
              go_loopw [11] (fun vk wr => ∃ k : Nat, vk = .int .i64 k ∧ a' ≤ k ∧ k ≤ a' + x.size ∧ Marks wr w3.heap.size N (fun j => usedB ((tk ++ nt).take i) j || (decide (a' ≤ j) && decide (j < k))) ∧ Below w3.heap.size w3 wr ∧ bx < wr.heap.size ∧ wr.heap[bx]? = some (.cells #[.int .i64 kd, .string x, .int .i64 a'] 38 (0, 0))) (fun vk _ => a' + x.size - (intOf vk).toNat)
              case atStart =>
                refine ⟨a', rfl, by omega, by omega, HM6.out.congr fun j hj => ?_, HAL6.out, hgl6, HBX6.out⟩
                have : (decide (a' ≤ j) && decide (j < a')) = false := by simp
                rw [this, Bool.or_false]
              case round =>
                obtain ⟨k, rfl, hk1, hk2, hmi, hbi, hgi, hxi⟩ := hrel
                have HMI := Lib.hid hmi
                have HBI := Lib.hid hbi
                have HXI := Lib.hid hxi
                have y1 := cell_of hxi 1
                have y2 := cell_of hxi 2
                clear hbi hxi
                by_cases hlk : k < a' + x.size
                · obtain ⟨us, m1, m2, m3⟩ := hmi
                  have hkN : k < N := by omega
                  have hfr : usedB ((tk ++ nt).take i) k = false := by
                    refine HS.out.fresh i k (by simp only [List.length_append, HNN.out, HMM.out]; exact hlt) ?_
                    rw [List.getElem_append_left (by rw [HNN.out]; exact hin), HTI.out, covB_of hcb]
                    simp; omega
                  have z0 : wr.cell? ⟨w3.heap.size, k, none⟩ = some (.bool false) := by
                    rw [cell_of m1, m3 k hkN]
                    show some (Value.bool (usedB ((tk ++ nt).take i) k || (decide (a' ≤ k) && decide (k < k)))) = _
                    rw [hfr]
                    simp
                  have z1 := free_of m1 k
                  clear m1 m2 m3 hfr
                  go_wp2_with fail
                  refine ⟨⟨k + 1, by go_num, by omega, by omega, (marks_set HMI.out hkN).congr fun j hj => ?_, HBI.out.setCell (Nat.le_refl _) _, by simpa using hgi, ?_⟩, by simp [intOf]; omega⟩
                  · cases usedB ((tk ++ nt).take i) j
                    · rw [Bool.false_or, Bool.false_or, Bool.eq_iff_iff]; simp; omega
                    · simp
                  · rw [Below.heap_setCell _ _ _ _ (by show bx ≠ w3.heap.size; omega)]; exact HXI.out
                · obtain rfl : k = a' + x.size := by omega
                  clear hmi
                  go_wp2_with fail
                  refine ⟨⟨(a' : Int) + (x.size : Int), i + 1, by go_num, by go_num, by omega, ?_, ?_, HBI.out, by omega⟩, by simp [intOf]; omega⟩
                  · exact ⟨by omega, by omega, .inr ⟨⟨kd, x, a'⟩, by rw [take_snoc tk i (by rw [HNN.out]; exact hin), HTI.out]; exact List.mem_append.2 (.inr (List.mem_singleton.2 rfl)), fun h => hr ⟨h.1, h.2⟩, by simp⟩⟩
                  · refine HMI.out.congr fun j hj => ?_
                    rw [take_snoc (tk ++ nt) i (by simp only [List.length_append, HNN.out, HMM.out]; exact hlt), usedB_snoc, List.getElem_append_left (by rw [HNN.out]; exact hin), HTI.out, covB_of hcb]
        · have hnin : ¬ ((i : Int) < (n : Int)) := by omega
          have hsb : (i : Int) - (n : Int) = ((i - n : Nat) : Int) := by omega
          obtain ⟨g, rfl, hg, hcs⟩ := hHN.out (by omega)
          obtain ⟨x1, x2, x3⟩ := hcs (i - n) (by omega)
          have e0 := (HBR.out.cell (p := ⟨g, (i - n) * 3, none⟩) hg).trans x1
          have e1 := (HBR.out.cell (p := ⟨g, (i - n) * 3 + 1, none⟩) hg).trans x2
          have e2 := (HBR.out.cell (p := ⟨g, (i - n) * 3 + 2, none⟩) hg).trans x3
          have hnt := HS.out.nts (nt[i - n]'(by rw [HMM.out]; omega)) (List.getElem_mem _)
          have hal : Below wr.heap.size wr (wr.alloc (.cells #[.int .i64 6, .string ⟨#[10]⟩, .int .i64 0] 38)) := (Below.refl _ _).alloc (Nat.le_refl _) _
          have hgr : g < wr.heap.size := Nat.lt_of_lt_of_le hg HBR.out.size
          replace e0 := (hal.cell (p := ⟨g, (i - n) * 3, none⟩) hgr).trans e0
          replace e1 := (hal.cell (p := ⟨g, (i - n) * 3 + 1, none⟩) hgr).trans e1
          replace e2 := (hal.cell (p := ⟨g, (i - n) * 3 + 2, none⟩) hgr).trans e2
          clear hcs x1 x2 x3 hbr
          obtain ⟨t, HTI0⟩ : ∃ t, Hid ((nt[i - n]'(by rw [HMM.out]; omega)) = t) := ⟨_, Lib.hid rfl⟩
          rw [HTI0.out] at e0 e1 e2 hnt
          obtain ⟨kd, x, a⟩ := t
          simp only at e0 e1 e2 hnt
          have HTI : Hid ((nt[(i - tk.length)]'(by rw [HNN.out, HMM.out]; omega)) = ⟨kd, x, a⟩) := Lib.hid (by rw [← HTI0.out]; congr 1; rw [HNN.out])
          obtain ⟨hr', hst⟩ := hnt
          have hr : ¬(kd = 6 ∧ x.toList = [10]) := fun h => hr' ⟨h.1, h.2⟩
          obtain ⟨a', ha', hx0, hxs, hxt⟩ := hst
          simp only at ha' hx0 hxs hxt
          obtain rfl : a' = a := by omega
          have hx1 : x.size ≤ 1000 := by omega
          have ha1 : a' ≤ 1000 := by omega
          obtain ⟨bx, hbxe⟩ : ∃ bx, wr.heap.size = bx := ⟨_, rfl⟩
          have hglb : w3.heap.size < bx := by omega
          have hcb : (kd == (6 : Int) && x.toList == ([10] : List UInt8)) = false := by
            rw [Bool.and_eq_false_imp]
            intro h1
            rw [beq_iff_eq] at h1
            rw [beq_eq_false_iff_ne]
            exact fun h2 => hr ⟨h1, h2⟩
          obtain ⟨w5, hw5⟩ : ∃ w5, (wr.alloc (.cells #[.int .i64 kd, .string x, .int .i64 a'] 38)) = w5 := ⟨_, rfl⟩
          have hal2 : Below w3.heap.size w3 w5 := by rw [← hw5]; exact HBR.out.alloc (by omega) _
          have hm2 : Marks w5 w3.heap.size N (usedB ((tk ++ nt).take i)) := by rw [← hw5]; exact HMK.out.keep (Below.heap_alloc _ _ _ hgl)
          have hbx : w5.heap[bx]? = some (.cells #[.int .i64 kd, .string x, .int .i64 a'] 38 (0, 0)) := by rw [← hw5, ← hbxe]; exact heap_alloc_new wr _
          have hgl2 : bx < w5.heap.size := by rw [← hw5, ← hbxe]; simp
          obtain ⟨b, o, rfl, hsub⟩ := BSl.sub (HBS3.out.below hal2) a' x.size hx0 hxs
          rw [← hxt] at hsub
          obtain ⟨cs, hcs⟩ : ∃ cs : List (Nat × Nat × Value), cs = [(bx, 0, .int .i64 kd), (bx, 1, .string x), (bx, 2, .int .i64 a')] := ⟨_, rfl⟩
          have q0 : ∀ i : Wld (InvC w5 cs), i.w.cell? ⟨bx, 0, none⟩ = some (.int .i64 kd) := fun i => InvC.cell i (by rw [hcs]; simp)
          have q1 : ∀ i : Wld (InvC w5 cs), i.w.cell? ⟨bx, 1, none⟩ = some (.string x) := fun i => InvC.cell i (by rw [hcs]; simp)
          have q2 : ∀ i : Wld (InvC w5 cs), i.w.cell? ⟨bx, 2, none⟩ = some (.int .i64 a') := fun i => InvC.cell i (by rw [hcs]; simp)
          have hI0 : Hid (InvC w5 cs w5.drew) := by
            refine InvC.start (Below.refl _ _) ?_
            rw [hcs]; simp [cell_of hbx]
          have hne5 : Nonempty (Wld (InvC w5 cs)) := ⟨⟨_, hI0.out⟩⟩
          have hcv : ∀ i : Wld (InvC w5 cs), (convert 22 9 (.slice (some ⟨b, o + a', none⟩) x.size (cap - a'))).run Tryd.prog i.w = .ok (.string x) i.w := fun i => conv_at (hsub.below i.ok.1) (cap - a')
          have hne : ¬ x.toList = [] := by
            intro h
            have := ofL h
            rw [this] at hx0
            simp [ByteArray.size] at hx0
          have hxx : (x.toList != x.toList) = false := by simp
          have hd0 : decide ((a' : Int) < 0) = false := by simp
          have hd1 : decide ((s.size : Int) < (a' : Int) + (x.size : Int)) = false := by simp; omega
          have hwr : IntKind.i64.wrap ((a' : Int) + (x.size : Int)) = (a' : Int) + (x.size : Int) := IntWalk.i64_in _ (by omega)
          have hd2 : (x.toList == []) = false := by simpa using hne
          have HAL2 := Lib.hid hal2
          have HM2 := Lib.hid hm2
          have HBX := Lib.hid hbx
          have HXT := Lib.hid hxt
          have HW5 := Lib.hid hw5
          clear hal2 hm2 hbx hsub hxt hcs hw5
          by_cases h6 : kd = 6
          · have hx10 : ¬ x.toList = [10] := fun h => hr ⟨h6, h⟩
            have hx11 : (x.toList == [10]) = false := by simpa using hx10
            subst h6
            go_wp2_with fail
            rw [HW5.out]
            clear hbxe
            refine wp_region_inv (InvC w5 cs) (by kernel_rfl) (by kernel_rfl) hI0.out ?_
            repeat (go_big_quiet_step (fail))
            refine wpQuiet_nil ?_
            intro w6 hw6
            have HI6 : Hid (InvC w5 cs w6) := by obtain ⟨i, rfl⟩ := hw6; exact i.ok
            clear hw6 q0 q1 q2 hcv hne5
            have hbx6 : w6.heap[bx]? = some (.cells #[.int .i64 6, .string x, .int .i64 a'] 38 (0, 0)) := by rw [HI6.out.1.block _ hgl2]; exact HBX.out
            have hm6 : Marks w6 w3.heap.size N (usedB ((tk ++ nt).take i)) := HM2.out.keep (HI6.out.1.block _ (by omega))
            have hal6 : Below w3.heap.size w3 w6 := HAL2.out.trans (HI6.out.1.mono HAL2.out.size)
            have hgl6 : bx < w6.heap.size := by have := HI6.out.1.size; omega
            have HM6 := Lib.hid hm6
            have HAL6 := Lib.hid hal6
            have HBX6 := Lib.hid hbx6
            have y1 := cell_of hbx6 1
            have y2 := cell_of hbx6 2
            clear hm6 hal6 hbx6
            go_wp2_with fail
            clear y1 y2
            go_loopw [11] (fun vk wr => ∃ k : Nat, vk = .int .i64 k ∧ a' ≤ k ∧ k ≤ a' + x.size ∧ Marks wr w3.heap.size N (fun j => usedB ((tk ++ nt).take i) j || (decide (a' ≤ j) && decide (j < k))) ∧ Below w3.heap.size w3 wr ∧ bx < wr.heap.size ∧ wr.heap[bx]? = some (.cells #[.int .i64 6, .string x, .int .i64 a'] 38 (0, 0))) (fun vk _ => a' + x.size - (intOf vk).toNat)
            case atStart =>
              refine ⟨a', rfl, by omega, by omega, HM6.out.congr fun j hj => ?_, HAL6.out, hgl6, HBX6.out⟩
              have : (decide (a' ≤ j) && decide (j < a')) = false := by simp
              rw [this, Bool.or_false]
            case round =>
              obtain ⟨k, rfl, hk1, hk2, hmi, hbi, hgi, hxi⟩ := hrel
              have HMI := Lib.hid hmi
              have HBI := Lib.hid hbi
              have HXI := Lib.hid hxi
              have y1 := cell_of hxi 1
              have y2 := cell_of hxi 2
              clear hbi hxi
              by_cases hlk : k < a' + x.size
              · obtain ⟨us, m1, m2, m3⟩ := hmi
                have hkN : k < N := by omega
                have hfr : usedB ((tk ++ nt).take i) k = false := by
                  refine HS.out.fresh i k (by simp only [List.length_append, HNN.out, HMM.out]; exact hlt) ?_
                  rw [List.getElem_append_right (by rw [HNN.out]; omega), HTI.out, covB_of hcb]
                  simp; omega
                have z0 : wr.cell? ⟨w3.heap.size, k, none⟩ = some (.bool false) := by
                  rw [cell_of m1, m3 k hkN]
                  show some (Value.bool (usedB ((tk ++ nt).take i) k || (decide (a' ≤ k) && decide (k < k)))) = _
                  rw [hfr]
                  simp
                have z1 := free_of m1 k
                clear m1 m2 m3 hfr
                go_wp2_with fail
                refine ⟨⟨k + 1, by go_num, by omega, by omega, (marks_set HMI.out hkN).congr fun j hj => ?_, HBI.out.setCell (Nat.le_refl _) _, by simpa using hgi, ?_⟩, by simp [intOf]; omega⟩
                · cases usedB ((tk ++ nt).take i) j
                  · rw [Bool.false_or, Bool.false_or, Bool.eq_iff_iff]; simp; omega
                  · simp
                · rw [Below.heap_setCell _ _ _ _ (by show bx ≠ w3.heap.size; omega)]; exact HXI.out
              · obtain rfl : k = a' + x.size := by omega
                clear hmi
                go_wp2_with fail
                refine ⟨⟨e, i + 1, by go_num, by go_num, by omega, ?_, ?_, HBI.out, by omega⟩, by simp [intOf]; omega⟩
                · exact ⟨HEND.out.1, HEND.out.2.1, by have h := HEND.out.2.2; rw [List.take_of_length_le (by rw [HNN.out]; omega)] at h ⊢; exact h⟩
                · refine HMI.out.congr fun j hj => ?_
                  rw [take_snoc (tk ++ nt) i (by simp only [List.length_append, HNN.out, HMM.out]; exact hlt), usedB_snoc, List.getElem_append_right (by rw [HNN.out]; omega), HTI.out, covB_of hcb]
          · have hk6 : (kd == 6) = false := by simpa using h6
            go_wp2_with fail
            rw [HW5.out]
            clear hbxe
            refine wp_region_inv (InvC w5 cs) (by kernel_rfl) (by kernel_rfl) hI0.out ?_
            repeat (go_big_quiet_step (fail))
            refine wpQuiet_nil ?_
            intro w6 hw6
            have HI6 : Hid (InvC w5 cs w6) := by obtain ⟨i, rfl⟩ := hw6; exact i.ok
            clear hw6 q0 q1 q2 hcv hne5
            have hbx6 : w6.heap[bx]? = some (.cells #[.int .i64 kd, .string x, .int .i64 a'] 38 (0, 0)) := by rw [HI6.out.1.block _ hgl2]; exact HBX.out
            have hm6 : Marks w6 w3.heap.size N (usedB ((tk ++ nt).take i)) := HM2.out.keep (HI6.out.1.block _ (by omega))
            have hal6 : Below w3.heap.size w3 w6 := HAL2.out.trans (HI6.out.1.mono HAL2.out.size)
            have hgl6 : bx < w6.heap.size := by have := HI6.out.1.size; omega
            have HM6 := Lib.hid hm6
            have HAL6 := Lib.hid hal6
            have HBX6 := Lib.hid hbx6
            have y1 := cell_of hbx6 1
            have y2 := cell_of hbx6 2
            clear hm6 hal6 hbx6
            go_wp2_with fail
            clear y1 y2
            go_loopw [11] (fun vk wr => ∃ k : Nat, vk = .int .i64 k ∧ a' ≤ k ∧ k ≤ a' + x.size ∧ Marks wr w3.heap.size N (fun j => usedB ((tk ++ nt).take i) j || (decide (a' ≤ j) && decide (j < k))) ∧ Below w3.heap.size w3 wr ∧ bx < wr.heap.size ∧ wr.heap[bx]? = some (.cells #[.int .i64 kd, .string x, .int .i64 a'] 38 (0, 0))) (fun vk _ => a' + x.size - (intOf vk).toNat)
            case atStart =>
              refine ⟨a', rfl, by omega, by omega, HM6.out.congr fun j hj => ?_, HAL6.out, hgl6, HBX6.out⟩
              have : (decide (a' ≤ j) && decide (j < a')) = false := by simp
              rw [this, Bool.or_false]
            case round =>
              obtain ⟨k, rfl, hk1, hk2, hmi, hbi, hgi, hxi⟩ := hrel
              have HMI := Lib.hid hmi
              have HBI := Lib.hid hbi
              have HXI := Lib.hid hxi
              have y1 := cell_of hxi 1
              have y2 := cell_of hxi 2
              clear hbi hxi
              by_cases hlk : k < a' + x.size
              · obtain ⟨us, m1, m2, m3⟩ := hmi
                have hkN : k < N := by omega
                have hfr : usedB ((tk ++ nt).take i) k = false := by
                  refine HS.out.fresh i k (by simp only [List.length_append, HNN.out, HMM.out]; exact hlt) ?_
                  rw [List.getElem_append_right (by rw [HNN.out]; omega), HTI.out, covB_of hcb]
                  simp; omega
                have z0 : wr.cell? ⟨w3.heap.size, k, none⟩ = some (.bool false) := by
                  rw [cell_of m1, m3 k hkN]
                  show some (Value.bool (usedB ((tk ++ nt).take i) k || (decide (a' ≤ k) && decide (k < k)))) = _
                  rw [hfr]
                  simp
                have z1 := free_of m1 k
                clear m1 m2 m3 hfr
                go_wp2_with fail
                refine ⟨⟨k + 1, by go_num, by omega, by omega, (marks_set HMI.out hkN).congr fun j hj => ?_, HBI.out.setCell (Nat.le_refl _) _, by simpa using hgi, ?_⟩, by simp [intOf]; omega⟩
                · cases usedB ((tk ++ nt).take i) j
                  · rw [Bool.false_or, Bool.false_or, Bool.eq_iff_iff]; simp; omega
                  · simp
                · rw [Below.heap_setCell _ _ _ _ (by show bx ≠ w3.heap.size; omega)]; exact HXI.out
              · obtain rfl : k = a' + x.size := by omega
                clear hmi
                go_wp2_with fail
                refine ⟨⟨e, i + 1, by go_num, by go_num, by omega, ?_, ?_, HBI.out, by omega⟩, by simp [intOf]; omega⟩
                · exact ⟨HEND.out.1, HEND.out.2.1, by have h := HEND.out.2.2; rw [List.take_of_length_le (by rw [HNN.out]; omega)] at h ⊢; exact h⟩
                · refine HMI.out.congr fun j hj => ?_
                  rw [take_snoc (tk ++ nt) i (by simp only [List.length_append, HNN.out, HMM.out]; exact hlt), usedB_snoc, List.getElem_append_right (by rw [HNN.out]; omega), HTI.out, covB_of hcb]
      · obtain rfl : i = n + m := by omega
        have hmk : Marks wr w3.heap.size N (usedB (tk ++ nt)) := HMK.out.congr fun j hj => by rw [List.take_of_length_le (by simp only [List.length_append, HNN.out, HMM.out]; omega)]
        have HMK2 := Lib.hid hmk
        clear hbr hmk
        go_wp2_with fail
        go_loopw [12] (fun vk wi => ∃ k : Nat, vk = .int .i64 k ∧ k ≤ s.size ∧ Marks wi w3.heap.size N (usedB (tk ++ nt)) ∧ Below w3.heap.size w3 wi ∧ w3.heap.size < wi.heap.size) (fun vk _ => s.size - (intOf vk).toNat)
        case atStart => exact ⟨0, rfl, by omega, HMK2.out, HBR.out, hgl⟩
        case round =>
          obtain ⟨k, rfl, hk, hmi, hbi, hgi⟩ := hrel
          have HMI := Lib.hid hmi
          have HBI := Lib.hid hbi
          clear hbi
          by_cases hlk : k < s.size
          · obtain ⟨b, o, rfl, hB, hltb⟩ : ∃ b o, p = some ⟨b, o, none⟩ ∧ BytesN w3 b o s ∧ b < w3.heap.size := by
              rcases HBS3.out with h | h
              · omega
              · exact h
            obtain ⟨us, m1, m2, m3⟩ := hmi
            have z0 := (cell_of m1 k).trans (m3 k (by omega))
            have hd := (HBI.out.cell (p := ⟨b, o + k, none⟩) hltb).trans (hB k hlk)
            have hd0 : wr.cell? ⟨b, o, none⟩ = some (.int .u8 (byteN s 0)) := (HBI.out.cell (p := ⟨b, o, none⟩) hltb).trans (hB 0 (by omega))
            have hall := HS.out.all k hlk
            unfold Blk at hall
            have hdl := byteN_lt s k
            have hdl0 := byteN_lt s 0
            clear m1 m2 m3 hB
            generalize byteN s k = d at hd hdl hall
            generalize byteN s 0 = d0 at hd0 hdl0 hall
            generalize usedB (tk ++ nt) k = u at z0 hall
            by_cases c32 : d = 32
            · subst c32
              cases u
              all_goals
                go_wp2_with fail
                first
                  | exact ⟨⟨k + 1, by go_num, by omega, HMI.out, HBI.out, hgi⟩, by simp [intOf]; omega⟩
                  | exact ⟨⟨k + 1, by go_num, by omega, HMI.out, HBI.out⟩, by simp [intOf]; omega⟩
                  | (refine ⟨?_, by simp [intOf]; omega⟩
                     (repeat apply Exists.intro)
                     refine ⟨⟨k + 1, ?_, by omega, HMI.out, HBI.out, hgi⟩, rfl⟩
                     go_num)
            by_cases c9 : d = 9
            · subst c9
              cases u
              all_goals
                go_wp2_with fail
                first
                  | exact ⟨⟨k + 1, by go_num, by omega, HMI.out, HBI.out, hgi⟩, by simp [intOf]; omega⟩
                  | exact ⟨⟨k + 1, by go_num, by omega, HMI.out, HBI.out⟩, by simp [intOf]; omega⟩
                  | (refine ⟨?_, by simp [intOf]; omega⟩
                     (repeat apply Exists.intro)
                     refine ⟨⟨k + 1, ?_, by omega, HMI.out, HBI.out, hgi⟩, rfl⟩
                     go_num)
            by_cases c13 : d = 13
            · subst c13
              cases u
              all_goals
                go_wp2_with fail
                first
                  | exact ⟨⟨k + 1, by go_num, by omega, HMI.out, HBI.out, hgi⟩, by simp [intOf]; omega⟩
                  | exact ⟨⟨k + 1, by go_num, by omega, HMI.out, HBI.out⟩, by simp [intOf]; omega⟩
                  | (refine ⟨?_, by simp [intOf]; omega⟩
                     (repeat apply Exists.intro)
                     refine ⟨⟨k + 1, ?_, by omega, HMI.out, HBI.out, hgi⟩, rfl⟩
                     go_num)
            by_cases c10 : d = 10
            · subst c10
              cases u
              all_goals
                go_wp2_with fail
                first
                  | exact ⟨⟨k + 1, by go_num, by omega, HMI.out, HBI.out, hgi⟩, by simp [intOf]; omega⟩
                  | exact ⟨⟨k + 1, by go_num, by omega, HMI.out, HBI.out⟩, by simp [intOf]; omega⟩
                  | (refine ⟨?_, by simp [intOf]; omega⟩
                     (repeat apply Exists.intro)
                     refine ⟨⟨k + 1, ?_, by omega, HMI.out, HBI.out, hgi⟩, rfl⟩
                     go_num)
            have n32 : ((d : Int) == 32) = false := by simp; omega
            have n9 : ((d : Int) == 9) = false := by simp; omega
            have n13 : ((d : Int) == 13) = false := by simp; omega
            have n10 : ((d : Int) == 10) = false := by simp; omega
            by_cases c3 : k < 3 ∧ 3 ≤ s.size ∧ d0 = 239
            · obtain ⟨p1, p2, rfl⟩ := c3
              clear hall
              cases u
              all_goals
                go_wp2_with fail
                first
                  | exact ⟨⟨k + 1, by go_num, by omega, HMI.out, HBI.out, hgi⟩, by simp [intOf]; omega⟩
                  | exact ⟨⟨k + 1, by go_num, by omega, HMI.out, HBI.out⟩, by simp [intOf]; omega⟩
                  | (refine ⟨?_, by simp [intOf]; omega⟩
                     (repeat apply Exists.intro)
                     refine ⟨⟨k + 1, ?_, by omega, HMI.out, HBI.out, hgi⟩, rfl⟩
                     go_num)
            · have hu : u = true := by
                rcases hall with h | h
                · omega
                · exact h
              subst hu
              clear hall
              by_cases p1 : k < 3
              · by_cases p2 : 3 ≤ s.size
                · have p3 : ((d0 : Int) == 239) = false := by simp; omega
                  go_wp2_with fail
                  first
                    | exact ⟨⟨k + 1, by go_num, by omega, HMI.out, HBI.out, hgi⟩, by simp [intOf]; omega⟩
                    | exact ⟨⟨k + 1, by go_num, by omega, HMI.out, HBI.out⟩, by simp [intOf]; omega⟩
                    | (refine ⟨?_, by simp [intOf]; omega⟩
                       (repeat apply Exists.intro)
                       refine ⟨⟨k + 1, ?_, by omega, HMI.out, HBI.out, hgi⟩, rfl⟩
                       go_num)
                · go_wp2_with fail
                  first
                    | exact ⟨⟨k + 1, by go_num, by omega, HMI.out, HBI.out, hgi⟩, by simp [intOf]; omega⟩
                    | exact ⟨⟨k + 1, by go_num, by omega, HMI.out, HBI.out⟩, by simp [intOf]; omega⟩
                    | (refine ⟨?_, by simp [intOf]; omega⟩
                       (repeat apply Exists.intro)
                       refine ⟨⟨k + 1, ?_, by omega, HMI.out, HBI.out, hgi⟩, rfl⟩
                       go_num)
              · go_wp2_with fail
                first
                  | exact ⟨⟨k + 1, by go_num, by omega, HMI.out, HBI.out, hgi⟩, by simp [intOf]; omega⟩
                  | exact ⟨⟨k + 1, by go_num, by omega, HMI.out, HBI.out⟩, by simp [intOf]; omega⟩
                  | (refine ⟨?_, by simp [intOf]; omega⟩
                     (repeat apply Exists.intro)
                     refine ⟨⟨k + 1, ?_, by omega, HMI.out, HBI.out, hgi⟩, rfl⟩
                     go_num)
          · obtain rfl : k = s.size := by omega
            clear hmi
            have haw := awake_any wr (HE3.out.below HBI.out hlt3) (by have := HBI.out.size; omega)
            have HAW := Lib.hid haw
            clear haw
            go_wp2_with (go_at_call 14; refine HAW.out.mono ?_; rintro e w9 ⟨rfl, hb9⟩)
            go_ret
            exact ⟨rfl, HB3.out.trans ((HBI.out.trans (hb9.mono HBI.out.size)).mono HB3.out.size)⟩
end Go.Proofs.YtaboimjnhocajaaDoor
