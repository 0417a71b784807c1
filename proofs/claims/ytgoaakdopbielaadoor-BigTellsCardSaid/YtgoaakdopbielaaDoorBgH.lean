import Derived.Test.YtgoaakdopbielaaDoorBgG
import Derived.Test.YtgoaakdopbielaaDoorShelf
import Derived.Laws.CopyOwn
import Derived.Deep.OwnRows
namespace Go.Proofs.YtgoaakdopbielaaDoor
open Go.RowKit
set_option linter.unusedSimpArgs false
set_option linter.unusedVariables false
set_option linter.unusedSectionVars false

/-! Layer 9: a row that is handed on. -/
def RowA (w : World) (v : Value) (a : List Int) : Prop := ∃ p o cap L, v = .slice (some ⟨p, o, none⟩) a.length cap ∧ Blk w p L ∧ winL L o a.length = a ∧ o + a.length ≤ L.length ∧ a.length ≤ cap
theorem RowA.below {w w' : World} {v : Value} {a : List Int} (h : RowA w v a) (hb : Below w.heap.size w w') : RowA w' v a := by
  obtain ⟨p, o, cap, L, h1, h2, h3⟩ := h
  exact ⟨p, o, cap, L, h1, h2.below hb, h3⟩
theorem win_cells {L : List Int} {o : Nat} {a : List Int} (h : winL L o a.length = a) (i : Nat) (x : Int) (hx : a[i]? = some x) : L[o + i]? = some x := by
  rw [← h] at hx
  unfold winL at hx
  rw [List.getElem?_take] at hx
  split at hx
  · rwa [List.getElem?_drop] at hx
  · cases hx
theorem stop_listB {P : Program} {ops : Array Oper} {Q : Exit → Act → World → Prop} {l : List Oper} {a : Act} {w : World} (h : Hid (wpList P ops Q l a w)) : wpList P ops Q l a w := h.out
theorem win_full (a : List Int) : winL a 0 a.length = a := by unfold winL; simp
set_option maxRecDepth 100000 in
set_option maxHeartbeats 1600000 in
theorem trimmed_v (p o cap : Nat) (a L : List Int) (w : World) (hL : Blk w p L) (hw : winL L o a.length = a) (hcap : a.length ≤ cap) (hl : a.length ≤ 1000000) :
    Calls Tryd.prog 66 #[.slice (some ⟨p, o, none⟩) a.length cap] w fun e w' => e = .returned (.slice (some ⟨p, o, none⟩) (trimL a).length (trimL a).length) ∧ w' = w := by
  have HC := Lib.hid (fun i x hx => hL.cellD (o + i) x (win_cells hw i x hx))
  have HT : Hid (trimL a = trimL (a.take a.length)) := Lib.hid (by rw [List.take_length])
  obtain ⟨N, hN⟩ : ∃ N, a.length = N := ⟨_, rfl⟩
  rw [hN] at HT hcap hl ⊢
  clear hw hL
  go_enter Tryd.func66, Tryd.ntmps66
  go_wp2_with fail
  go_loopw [3] (fun nv wr => ∃ n : Nat, nv = .int .i64 n ∧ n ≤ N ∧ trimL a = trimL (a.take n) ∧ wr = w) (fun nv _ => (intOf nv).toNat)
  case atStart => exact ⟨N, rfl, by omega, HT.out, rfl⟩
  case round =>
    obtain ⟨n, rfl, hn, ht, rfl⟩ := hrel
    have HTn := Lib.hid ht
    clear ht
    by_cases h0 : 0 < n
    · have h0i : (0 : Int) < (n : Int) := by omega
      have h0d : decide ((0 : Int) < (n : Int)) = true := decide_eq_true h0i
      obtain ⟨j, rfl⟩ : ∃ j, n = j + 1 := ⟨n - 1, by omega⟩
      obtain ⟨x, hx⟩ : ∃ x, a[j]? = some x := ⟨a[j]'(by omega), List.getElem?_eq_getElem _⟩
      have hc := HC.out j x hx
      have hsplit : a.take (j + 1) = a.take j ++ [x] := by rw [List.take_add_one, hx]; rfl
      have hji : ((j + 1 : Nat) : Int) - 1 = (j : Int) := by omega
      have hjN : j < N := by omega
      have hjNi : (j : Int) < (N : Int) := by omega
      by_cases hx0 : x = 0
      · have HT2 : Hid (trimL a = trimL (a.take j)) := Lib.hid (by rw [HTn.out, hsplit, trim_snoc, if_pos hx0])
        subst hx0
        clear hsplit hx
        go_wp2_with fail
        go_roundw
        case rel => exact ⟨j, by first | rfl | go_num, by omega, HT2.out, by first | rfl | trivial⟩
        case measure => first | (simp [intOf]; done) | (simp [intOf]; omega)
      · have HT2 : Hid (trimL a = a.take (j + 1)) := Lib.hid (by rw [HTn.out, hsplit, trim_snoc, if_neg hx0])
        have hlen : Hid ((trimL a).length = j + 1) := Lib.hid (by rw [HT2.out, List.length_take]; omega)
        have e1 : (x == 0) = false := by rw [beq_eq_false_iff_ne]; exact hx0
        have e2 : decide (x = 0) = false := decide_eq_false hx0
        have hjc : j + 1 ≤ cap := by omega
        have hjci : (j : Int) + 1 ≤ (cap : Int) := by omega
        have hjn : ((j : Int) + 1).toNat = j + 1 := by omega
        have hjp : (0 : Int) ≤ (j : Int) + 1 := by omega
        clear hsplit hx
        go_wp2_with fail
        go_ret
        exact ⟨by (rw [hlen.out]; try rfl), rfl⟩
    · obtain rfl : n = 0 := by omega
      have hlen : Hid ((trimL a).length = 0) := Lib.hid (by rw [HTn.out]; rfl)
      go_wp2_with fail
      go_ret
      exact ⟨by (rw [hlen.out]; try rfl), rfl⟩
set_option maxHeartbeats 800000 in
theorem window_v (p o n cap i k : Nat) (w : World) (hk : 0 < k) (h : i + k ≤ cap) (hs : cap ≤ 1000000) :
    Calls Tryd.prog 74 #[.slice (some ⟨p, o, none⟩) n cap, .int .i64 i, .int .i64 k] w fun e w' => e = .returned (.slice (some ⟨p, o + i, none⟩) k k) ∧ w' = w := by
  have hk2 : ¬ k = 0 := by omega
  have hk3 : (0 : Int) < (k : Int) := by omega
  have h1 : (i : Int) + (k : Int) ≤ (cap : Int) := by omega
  have h2 : (i : Int) ≤ (i : Int) + (k : Int) := by omega
  have h3 : ((i : Int) + (k : Int)).toNat = i + k := by omega
  have h4 : (0 : Int) ≤ (i : Int) + (k : Int) := by omega
  have h5 : i ≤ i + k := by omega
  go_enter Tryd.func74, Tryd.ntmps74
  go_wp2_with fail
  go_ret
  exact ⟨rfl, rfl⟩
/-- A row with one place more, in memory of its own. -/
theorem wide_blk {w w' : World} {a : List Int} {cs : List Value} {g : Nat} (hg : w'.heap[g]? = some (.cells (splice (intV (List.replicate (a.length + 1) 0)) 0 cs).toArray 3 (0, 0))) (hcs : cs = intV a) : Blk w' g (a ++ [0]) := by
  unfold Blk
  rw [hg, hcs]
  congr 2
  unfold splice intV
  rw [List.take_zero, List.nil_append, Nat.zero_add, List.length_map, List.map_append, ← List.map_drop, List.drop_replicate]
  rw [show a.length + 1 - a.length = 1 by omega]
  rfl
theorem wide_blk2 {w' : World} {a : List Int} {K g : Nat} (hK : K = a.length + 1) (hg : w'.heap[g]? = some (.cells (splice (intV (List.replicate K 0)) 0 (intV a)).toArray 3 (0, 0))) : Blk w' g (a ++ [0]) := by
  subst hK
  exact wide_blk (w := w') hg rfl
theorem copy_wide {W w0 : World} (g p o cap K : Nat) (a L : List Int) (hK : K = a.length + 1) (hm : Blk W g (List.replicate K 0)) (hL : Blk W p L) (hw : winL L o a.length = a)
    (B : Nat) (hb : Below B w0 W) (hBg : B ≤ g) :
    ∃ w' v, (Builtin.copy_ #[42, 42] 3 #[.slice (some ⟨g, 0, none⟩) K K, .slice (some ⟨p, o, none⟩) a.length cap]).run Tryd.prog W = .ok v w' ∧ Blk w' g (a ++ [0]) ∧ Below B w0 w' := by
  have hrun := run_copy_row (P := Tryd.prog) W 42 42 3 3 g 0 K K ⟨p, o, none⟩ a.length cap (intV (List.replicate K 0)).toArray 3 (intV a) Tryd.underlying42 (by kernel_rfl) hm (by unfold intV; rw [List.length_map]; show a.length = min a.length K; omega) ?_ (by unfold intV; simp; omega) ?_
  · refine ⟨_, _, hrun, ?_, below_setRow hb hBg _⟩
    refine wide_blk2 hK ?_
    have := setRow_heap W g (intV (List.replicate K 0)).toArray ((intV (List.replicate K 0)).toArray.toList.take 0 ++ intV a ++ (intV (List.replicate K 0)).toArray.toList.drop (0 + (intV a).length)).toArray 3 (0, 0) hm
    rw [this]
    congr 3
  · intro j v hj
    unfold intV at hj
    rw [List.getElem?_map] at hj
    obtain ⟨x, hx, rfl⟩ := Option.map_eq_some_iff.1 hj
    have e : (⟨p, o, none⟩ : Addr).add j = ⟨p, o + j, none⟩ := by unfold Addr.add; split <;> simp_all
    rw [e]
    exact hL.cellD (o + j) x (win_cells hw j x hx)
  · intro v hv
    unfold intV at hv
    obtain ⟨x, _, rfl⟩ := List.mem_map.1 hv
    rfl
set_option maxRecDepth 100000 in
set_option maxHeartbeats 1600000 in
theorem wider_v (p o cap : Nat) (a L : List Int) (w : World) (hL : Blk w p L) (hw : winL L o a.length = a) (hl : a.length ≤ 100000) :
    Calls Tryd.prog 71 #[.slice (some ⟨p, o, none⟩) a.length cap] w fun e w' => e = .returned (.slice (some ⟨w.heap.size, 0, none⟩) (a.length + 1) (a.length + 1)) ∧ Blk w' w.heap.size (a ++ [0]) ∧ Below w.heap.size w w' := by
  obtain ⟨K, hK⟩ : ∃ K : Nat, (a.length : Int) + 1 = (K : Int) := ⟨a.length + 1, by simp⟩
  have HK2 : Hid (K = a.length + 1) := Lib.hid (by omega)
  have hmk := run_make_row' (P := Tryd.prog) 42 3 (.int .i64 0) 8 Tryd.underlying42 (by kernel_rfl) rfl .i64 .i64 K (by omega) (by omega)
  have hb0 : Below w.heap.size w (w.alloc (.cells (madeCells #[.int .i64 0] K) 3)) := (Below.refl _ _).alloc (Nat.le_refl _) _
  obtain ⟨w1, v1, hrun, hbl, hbb⟩ := copy_wide w.heap.size p o cap K a L HK2.out (Blk.made w K) (hL.below hb0) hw w.heap.size hb0 (Nat.le_refl _)
  have HBL := Lib.hid hbl
  have HBB := Lib.hid hbb
  have hKb : K ≤ 100001 := by omega
  clear hb0 hL hw hbl hbb
  go_enter Tryd.func71, Tryd.ntmps71
  go_wp2_with fail
  go_ret
  exact ⟨by rw [HK2.out]; rfl, HBL.out, HBB.out⟩
end Go.Proofs.YtgoaakdopbielaaDoor
