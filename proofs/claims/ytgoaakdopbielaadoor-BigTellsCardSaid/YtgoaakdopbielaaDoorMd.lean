import Derived.Test.YtgoaakdopbielaaDoorMc
import Derived.Test.YtgoaakdopbielaaDoorPlF1
namespace Go.Proofs.YtgoaakdopbielaaDoor
open Go.RowKit Go.Shelf
set_option linter.unusedSimpArgs false
set_option linter.unusedVariables false
set_option linter.unusedSectionVars false

/-! Layer 9, the document's own: figures put together. -/
def valD : List Nat → Nat
  | [] => 0
  | x :: r => x + 10 * valD r
/-- The figures of a row up to a place, the highest first. -/
def upT (l : List Nat) (k : Nat) : List Nat := (l.take k).reverse.map (48 + ·)
theorem upT_step (l : List Nat) (k j : Nat) (x : Nat) (hx : l[j]? = some x) (hj : j < k) : ((l.take k).drop j).reverse.map (48 + ·) = ((l.take k).drop (j + 1)).reverse.map (48 + ·) ++ [48 + x] := by
  have hlt : j < (l.take k).length := by
    have := (List.getElem?_eq_some_iff.mp hx).1
    rw [List.length_take]; omega
  rw [List.drop_eq_getElem_cons hlt, List.reverse_cons, List.map_append]
  have : (l.take k)[j] = x := by
    rw [List.getElem_take]
    exact (List.getElem?_eq_some_iff.mp hx).2
  rw [this]; rfl
theorem valD_snoc (l : List Nat) (x : Nat) : valD (l ++ [x]) = valD l + 10 ^ l.length * x := by
  induction l with
  | nil => simp [valD]
  | cons y r ih =>
    rw [List.cons_append, valD, valD, ih, List.length_cons, Nat.pow_succ, Nat.mul_add, ← Nat.mul_assoc, Nat.mul_comm 10 (10 ^ r.length)]
    omega
theorem valD_zeros : ∀ (l : List Nat), (∀ x ∈ l, x = 0) → valD l = 0
  | [], _ => rfl
  | x :: r, h => by
    rw [valD, h x (by simp), valD_zeros r (fun y hy => h y (by simp [hy]))]
theorem valD_append (a b : List Nat) : valD (a ++ b) = valD a + 10 ^ a.length * valD b := by
  induction a with
  | nil => simp [valD]
  | cons y r ih =>
    rw [List.cons_append, valD, valD, ih, List.length_cons, Nat.pow_succ, Nat.mul_add, ← Nat.mul_assoc, Nat.mul_comm 10 (10 ^ r.length)]
    omega
theorem undec_upT : ∀ (l : List Nat), (∀ x ∈ l, x < 10) → undec ((l.reverse.map (48 + ·)).map UInt8.ofNat) = valD l
  | [], _ => rfl
  | x :: r, h => by
    have hx : x < 10 := h x (by simp)
    rw [List.reverse_cons, List.map_append, List.map_append, List.map_cons, List.map_nil, List.map_cons, List.map_nil, undec_snoc, undec_upT r (fun y hy => h y (by simp [hy])), dig_nat hx, valD]
    omega
/-- The whole row is written as its number is. -/
theorem upT_dec (l : List Nat) (k : Nat) (hl : ∀ x ∈ l, x < 10) (h1 : 1 ≤ k) (hk : k ≤ l.length) (hz : ∀ x ∈ l.drop k, x = 0) (ht : 1 < k → l[k - 1]? ≠ some 0) :
    bytesOf (upT l k) = ⟨(Lib.decDigits (valD l)).toArray⟩ := by
  have hv : valD l = valD (l.take k) := by
    have h2 := valD_append (l.take k) (l.drop k)
    rw [List.take_append_drop, valD_zeros _ hz, Nat.mul_zero, Nat.add_zero] at h2
    exact h2
  have hl2 : ∀ x ∈ l.take k, x < 10 := fun x hx => hl x (List.mem_of_mem_take hx)
  have hu := undec_upT (l.take k) hl2
  have hlen : (l.take k).length = k := by rw [List.length_take]; omega
  have hp : plainD ((upT l k).map UInt8.ofNat) := by
    refine ⟨?_, ?_, ?_⟩
    · intro h
      have h7 : ((upT l k).map UInt8.ofNat).length = k := by unfold upT; rw [List.length_map, List.length_map, List.length_reverse, hlen]
      rw [h, List.length_nil] at h7
      omega
    · rw [List.all_eq_true]
      intro b hb
      obtain ⟨y, hy, rfl⟩ := List.mem_map.mp hb
      obtain ⟨x, hx, rfl⟩ := List.mem_map.mp hy
      have hx10 := hl2 x (List.mem_reverse.mp hx)
      unfold isF
      rw [dig_nat hx10]
      simp; omega
    · intro hh
      by_cases hk1 : k = 1
      · subst hk1
        cases l with
        | nil => simp at hk
        | cons x r =>
          simp only [upT, List.take_succ_cons, List.take_zero, List.reverse_cons, List.reverse_nil, List.nil_append, List.map_cons, List.map_nil, List.head?_cons, Option.some.injEq] at hh ⊢
          rw [hh]
      · exfalso
        have hk2 : k - 1 < l.length := by omega
        have hs : l.take k = l.take (k - 1) ++ [l[k - 1]] := by
          have := List.take_succ_eq_append_getElem (l := l) (i := k - 1) hk2
          rwa [show k - 1 + 1 = k by omega] at this
        have hx10 := hl l[k - 1] (List.getElem_mem hk2)
        simp only [upT, hs, List.reverse_append, List.reverse_cons, List.reverse_nil, List.nil_append, List.singleton_append, List.map_cons, List.head?_cons, Option.some.injEq] at hh
        have h3 := congrArg UInt8.toNat hh
        rw [dig_nat hx10] at h3
        have h4 : (48 : UInt8).toNat = 48 := rfl
        apply ht (by omega)
        rw [List.getElem?_eq_getElem hk2]
        congr 1
        omega
  have hd := plain_dec _ hp
  unfold upT at hd
  rw [hu, ← hv] at hd
  unfold bytesOf
  rw [hd]
  rfl
set_option maxRecDepth 100000 in
set_option maxHeartbeats 3200000 in
theorem rplain_v (B0 : Nat) (v : Value) (l : List Nat) (w : World) (hv : w.ownsRow B0 3 1 v l.length (i64s l)) (hl : ∀ x ∈ l, x < 10) (h1 : 1 ≤ l.length) (h2 : l.length ≤ 2000) :
    Calls Tryd.prog 76 #[v] w fun e w' => e = .returned (.string ⟨(Lib.decDigits (valD l)).toArray⟩) ∧ Below w.heap.size w w' := by
  obtain ⟨j0, hj0, hy0, hy1, hy2⟩ := info_parts info8
  obtain ⟨a, c, rfl⟩ := row_slice hv
  have HR : Hid (∀ k, 1 ≤ k → k ≤ l.length → (∀ x ∈ l.drop k, x = 0) → (1 < k → l[k - 1]? ≠ some 0) → (⟨(Lib.decDigits (valD l)).toArray⟩ : ByteArray) = bytesOf (upT l k)) := Lib.hid (fun k a b c d => (upT_dec l k hl a b c d).symm)
  generalize (⟨(Lib.decDigits (valD l)).toArray⟩ : ByteArray) = T at *
  obtain ⟨g, cap, hs⟩ := row_some hv (by intro h0; have := congrArg List.length h0; rw [i64s_len] at this; simp at this; rw [this] at h1; simp at h1)
  simp only [Value.slice.injEq, true_and] at hs
  obtain ⟨rfl, rfl⟩ := hs
  have HC : Hid (∀ W, Below w.heap.size w W → ∀ (k x : Nat), l[k]? = some x → W.cell? ⟨g, k, none⟩ = some (.int .i64 (x : Int))) := Lib.hid (fun W hb k x hx => by
    have hk := (List.getElem?_eq_some_iff.mp hx).1
    obtain ⟨g2, c2, e1, e2, e3⟩ := row_read hv hb k hk
    simp only [Option.some.injEq, Addr.mk.injEq, and_true] at e1
    obtain rfl := e1
    rw [e3, (List.getElem?_eq_some_iff.mp hx).2])
  have HL := Lib.hid hl
  clear hv hl
  obtain ⟨n, hn⟩ : ∃ n, l.length = n := ⟨_, rfl⟩
  have HN := Lib.hid hn
  rw [hn] at h1 h2 HR ⊢
  clear hn
  go_enter Tryd.func76, Tryd.ntmps76
  go_wp2_with fail
  go_loopw [3] (fun kv wr => ∃ k : Nat, kv = .int .i64 k ∧ 1 ≤ k ∧ k ≤ n ∧ (∀ x ∈ l.drop k, x = 0) ∧ wr = w) (fun kv _ => (intOf kv).toNat)
  case atStart => exact ⟨n, rfl, h1, Nat.le_refl _, by rw [← HN.out, List.drop_length]; simp, rfl⟩
  case round =>
    obtain ⟨k, rfl, hk1, hkn, hz, hwr⟩ := hrel
    generalize wr = WW at *
    obtain rfl := hwr
    have HZ := Lib.hid hz
    clear hz
    obtain ⟨m, rfl⟩ : ∃ m, k = m + 1 := ⟨k - 1, by omega⟩
    obtain ⟨x, hx⟩ : ∃ x, l[m]? = some x := ⟨_, List.getElem?_eq_getElem (by rw [HN.out]; omega)⟩
    have e0 := HC.out _ (Below.refl _ _) m x hx
    have HX := Lib.hid hx
    have hki : ((m + 1 : Nat) : Int) - 1 = (m : Int) := by omega
    have hkl : m < n := by omega
    have hkli : (m : Int) < (n : Int) := by omega
    have q1 : IntKind.i64.wrap (m : Int) = (m : Int) := IntWalk.i64_in _ (by omega)
    by_cases hgo : 0 < m ∧ x = 0
    · obtain ⟨hk2, rfl⟩ := hgo
      have d1 : decide ((1 : Int) < ((m + 1 : Nat) : Int)) = true := by simp; omega
      have hk3 : 1 ≤ m := by omega
      have hmn : m ≤ n := by omega
      have HZ2 : Hid (∀ y ∈ l.drop m, y = 0) := Lib.hid (by
        intro y hy
        have hkk : m < l.length := by rw [HN.out]; exact hkl
        rw [List.drop_eq_getElem_cons hkk] at hy
        rcases List.mem_cons.mp hy with rfl | hy
        · exact (List.getElem?_eq_some_iff.mp HX.out).2
        · exact HZ.out y hy)
      clear hx
      go_wp2_with fail
      go_roundw
      case rel => exact ⟨m, by first | rfl | go_num, hk3, hmn, HZ2.out, by first | rfl | trivial⟩
      case measure => first | (simp [intOf]; done) | (simp [intOf]; omega)
    · have HRES : Hid (T = bytesOf (upT l (m + 1))) := Lib.hid (HR.out (m + 1) hk1 hkn HZ.out (by
        intro h2 h3
        rw [Nat.add_sub_cancel, HX.out] at h3
        exact hgo ⟨by omega, Option.some.inj h3⟩))
      clear hx
      by_cases hk2 : 0 < m
      · have d1 : decide ((1 : Int) < ((m + 1 : Nat) : Int)) = true := by simp; omega
        have hx0 : ¬ x = 0 := fun h => hgo ⟨hk2, h⟩
        have e1 : ((x : Int) == 0) = false := by rw [beq_eq_false_iff_ne]; omega
        have e2 : ¬ (x : Int) = 0 := by omega
        clear hgo
        have hkA : (((m + 1) : Nat) : Int) - 1 = (m : Int) := by omega
        go_wp2_with fail
        go_loopw [4, 5] (fun ov kv wr3 => ∃ j : Nat, kv = .int .i64 ((j : Int) - 1) ∧ j ≤ (m + 1) ∧ wr3.ownsRow WW.heap.size 5 1 ov (((l.take (m + 1)).drop j).reverse.map (48 + ·)).length (u8s (((l.take (m + 1)).drop j).reverse.map (48 + ·))) ∧ Below WW.heap.size WW wr3) (fun _ kv _ => ((intOf kv) + 1).toNat)
        case atStart =>
          refine ⟨(m + 1), by first | rfl | (rw [hkA]) | (congr 1; omega), Nat.le_refl _, ?_, Below.refl _ _⟩
          rw [List.drop_eq_nil_of_le (by rw [List.length_take]; omega)]
          exact World.ownsRow_nil _ _ _ _
        case round =>
          obtain ⟨j, rfl, hj, hown, hbl⟩ := hrel
          have HO6 := Lib.hid hown
          have HB6 := Lib.hid hbl
          clear hown hbl
          cases j with
          | zero =>
            rw [List.drop_zero] at HO6
            obtain ⟨aa, cc, rfl⟩ := row_slice HO6.out
            have hcv := conv_at (row_bsl HO6.out (by
              intro x hx
              simp only [List.mem_map, List.mem_reverse] at hx
              obtain ⟨y, hy, rfl⟩ := hx
              have := HL.out y (List.mem_of_mem_take hy)
              omega)) cc
            rw [bytesOf_size] at hcv
            have hlen : ((l.take (m + 1)).reverse.map (48 + ·)).length = (m + 1) := by rw [List.length_map, List.length_reverse, List.length_take, HN.out]; omega
            rw [hlen] at hcv ⊢
            have hneg : (((0 : Nat) : Int) - 1) = -1 := rfl
            have hne0 : ¬ (((m + 1) : Nat) : Int) = 0 := by omega
            have HRES2 : Hid (T = bytesOf ((l.take (m + 1)).reverse.map (48 + ·))) := HRES
            clear HRES HO6 hlen
            generalize (l.take (m + 1)).reverse.map (48 + ·) = R at *
            go_wp2_with fail
            go_ret
            exact ⟨by rw [HRES2.out] <;> rfl, HB6.out⟩
          | succ j =>
            have hjI : (((j + 1 : Nat) : Int) - 1) = (j : Int) := by omega
            obtain ⟨y, hy⟩ : ∃ y, l[j]? = some y := ⟨_, List.getElem?_eq_getElem (by rw [HN.out]; omega)⟩
            have e1 := HC.out wr HB6.out j y hy
            have hpj : y < 10 := HL.out y (List.mem_of_getElem? hy)
            have HDR := Lib.hid (upT_step l (m + 1) j y hy (by omega))
            have hjn : j < n := by omega
            have hjni : (j : Int) < (n : Int) := by omega
            clear hy
            obtain ⟨q, hq⟩ : ∃ q, 48 + y = q := ⟨_, rfl⟩
            have hqI : (48 : Int) + (y : Int) = (q : Int) := by omega
            have hq2 : q < 60 := by omega
            rw [hq] at HDR
            clear hq
            have hlL : (((l.take (m + 1)).drop (j + 1)).reverse.map (48 + ·)).length ≤ 40000 := by rw [List.length_map, List.length_reverse, List.length_drop, List.length_take]; omega
            generalize ((l.take (m + 1)).drop (j + 1)).reverse.map (48 + ·) = L at *
            rw [hjI]
            go_wp2_with (first
              | (at_builtin; refine wpList_append_own _ rfl _ _ 70 rfl WW.heap.size 5 j0 (.int .u8 0) 1 1 Tryd.underlying70 hj0 hy0 hy1 hy2 rfl (by decide) _ _ _ rfl (HO6.out.alloc _) ⟨wr.heap.size, 0, none⟩ 1 1 [.int .u8 (q : Int)] rfl rfl newsN ?c2 ?c3 ?c4 ?c5 ?_))
            case c2 => intro u hu; simp at hu; subst hu; rfl
            case c3 => unfold maxLen; omega
            case c4 => omega
            case c5 => have := HB6.out.size; simp; omega
            intro v' w1 hown' hgrow _
            have HO7 : Hid (w1.ownsRow WW.heap.size 5 1 v' (((l.take (m + 1)).drop j).reverse.map (48 + ·)).length (u8s (((l.take (m + 1)).drop j).reverse.map (48 + ·)))) := Lib.hid (by rw [HDR.out]; simpa [u8s] using hown')
            have HB7 : Hid (Below WW.heap.size WW w1) := Lib.hid (append8_below HB6.out HO6.out HB6.out.size hgrow)
            clear hown' hgrow
            go_wp2_with fail
            go_roundw
            case rel => exact ⟨j, by go_num, by omega, by first | exact HO7.out | simpa using HO7.out, HB7.out⟩
            case measure => simp [intOf] <;> omega
      · obtain rfl : m = 0 := by omega
        clear hgo hk2
        have hkA : ((1 : Nat) : Int) - 1 = (0 : Int) := by omega
        go_wp2_with fail
        go_loopw [4, 5] (fun ov kv wr3 => ∃ j : Nat, kv = .int .i64 ((j : Int) - 1) ∧ j ≤ 1 ∧ wr3.ownsRow WW.heap.size 5 1 ov (((l.take 1).drop j).reverse.map (48 + ·)).length (u8s (((l.take 1).drop j).reverse.map (48 + ·))) ∧ Below WW.heap.size WW wr3) (fun _ kv _ => ((intOf kv) + 1).toNat)
        case atStart =>
          refine ⟨1, by first | rfl | (rw [hkA]) | (congr 1; omega), Nat.le_refl _, ?_, Below.refl _ _⟩
          rw [List.drop_eq_nil_of_le (by rw [List.length_take]; omega)]
          exact World.ownsRow_nil _ _ _ _
        case round =>
          obtain ⟨j, rfl, hj, hown, hbl⟩ := hrel
          have HO6 := Lib.hid hown
          have HB6 := Lib.hid hbl
          clear hown hbl
          cases j with
          | zero =>
            rw [List.drop_zero] at HO6
            obtain ⟨aa, cc, rfl⟩ := row_slice HO6.out
            have hcv := conv_at (row_bsl HO6.out (by
              intro x hx
              simp only [List.mem_map, List.mem_reverse] at hx
              obtain ⟨y, hy, rfl⟩ := hx
              have := HL.out y (List.mem_of_mem_take hy)
              omega)) cc
            rw [bytesOf_size] at hcv
            have hlen : ((l.take 1).reverse.map (48 + ·)).length = 1 := by rw [List.length_map, List.length_reverse, List.length_take, HN.out]; omega
            rw [hlen] at hcv ⊢
            have hneg : (((0 : Nat) : Int) - 1) = -1 := rfl
            have hne0 : ¬ ((1 : Nat) : Int) = 0 := by omega
            have HRES2 : Hid (T = bytesOf ((l.take 1).reverse.map (48 + ·))) := HRES
            clear HRES HO6 hlen
            generalize (l.take 1).reverse.map (48 + ·) = R at *
            go_wp2_with fail
            go_ret
            exact ⟨by rw [HRES2.out] <;> rfl, HB6.out⟩
          | succ j =>
            have hjI : (((j + 1 : Nat) : Int) - 1) = (j : Int) := by omega
            obtain ⟨y, hy⟩ : ∃ y, l[j]? = some y := ⟨_, List.getElem?_eq_getElem (by rw [HN.out]; omega)⟩
            have e1 := HC.out wr HB6.out j y hy
            have hpj : y < 10 := HL.out y (List.mem_of_getElem? hy)
            have HDR := Lib.hid (upT_step l 1 j y hy (by omega))
            have hjn : j < n := by omega
            have hjni : (j : Int) < (n : Int) := by omega
            clear hy
            obtain ⟨q, hq⟩ : ∃ q, 48 + y = q := ⟨_, rfl⟩
            have hqI : (48 : Int) + (y : Int) = (q : Int) := by omega
            have hq2 : q < 60 := by omega
            rw [hq] at HDR
            clear hq
            have hlL : (((l.take 1).drop (j + 1)).reverse.map (48 + ·)).length ≤ 40000 := by rw [List.length_map, List.length_reverse, List.length_drop, List.length_take]; omega
            generalize ((l.take 1).drop (j + 1)).reverse.map (48 + ·) = L at *
            rw [hjI]
            go_wp2_with (first
              | (at_builtin; refine wpList_append_own _ rfl _ _ 70 rfl WW.heap.size 5 j0 (.int .u8 0) 1 1 Tryd.underlying70 hj0 hy0 hy1 hy2 rfl (by decide) _ _ _ rfl (HO6.out.alloc _) ⟨wr.heap.size, 0, none⟩ 1 1 [.int .u8 (q : Int)] rfl rfl newsN ?c2 ?c3 ?c4 ?c5 ?_))
            case c2 => intro u hu; simp at hu; subst hu; rfl
            case c3 => unfold maxLen; omega
            case c4 => omega
            case c5 => have := HB6.out.size; simp; omega
            intro v' w1 hown' hgrow _
            have HO7 : Hid (w1.ownsRow WW.heap.size 5 1 v' (((l.take 1).drop j).reverse.map (48 + ·)).length (u8s (((l.take 1).drop j).reverse.map (48 + ·)))) := Lib.hid (by rw [HDR.out]; simpa [u8s] using hown')
            have HB7 : Hid (Below WW.heap.size WW w1) := Lib.hid (append8_below HB6.out HO6.out HB6.out.size hgrow)
            clear hown' hgrow
            go_wp2_with fail
            go_roundw
            case rel => exact ⟨j, by go_num, by omega, by first | exact HO7.out | simpa using HO7.out, HB7.out⟩
            case measure => simp [intOf] <;> omega
end Go.Proofs.YtgoaakdopbielaaDoor
namespace Go.Proofs.YtgoaakdopbielaaDoor
open Go.RowKit Go.Shelf
set_option linter.unusedSimpArgs false
set_option linter.unusedVariables false
set_option linter.unusedSectionVars false

/-! Layer 9, the document's own: figures of numbers. -/
/-- A number without a sign, written. -/
def digB (n : Nat) : ByteArray := ⟨(Lib.decDigits n).toArray⟩
theorem digB_list (n : Nat) : (digB n).data.toList = Lib.decDigits n := rfl
theorem digB_size (n : Nat) : (digB n).size = (Lib.decDigits n).length := by simp [digB, ByteArray.size]
theorem digB_pos (n : Nat) : 1 ≤ (digB n).size := by rw [digB_size]; exact List.length_pos_iff.mpr (dec_ne n)
theorem digB_le {n k : Nat} (h : n < 10 ^ (k + 1)) : (digB n).size ≤ k + 1 := by rw [digB_size]; exact dec_len_le k n h
theorem digB_lt (n : Nat) : n < 10 ^ (digB n).size := by
  have := undec_lt (Lib.decDigits n) (dec_plain n).2.1
  rwa [undec_dec, ← digB_size] at this
theorem digB_inj {m n : Nat} (h : digB m = digB n) : m = n := dec_inj (by rw [← digB_list, ← digB_list, h])
/-- A figure, counted from the lowest. -/
def dgt (a i : Nat) : Nat := a / 10 ^ i % 10
theorem dgt_lt (a i : Nat) : dgt a i < 10 := Nat.mod_lt _ (by decide)
theorem dgt_zero {a i : Nat} (h : a < 10 ^ i) : dgt a i = 0 := by unfold dgt; rw [Nat.div_eq_of_lt h]
theorem dgt_step (a i : Nat) : a % 10 ^ (i + 1) = a % 10 ^ i + 10 ^ i * dgt a i := Nat.mod_pow_succ
theorem undec_app (l m : List UInt8) : undec (l ++ m) = undec l * 10 ^ m.length + undec m := by
  induction l with
  | nil => rw [List.nil_append, show undec [] = 0 from rfl, Nat.zero_mul, Nat.zero_add]
  | cons x r ih =>
    rw [List.cons_append, undec_cons, undec_cons, ih, List.length_append, Nat.pow_add, Nat.add_mul, Nat.mul_assoc]
    omega
theorem undec_dgt (l : List UInt8) (h : l.all isF = true) (i j : Nat) (x : UInt8) (hij : i + j + 1 = l.length) (hx : l[j]? = some x) : dgt (undec l) i = x.toNat - 48 ∧ 48 ≤ x.toNat := by
  have hj : j < l.length := by omega
  have hxe := (List.getElem?_eq_some_iff.mp hx).2
  have hs : l = l.take j ++ (x :: l.drop (j + 1)) := by
    rw [← hxe, ← List.drop_eq_getElem_cons hj, List.take_append_drop]
  have hxf : isF x = true := List.all_eq_true.mp h x (List.mem_of_getElem? hx)
  have hq : (l.drop (j + 1)).all isF = true := List.all_eq_true.mpr fun y hy => List.all_eq_true.mp h y (List.mem_of_mem_drop hy)
  have hql : (l.drop (j + 1)).length = i := by rw [List.length_drop]; omega
  have hlt := undec_lt _ hq
  obtain ⟨_, h10, h48, _⟩ := fig_back x hxf
  refine ⟨?_, h48⟩
  unfold dgt
  rw [hs, undec_app, undec_cons, List.length_cons, hql]
  rw [hql] at hlt
  generalize undec (l.take j) = P
  generalize undec (l.drop (j + 1)) = Q at *
  generalize hd : x.toNat - 48 = d at *
  have e : P * 10 ^ (i + 1) + (d * 10 ^ i + Q) = Q + (P * 10 + d) * 10 ^ i := by
    rw [Nat.pow_succ, Nat.add_mul, Nat.mul_assoc P 10, Nat.mul_comm 10 (10 ^ i)]
    omega
  rw [e, Nat.add_mul_div_right _ _ (Nat.pow_pos (by decide)), Nat.div_eq_of_lt hlt]
  omega
theorem rat_v (a i : Nat) (w : World) (h : (digB a).size ≤ 1000) : Calls Tryd.prog 75 #[.string (digB a), .int .i64 i] w fun e w' => e = .returned (.int .i64 (dgt a i : Int)) ∧ w' = w := by
  by_cases hi : (digB a).size ≤ i
  · rw [dgt_zero (Nat.lt_of_lt_of_le (digB_lt a) (Nat.pow_le_pow_right (by decide) hi))]
    exact rat_past (digB a) i w hi
  · obtain ⟨j, hj⟩ : ∃ j, i + j + 1 = (digB a).size := ⟨(digB a).size - 1 - i, by omega⟩
    have hjl : i + j + 1 = (Lib.decDigits a).length := by rw [hj, digB_size]
    have hjj : j < (Lib.decDigits a).length := by omega
    have hx : (Lib.decDigits a)[j]? = some (Lib.decDigits a)[j] := List.getElem?_eq_getElem hjj
    have h1 := undec_dgt _ (dec_plain a).2.1 i j _ hjl hx
    have hb : byteN (digB a) j = (Lib.decDigits a)[j].toNat := by
      unfold byteN
      rw [digB_list, List.getD_eq_getElem?_getD, hx]; rfl
    rw [undec_dec] at h1
    have := rat_in (digB a) i j w hj h (by rw [hb]; exact h1.2)
    rw [hb, ← h1.1] at this
    exact this
theorem rbelow_nn (a b : Nat) (w : World) : Calls Tryd.prog 39 #[.string (digB a), .string (digB b)] w fun e w' => e = .returned (.bool (decide (a < b))) ∧ w' = w := by
  have h := belowB_iff _ _ (dec_plain a) (dec_plain b)
  rw [undec_dec, undec_dec] at h
  have h2 : belowB (Lib.decDigits a) (Lib.decDigits b) = decide (a < b) := by
    by_cases hlt : a < b
    · rw [h.mpr hlt, decide_eq_true hlt]
    · rw [decide_eq_false hlt, ← Bool.not_eq_true, h]; exact hlt
  have := rbelow_v (digB a) (digB b) w
  rw [digB_list, digB_list, h2] at this
  exact this
/-! What a row of figures is worth. -/
theorem valD_lt : ∀ (l : List Nat), (∀ x ∈ l, x < 10) → valD l < 10 ^ l.length
  | [], _ => by simp [valD]
  | x :: r, h => by
    have h1 := valD_lt r (fun y hy => h y (by simp [hy]))
    have h2 := h x (by simp)
    rw [valD, List.length_cons, Nat.pow_succ]
    omega
theorem valD_set : ∀ (l : List Nat) (j x y : Nat), l[j]? = some x → valD (l.set j y) + 10 ^ j * x = valD l + 10 ^ j * y
  | [], _, _, _, h => by simp at h
  | z :: r, 0, x, y, h => by
    have : z = x := by simpa using h
    subst this
    rw [List.set_cons_zero, valD, valD]
    omega
  | z :: r, j + 1, x, y, h => by
    have h1 := valD_set r j x y (by simpa using h)
    rw [List.set_cons_succ, valD, valD, Nat.pow_succ, Nat.mul_comm (10 ^ j) 10, Nat.mul_assoc, Nat.mul_assoc]
    omega
def figs (l : List Nat) : Prop := ∀ x ∈ l, x < 10
theorem figs_snoc {l : List Nat} {x : Nat} (h : figs l) (hx : x < 10) : figs (l ++ [x]) := by
  intro y hy
  rcases List.mem_append.mp hy with hy | hy
  · exact h y hy
  · rw [List.mem_singleton.mp hy]; exact hx
/-- The sum so far. -/
def addI (a b : Nat) (l : List Nat) (c : Nat) : Prop := figs l ∧ c ≤ 1 ∧ valD l + c * 10 ^ l.length = a % 10 ^ l.length + b % 10 ^ l.length
theorem addI_nil (a b : Nat) : addI a b [] 0 := ⟨fun x hx => (by simp at hx), by decide, by simp [valD, Nat.mod_one]⟩
theorem addI_step {a b c : Nat} {l : List Nat} (h : addI a b l c) : addI a b (l ++ [(dgt a l.length + dgt b l.length + c) % 10]) ((dgt a l.length + dgt b l.length + c) / 10) := by
  obtain ⟨h1, h2, h3⟩ := h
  have d1 := dgt_lt a l.length
  have d2 := dgt_lt b l.length
  refine ⟨figs_snoc h1 (by omega), by omega, ?_⟩
  rw [valD_snoc, List.length_append, List.length_cons, List.length_nil, Nat.zero_add, dgt_step, dgt_step, Nat.pow_succ]
  generalize dgt a l.length = x at *
  generalize dgt b l.length = y at *
  generalize 10 ^ l.length = P at *
  generalize a % P = A at *
  generalize b % P = B at *
  generalize valD l = V at *
  have e : P * ((x + y + c) % 10) + (x + y + c) / 10 * (P * 10) = P * (x + y + c) := by
    rw [Nat.mul_comm ((x + y + c) / 10), Nat.mul_assoc, ← Nat.mul_add, Nat.mod_add_div]
  have e2 : P * (x + y + c) = P * x + P * y + c * P := by rw [Nat.mul_add, Nat.mul_add, Nat.mul_comm P c]
  omega
theorem addI_end {a b c m : Nat} {l : List Nat} (h : addI a b l c) (hm : l.length = m + 1) (ha : a < 10 ^ m) (hb : b < 10 ^ m) : valD l = a + b := by
  obtain ⟨h1, h2, h3⟩ := h
  rw [hm, Nat.pow_succ] at h3
  generalize 10 ^ m = P at *
  rw [Nat.mod_eq_of_lt (show a < P * 10 by omega), Nat.mod_eq_of_lt (show b < P * 10 by omega)] at h3
  have : c = 0 ∨ c = 1 := by omega
  rcases this with rfl | rfl <;> omega
/-- The difference so far. -/
def takI (a b : Nat) (l : List Nat) (c : Nat) : Prop := figs l ∧ c ≤ 1 ∧ valD l + b % 10 ^ l.length = a % 10 ^ l.length + c * 10 ^ l.length
theorem takI_nil (a b : Nat) : takI a b [] 0 := ⟨fun x hx => (by simp at hx), by decide, by simp [valD, Nat.mod_one]⟩
theorem takI_ge {a b c : Nat} {l : List Nat} (h : takI a b l c) (hx : dgt b l.length + c ≤ dgt a l.length) : takI a b (l ++ [dgt a l.length - dgt b l.length - c]) 0 := by
  obtain ⟨h1, h2, h3⟩ := h
  have d1 := dgt_lt a l.length
  have d2 := dgt_lt b l.length
  refine ⟨figs_snoc h1 (by omega), by omega, ?_⟩
  rw [valD_snoc, List.length_append, List.length_cons, List.length_nil, Nat.zero_add, dgt_step, dgt_step, Nat.pow_succ]
  generalize dgt a l.length = x at *
  generalize dgt b l.length = y at *
  generalize 10 ^ l.length = P at *
  generalize a % P = A at *
  generalize b % P = B at *
  generalize valD l = V at *
  obtain ⟨z, rfl⟩ : ∃ z, x = z + y + c := ⟨x - y - c, by omega⟩
  rw [show z + y + c - y - c = z by omega]
  have e2 : P * (z + y + c) = P * z + P * y + c * P := by rw [Nat.mul_add, Nat.mul_add, Nat.mul_comm P c]
  omega
theorem takI_lt {a b c : Nat} {l : List Nat} (h : takI a b l c) (hx : dgt a l.length < dgt b l.length + c) : takI a b (l ++ [dgt a l.length + 10 - dgt b l.length - c]) 1 := by
  obtain ⟨h1, h2, h3⟩ := h
  have d1 := dgt_lt a l.length
  have d2 := dgt_lt b l.length
  refine ⟨figs_snoc h1 (by omega), by omega, ?_⟩
  rw [valD_snoc, List.length_append, List.length_cons, List.length_nil, Nat.zero_add, dgt_step, dgt_step, Nat.pow_succ]
  generalize dgt a l.length = x at *
  generalize dgt b l.length = y at *
  generalize 10 ^ l.length = P at *
  generalize a % P = A at *
  generalize b % P = B at *
  generalize valD l = V at *
  obtain ⟨z, hz⟩ : ∃ z, x + 10 = z + y + c := ⟨x + 10 - y - c, by omega⟩
  rw [show x + 10 - y - c = z by omega]
  have e2 : P * (z + y + c) = P * z + P * y + c * P := by rw [Nat.mul_add, Nat.mul_add, Nat.mul_comm P c]
  have e3 : P * (x + 10) = P * x + P * 10 := Nat.mul_add ..
  rw [hz] at e3
  omega
theorem takI_end {a b c m : Nat} {l : List Nat} (h : takI a b l c) (hm : l.length = m) (ha : a < 10 ^ m) (hba : b ≤ a) : valD l = a - b := by
  obtain ⟨h1, h2, h3⟩ := h
  have h4 := valD_lt l h1
  rw [hm] at h3 h4
  generalize 10 ^ m = P at *
  rw [Nat.mod_eq_of_lt (show a < P by omega), Nat.mod_eq_of_lt (show b < P by omega)] at h3
  have : c = 0 ∨ c = 1 := by omega
  rcases this with rfl | rfl <;> omega
/-- The product so far: of the lower figures of a by b, and of a figure of a by the lower ones of b. -/
def timI (a b i k : Nat) (l : List Nat) (c : Nat) : Prop := figs l ∧ c ≤ 9 ∧ valD l + c * 10 ^ (i + k) = a % 10 ^ i * b + dgt a i * (b % 10 ^ k) * 10 ^ i
theorem timI_start {a b i : Nat} {l : List Nat} (hf : figs l) (h : valD l = a % 10 ^ i * b) : timI a b i 0 l 0 := ⟨hf, by decide, by rw [h]; simp [Nat.mod_one]⟩
theorem timI_step {a b i k c x : Nat} {l : List Nat} (h : timI a b i k l c) (hx : l[i + k]? = some x) :
    timI a b i (k + 1) (l.set (i + k) ((x + dgt a i * dgt b k + c) % 10)) ((x + dgt a i * dgt b k + c) / 10) ∧ x + dgt a i * dgt b k + c ≤ 99 := by
  obtain ⟨h1, h2, h3⟩ := h
  have d1 := dgt_lt a i
  have d2 := dgt_lt b k
  have hx10 : x < 10 := h1 x (List.mem_of_getElem? hx)
  have hm : dgt a i * dgt b k ≤ 9 * 9 := Nat.mul_le_mul (by omega) (by omega)
  have hn : x + dgt a i * dgt b k + c ≤ 99 := by omega
  refine ⟨⟨?_, by omega, ?_⟩, hn⟩
  · intro y hy
    rcases List.mem_or_eq_of_mem_set hy with hy | rfl
    · exact h1 y hy
    · omega
  have hs := valD_set l (i + k) x ((x + dgt a i * dgt b k + c) % 10) hx
  rw [dgt_step, ← Nat.add_assoc, Nat.pow_succ, Nat.mul_add, Nat.add_mul]
  generalize hw : valD (l.set (i + k) ((x + dgt a i * dgt b k + c) % 10)) = W at *
  clear hw
  have e0 : dgt a i * (10 ^ k * dgt b k) * 10 ^ i = 10 ^ (i + k) * (dgt a i * dgt b k) := by
    rw [Nat.pow_add, Nat.mul_comm (10 ^ k), ← Nat.mul_assoc, Nat.mul_assoc, Nat.mul_comm, Nat.mul_comm (10 ^ k)]
  rw [e0]
  generalize dgt a i * dgt b k = y at *
  generalize 10 ^ (i + k) = P at *
  generalize valD l = V at *
  generalize dgt a i * (b % 10 ^ k) * 10 ^ i = Q at *
  generalize a % 10 ^ i * b = R at *
  have e : P * ((x + y + c) % 10) + (x + y + c) / 10 * (P * 10) = P * (x + y + c) := by
    rw [Nat.mul_comm ((x + y + c) / 10), Nat.mul_assoc, ← Nat.mul_add, Nat.mod_add_div]
  have e2 : P * (x + y + c) = P * x + P * y + c * P := by rw [Nat.mul_add, Nat.mul_add, Nat.mul_comm P c]
  omega
theorem timI_end {a b i m c : Nat} {l : List Nat} (h : timI a b i (m + 1) l c) (hb : b < 10 ^ m) : valD l = a % 10 ^ (i + 1) * b := by
  obtain ⟨h1, h2, h3⟩ := h
  have hb1 : b % 10 ^ (m + 1) = b := Nat.mod_eq_of_lt (by rw [Nat.pow_succ]; omega)
  rw [hb1] at h3
  have e : a % 10 ^ i * b + dgt a i * b * 10 ^ i = a % 10 ^ (i + 1) * b := by
    rw [dgt_step, Nat.add_mul, Nat.mul_comm (10 ^ i) (dgt a i), Nat.mul_assoc, Nat.mul_assoc, Nat.mul_comm (10 ^ i) b]
  rw [e] at h3
  have h4 : a % 10 ^ (i + 1) * b < 10 ^ (i + 1) * 10 ^ m := by
    have hp : a % 10 ^ (i + 1) < 10 ^ (i + 1) := Nat.mod_lt _ (Nat.pow_pos (by decide))
    exact Nat.lt_of_le_of_lt (Nat.mul_le_mul_right b (Nat.le_of_lt hp)) (Nat.mul_lt_mul_of_pos_left hb (Nat.pow_pos (by decide)))
  rw [← Nat.pow_add, show i + 1 + m = i + (m + 1) by omega] at h4
  cases c with
  | zero => omega
  | succ c =>
    have : 1 * 10 ^ (i + (m + 1)) ≤ (c + 1) * 10 ^ (i + (m + 1)) := Nat.mul_le_mul_right _ (by omega)
    omega
end Go.Proofs.YtgoaakdopbielaaDoor
namespace Go.Proofs.YtgoaakdopbielaaDoor
open Go.RowKit Go.Shelf
set_option linter.unusedSimpArgs false
set_option linter.unusedVariables false
set_option linter.unusedSectionVars false

/-! Layer 9, the document's own: the sum of amounts. -/
set_option maxRecDepth 100000 in
set_option maxHeartbeats 3200000 in
theorem radd_v (a b : Nat) (w : World) (ha : (digB a).size ≤ 600) (hb : (digB b).size ≤ 600) :
    Calls Tryd.prog 54 #[.string (digB a), .string (digB b)] w fun e w' => e = .returned (.string (digB (a + b))) ∧ Below w.heap.size w w' := by
  obtain ⟨i0, hi0, hz0, hz1, hz2⟩ := info_parts info64
  have HA := Lib.hid (fun i w => rat_v a i w (by omega))
  have HB := Lib.hid (fun i w => rat_v b i w (by omega))
  obtain ⟨M, hM⟩ : ∃ M, max (digB a).size (digB b).size = M := ⟨_, rfl⟩
  have HR : Hid (∀ (l : List Nat) c, addI a b l c → l.length = M + 1 → valD l = a + b) := Lib.hid (fun l c h hl => addI_end h hl
    (Nat.lt_of_lt_of_le (digB_lt a) (Nat.pow_le_pow_right (by decide) (by omega))) (Nat.lt_of_lt_of_le (digB_lt b) (Nat.pow_le_pow_right (by decide) (by omega))))
  have HP := Lib.hid (fun (v : Value) (l : List Nat) (W : World) (hv : W.ownsRow w.heap.size 3 1 v l.length (i64s l)) (hl : ∀ x ∈ l, x < 10) (h1 : 1 ≤ l.length) (h2 : l.length ≤ 2000) => rplain_v w.heap.size v l W hv hl h1 h2)
  have hmax : max ((digB a).size : Int) ((digB b).size : Int) = (M : Int) := by omega
  have hM2 : M ≤ 600 := by omega
  have hN : Hid (digB (a + b) = ⟨(Lib.decDigits (a + b)).toArray⟩) := Lib.hid rfl
  generalize digB (a + b) = T at *
  generalize digB a = A at *
  generalize digB b = B at *
  clear hM ha hb
  go_enter Tryd.func54, Tryd.ntmps54
  go_wp2_with fail
  go_loopw [5, 6, 7] (fun lv cv iv wr => ∃ (l : List Nat) (c : Nat), iv = .int .i64 (l.length : Int) ∧ cv = .int .i64 c ∧ l.length ≤ M + 1 ∧ addI a b l c ∧ wr.ownsRow w.heap.size 3 1 lv l.length (i64s l) ∧ Below w.heap.size w wr) (fun _ _ iv _ => M + 1 - (intOf iv).toNat)
  case atStart => exact ⟨[], 0, rfl, rfl, by simp, addI_nil a b, World.ownsRow_nil _ _ _ _, Below.refl _ _⟩
  case round =>
    obtain ⟨l, c, rfl, rfl, hll, hI, hown, hbl⟩ := hrel
    have HI := Lib.hid hI
    have HO := Lib.hid hown
    have HW := Lib.hid hbl
    have hc1 := hI.2.1
    clear hI hown hbl
    by_cases hlt : l.length ≤ M
    · have hlti : (l.length : Int) ≤ (M : Int) := by omega
      have HS := Lib.hid (addI_step HI.out)
      have dx := dgt_lt a l.length
      have dy := dgt_lt b l.length
      have ra := fun w => HA.out l.length w
      have rb := fun w => HB.out l.length w
      generalize dgt a l.length = x at *
      generalize dgt b l.length = y at *
      obtain ⟨s, hs⟩ : ∃ s, x + y + c = s := ⟨_, rfl⟩
      have hs1 : (x : Int) + (y : Int) + (c : Int) = (s : Int) := by omega
      have q1 : IntKind.i64.wrap ((x : Int) + (y : Int)) = (x : Int) + (y : Int) := IntWalk.i64_in _ (by omega)
      have ht1 : (s : Int).tmod 10 = ((s % 10 : Nat) : Int) := by rw [Int.tmod_eq_emod_of_nonneg (by omega)]; omega
      have ht2 : (s : Int).tdiv 10 = ((s / 10 : Nat) : Int) := by rw [Int.tdiv_eq_ediv_of_nonneg (by omega)]; omega
      have hs20 : s ≤ 20 := by omega
      rw [hs] at HS
      obtain ⟨r, hr⟩ : ∃ r, s % 10 = r := ⟨_, rfl⟩
      obtain ⟨d, hd⟩ : ∃ d, s / 10 = d := ⟨_, rfl⟩
      have hr10 : r < 10 := by omega
      have hd10 : d < 10 := by omega
      rw [hr] at ht1 HS
      rw [hd] at ht2 HS
      have HRA := Lib.hid ra
      have HRB := Lib.hid rb
      clear ra rb hs hr hd
      go_wp2_with (first
        | (go_at_call 75; with_reducible refine Calls.mono (HRA.out _) ?_; rintro e w2 ⟨rfl, hw2⟩; replace hw2 := hw2.symm; subst hw2)
        | (go_at_call 75; with_reducible refine Calls.mono (HRB.out _) ?_; rintro e w2 ⟨rfl, hw2⟩; replace hw2 := hw2.symm; subst hw2)
        | (at_builtin; refine wpList_append_own _ rfl _ _ 41 rfl w.heap.size 3 i0 (.int .i64 0) 1 8 Tryd.underlying41 hi0 hz0 hz1 hz2 rfl (by decide) _ _ _ rfl (HO.out.alloc _) ⟨wr.heap.size, 0, none⟩ 1 1 [.int .i64 (r : Int)] rfl rfl newsN ?c2 ?c3 ?c4 ?c5 ?_))
      case c2 => intro u hu; simp at hu; subst hu; rfl
      case c3 => unfold maxLen; omega
      case c4 => omega
      case c5 => have := HW.out.size; simp; omega
      intro v' w1 hown' hgrow _
      have HO4 : Hid (w1.ownsRow w.heap.size 3 1 v' (l ++ [r]).length (i64s (l ++ [r]))) := Lib.hid (by simpa [i64s] using hown')
      have HB4 : Hid (Below w.heap.size w w1) := Lib.hid (append64_below HW.out HO.out (by have := HW.out.size; omega) hgrow)
      clear hown' hgrow
      go_wp2_with fail
      go_roundw
      case rel => exact ⟨l ++ [r], d, by first | (simp; done) | go_num, rfl, by simp; omega, HS.out, HO4.out, HB4.out⟩
      case measure => simp [intOf]; omega
    · have hle : l.length = M + 1 := by omega
      have hlti : ¬ (l.length : Int) ≤ (M : Int) := by omega
      have hp := HP.out _ l wr HO.out HI.out.1 (by omega) (by omega)
      rw [HR.out l c HI.out hle, ← hN.out] at hp
      have HPP := Lib.hid hp
      clear hp
      go_wp2_with (go_at_call 76; with_reducible refine Calls.mono HPP.out ?_; rintro e w2 ⟨rfl, hb2⟩; have HB2 := Lib.hid (HW.out.trans (hb2.mono HW.out.size)); clear hb2)
      go_ret
      exact ⟨by first | rfl | simp, HB2.out⟩
end Go.Proofs.YtgoaakdopbielaaDoor
namespace Go.Proofs.YtgoaakdopbielaaDoor
open Go.RowKit Go.Shelf
set_option linter.unusedSimpArgs false
set_option linter.unusedVariables false
set_option linter.unusedSectionVars false

/-! Layer 9, the document's own: the difference of amounts. -/
set_option maxRecDepth 100000 in
set_option maxHeartbeats 3200000 in
theorem rtake_v (a b : Nat) (w : World) (ha : (digB a).size ≤ 600) (hb : (digB b).size ≤ 600) (hba : b ≤ a) :
    Calls Tryd.prog 55 #[.string (digB a), .string (digB b)] w fun e w' => e = .returned (.string (digB (a - b))) ∧ Below w.heap.size w w' := by
  obtain ⟨i0, hi0, hz0, hz1, hz2⟩ := info_parts info64
  have HA := Lib.hid (fun i w => rat_v a i w (by omega))
  have HB := Lib.hid (fun i w => rat_v b i w (by omega))
  have hpos := digB_pos a
  obtain ⟨M, hM⟩ : ∃ M, (digB a).size = M := ⟨_, rfl⟩
  have HR : Hid (∀ (l : List Nat) c, takI a b l c → l.length = M → valD l = a - b) := Lib.hid (fun l c h hl => takI_end h hl (by rw [← hM]; exact digB_lt a) hba)
  have HP := Lib.hid (fun (v : Value) (l : List Nat) (W : World) (hv : W.ownsRow w.heap.size 3 1 v l.length (i64s l)) (hl : ∀ x ∈ l, x < 10) (h1 : 1 ≤ l.length) (h2 : l.length ≤ 2000) => rplain_v w.heap.size v l W hv hl h1 h2)
  have hM2 : M ≤ 600 := by omega
  have hN : Hid (digB (a - b) = ⟨(Lib.decDigits (a - b)).toArray⟩) := Lib.hid rfl
  generalize digB (a - b) = T at *
  generalize digB a = A at *
  generalize digB b = B at *
  have hMi : (A.size : Int) = (M : Int) := by omega
  clear ha hb hba
  go_enter Tryd.func55, Tryd.ntmps55
  go_wp2_with fail
  go_loopw [5, 6, 7] (fun lv cv iv wr => ∃ (l : List Nat) (c : Nat), iv = .int .i64 (l.length : Int) ∧ cv = .int .i64 c ∧ l.length ≤ M ∧ takI a b l c ∧ wr.ownsRow w.heap.size 3 1 lv l.length (i64s l) ∧ Below w.heap.size w wr) (fun _ _ iv _ => M - (intOf iv).toNat)
  case atStart => exact ⟨[], 0, rfl, rfl, by simp, takI_nil a b, World.ownsRow_nil _ _ _ _, Below.refl _ _⟩
  case round =>
    obtain ⟨l, c, rfl, rfl, hll, hI, hown, hbl⟩ := hrel
    have HI := Lib.hid hI
    have HO := Lib.hid hown
    have HW := Lib.hid hbl
    have hc1 := hI.2.1
    clear hI hown hbl
    by_cases hlt : l.length < M
    · have hlti : (l.length : Int) < (A.size : Int) := by omega
      have HS1 := Lib.hid (takI_ge HI.out)
      have HS2 := Lib.hid (takI_lt HI.out)
      have dx := dgt_lt a l.length
      have dy := dgt_lt b l.length
      have ra := fun w => HA.out l.length w
      have rb := fun w => HB.out l.length w
      generalize dgt a l.length = x at *
      generalize dgt b l.length = y at *
      have HRA := Lib.hid ra
      have HRB := Lib.hid rb
      clear ra rb
      have q1 : IntKind.i64.wrap ((x : Int) - (y : Int)) = (x : Int) - (y : Int) := IntWalk.i64_in _ (by omega)
      have q2 : IntKind.i64.wrap ((x : Int) - (y : Int) - (c : Int)) = (x : Int) - (y : Int) - (c : Int) := IntWalk.i64_in _ (by omega)
      by_cases hge : y + c ≤ x
      · have hn : ¬ ((x : Int) - (y : Int) - (c : Int) < 0) := by omega
        have HS : Hid (takI a b (l ++ [x - y - c]) 0) := Lib.hid (HS1.out hge)
        have hr : (x : Int) - (y : Int) - (c : Int) = ((x - y - c : Nat) : Int) := by omega
        have hr9 : x - y - c < 10 := by omega
        generalize x - y - c = r at *
        clear HS1 HS2 hge
        go_wp2_with (first
          | (go_at_call 75; with_reducible refine Calls.mono (HRA.out _) ?_; rintro e w2 ⟨rfl, hw2⟩; replace hw2 := hw2.symm; subst hw2)
          | (go_at_call 75; with_reducible refine Calls.mono (HRB.out _) ?_; rintro e w2 ⟨rfl, hw2⟩; replace hw2 := hw2.symm; subst hw2)
          | (at_builtin; refine wpList_append_own _ rfl _ _ 41 rfl w.heap.size 3 i0 (.int .i64 0) 1 8 Tryd.underlying41 hi0 hz0 hz1 hz2 rfl (by decide) _ _ _ rfl (HO.out.alloc _) ⟨wr.heap.size, 0, none⟩ 1 1 [.int .i64 (r : Int)] rfl rfl newsN ?c2 ?c3 ?c4 ?c5 ?_))
        case c2 => intro u hu; simp at hu; subst hu; rfl
        case c3 => unfold maxLen; omega
        case c4 => omega
        case c5 => have := HW.out.size; simp; omega
        intro v' w1 hown' hgrow _
        have HO4 : Hid (w1.ownsRow w.heap.size 3 1 v' (l ++ [r]).length (i64s (l ++ [r]))) := Lib.hid (by simpa [i64s] using hown')
        have HB4 : Hid (Below w.heap.size w w1) := Lib.hid (append64_below HW.out HO.out (by have := HW.out.size; omega) hgrow)
        clear hown' hgrow
        go_wp2_with fail
        go_roundw
        case rel => exact ⟨l ++ [r], 0, by first | (simp; done) | go_num, rfl, by simp; omega, HS.out, HO4.out, HB4.out⟩
        case measure => simp [intOf]; omega
      · have hn : ((x : Int) - (y : Int) - (c : Int) < 0) := by omega
        have HS : Hid (takI a b (l ++ [x + 10 - y - c]) 1) := Lib.hid (HS2.out (by omega))
        have hr : (x : Int) - (y : Int) - (c : Int) + 10 = ((x + 10 - y - c : Nat) : Int) := by omega
        have hr9 : x + 10 - y - c < 10 := by omega
        generalize x + 10 - y - c = r at *
        clear HS1 HS2 hge
        go_wp2_with (first
          | (go_at_call 75; with_reducible refine Calls.mono (HRA.out _) ?_; rintro e w2 ⟨rfl, hw2⟩; replace hw2 := hw2.symm; subst hw2)
          | (go_at_call 75; with_reducible refine Calls.mono (HRB.out _) ?_; rintro e w2 ⟨rfl, hw2⟩; replace hw2 := hw2.symm; subst hw2)
          | (at_builtin; refine wpList_append_own _ rfl _ _ 41 rfl w.heap.size 3 i0 (.int .i64 0) 1 8 Tryd.underlying41 hi0 hz0 hz1 hz2 rfl (by decide) _ _ _ rfl (HO.out.alloc _) ⟨wr.heap.size, 0, none⟩ 1 1 [.int .i64 (r : Int)] rfl rfl newsN ?c2 ?c3 ?c4 ?c5 ?_))
        case c2 => intro u hu; simp at hu; subst hu; rfl
        case c3 => unfold maxLen; omega
        case c4 => omega
        case c5 => have := HW.out.size; simp; omega
        intro v' w1 hown' hgrow _
        have HO4 : Hid (w1.ownsRow w.heap.size 3 1 v' (l ++ [r]).length (i64s (l ++ [r]))) := Lib.hid (by simpa [i64s] using hown')
        have HB4 : Hid (Below w.heap.size w w1) := Lib.hid (append64_below HW.out HO.out (by have := HW.out.size; omega) hgrow)
        clear hown' hgrow
        go_wp2_with fail
        go_roundw
        case rel => exact ⟨l ++ [r], 1, by first | (simp; done) | go_num, rfl, by simp; omega, HS.out, HO4.out, HB4.out⟩
        case measure => simp [intOf]; omega
    · have hle : l.length = M := by omega
      have hlti : ¬ (l.length : Int) < (A.size : Int) := by omega
      have hp := HP.out _ l wr HO.out HI.out.1 (by omega) (by omega)
      rw [HR.out l c HI.out hle, ← hN.out] at hp
      have HPP := Lib.hid hp
      clear hp
      go_wp2_with (go_at_call 76; with_reducible refine Calls.mono HPP.out ?_; rintro e w2 ⟨rfl, hb2⟩; have HB2 := Lib.hid (HW.out.trans (hb2.mono HW.out.size)); clear hb2)
      go_ret
      exact ⟨by first | rfl | simp, HB2.out⟩
end Go.Proofs.YtgoaakdopbielaaDoor
namespace Go.Proofs.YtgoaakdopbielaaDoor
open Go.RowKit Go.Shelf
set_option linter.unusedSimpArgs false
set_option linter.unusedVariables false
set_option linter.unusedSectionVars false

/-! Layer 9, the document's own: the limit, signs, which texts are numbers. -/
def pw (k : Nat) : Nat := 2 ^ k
theorem pw_lim : pw 512 = LIM := rfl
theorem pw_step (k : Nat) : pw k + pw k = pw (k + 1) := by unfold pw; rw [Nat.pow_succ]; omega
theorem lim_lt : LIM < 10 ^ 155 := by
  have := undec_lt limL lim_plain.2.1
  rwa [lim_undec, lim_len] at this
theorem pw_mono {i j : Nat} (h : i ≤ j) : pw i ≤ pw j := Nat.pow_le_pow_right (by decide) h
theorem pw_le {k : Nat} (h : k ≤ 512) : pw k ≤ LIM := by rw [← pw_lim]; exact pw_mono h
theorem pw_size {k : Nat} (h : k ≤ 512) : (digB (pw k)).size ≤ 155 := digB_le (k := 154) (Nat.lt_of_le_of_lt (pw_le h) lim_lt)
theorem one_dec : (⟨#[49]⟩ : ByteArray) = digB (pw 0) := by decide +kernel
set_option maxRecDepth 100000 in
set_option maxHeartbeats 1600000 in
theorem rlimit_v (w : World) : Calls Tryd.prog 44 #[] w fun e w' => e = .returned (.string (digB LIM)) ∧ Below w.heap.size w w' := by
  have HS := Lib.hid (fun k (h : k ≤ 512) w => radd_v (pw k) (pw k) w (by have := pw_size h; omega) (by have := pw_size h; omega))
  have H0 := Lib.hid one_dec
  have HF : Hid (∀ k, k = 512 → digB (pw k) = digB LIM) := Lib.hid (fun k h => by rw [h, pw_lim])
  generalize digB LIM = T at *
  go_enter Tryd.func44, Tryd.ntmps44
  go_wp2_with fail
  go_loopw [1, 2] (fun sv iv wr => ∃ k : Nat, iv = .int .i64 k ∧ k ≤ 512 ∧ sv = .string (digB (pw k)) ∧ Below w.heap.size w wr) (fun _ iv _ => 512 - (intOf iv).toNat)
  case atStart => exact ⟨0, rfl, by decide, by rw [← H0.out], Below.refl _ _⟩
  case round =>
    obtain ⟨k, rfl, hk, rfl, hbl⟩ := hrel
    have HB := Lib.hid hbl
    clear hbl
    by_cases hlt : k < 512
    · have hlti : (k : Int) < 512 := by omega
      have ha := HS.out k hk wr
      rw [pw_step] at ha
      have HA := Lib.hid ha
      clear ha
      generalize digB (pw k) = A at *
      generalize hQ : digB (pw (k + 1)) = Q at *
      have HQ := Lib.hid hQ
      clear hQ
      go_wp2_with (go_at_call 54; with_reducible refine Calls.mono HA.out ?_; rintro e w2 ⟨rfl, hb2⟩; have HB2 := Lib.hid (HB.out.trans (hb2.mono HB.out.size)); clear hb2)
      go_roundw
      case rel => exact ⟨k + 1, by go_num, by omega, by rw [HQ.out], HB2.out⟩
      case measure => simp [intOf]; omega
    · have hke : k = 512 := by omega
      have hlti : ¬ (k : Int) < 512 := by omega
      have hT := HF.out k hke
      rw [hT]
      clear hT
      go_wp2_with fail
      go_ret
      exact ⟨by first | rfl | simp, HB.out⟩
/-- With a sign. -/
def sgn (m : Bool) (n : Nat) : Int := if m = true then -(n : Int) else n
theorem sg_neg {n : Nat} (h : n ≠ 0) : (⟨#[45]⟩ : ByteArray) ++ digB n = nB (sgn true n) := by
  apply ByteArray.ext
  apply Array.toList_inj.1
  unfold nB sgn
  rw [if_pos rfl, Lib.itoa_neg _ (by omega), ByteArray.data_append]
  simp [digB]
theorem sg_pos (n : Nat) : digB n = nB (sgn false n) := by
  unfold nB sgn digB
  rw [if_neg (by decide), Lib.itoa_nonneg]
theorem sg_zero (m : Bool) : digB 0 = nB (sgn m 0) := by cases m <;> decide +kernel
theorem dec_zero_iff (n : Nat) : ((digB n).toList == [48]) = decide (n = 0) := by
  rw [Lib.toList_data, digB_list]
  by_cases h : n = 0
  · subst h; decide +kernel
  · rw [decide_eq_false h, beq_eq_false_iff_ne]
    intro h2
    have := congrArg undec h2
    rw [undec_dec] at this
    exact h this
set_option maxHeartbeats 1600000 in
theorem rsigned_v (n : Nat) (m : Bool) (w : World) (hs : (digB n).size ≤ 1000) : Calls Tryd.prog 53 #[.string (digB n), .bool m] w fun e w' => e = .returned (.string (nB (sgn m n))) ∧ w' = w := by
  have hz := dec_zero_iff n
  have hne : ((digB n).toList != [48]) = !decide (n = 0) := by rw [bne, hz]
  cases m with
  | false =>
    have hp := sg_pos n
    generalize digB n = A at *
    generalize nB (sgn false n) = T at *
    subst hp
    go_enter Tryd.func53, Tryd.ntmps53
    go_wp2_with fail
    go_ret
    exact ⟨by first | rfl | simp, rfl⟩
  | true =>
    by_cases h : n = 0
    · subst h
      have hp := sg_zero true
      rw [decide_eq_true rfl] at hz hne
      generalize digB 0 = A at *
      generalize nB (sgn true 0) = T at *
      subst hp
      go_enter Tryd.func53, Tryd.ntmps53
      go_wp2_with fail
      go_ret
      exact ⟨by first | rfl | simp, rfl⟩
    · have hp := sg_neg h
      rw [decide_eq_false h] at hz hne
      generalize digB n = A at *
      generalize nB (sgn true n) = T at *
      go_enter Tryd.func53, Tryd.ntmps53
      go_wp2_with fail
      go_ret
      exact ⟨by rw [← hp]; rfl, rfl⟩
/-! Which texts are numbers. -/
theorem num_right {s : ByteArray} (h : rightB s.data.toList = true) : numB s = true ∧ amtB s = digB (zL s.data.toList).natAbs ∧ (zL s.data.toList).natAbs < LIM ∧ signL s.data.toList = decide (zL s.data.toList < 0) := by
  obtain ⟨hd, hp, hl⟩ := (rightB_iff _).mp h
  have hb : (amtB s).data.toList = amtL s.data.toList := rfl
  have hab : (zL s.data.toList).natAbs = undec (amtL s.data.toList) := by
    unfold zL
    split <;> omega
  have hdec := plain_dec _ hp
  have hsz : (amtB s).size ≤ 155 := by
    have h1 : amtB s = digB (undec (amtL s.data.toList)) := by
      apply ByteArray.ext; apply Array.toList_inj.1; rw [hb, digB_list, hdec]
    rw [h1]
    exact digB_le (k := 154) (Nat.lt_trans hl lim_lt)
  refine ⟨?_, ?_, by rw [hab]; exact hl, ?_⟩
  · unfold numB
    rw [Bool.and_eq_true, Bool.and_eq_true]
    refine ⟨(plainF_iff _).mpr ⟨by rw [hb]; exact hp, by omega⟩, by simp; omega, ?_⟩
    rw [Bool.not_eq_true', Bool.and_eq_false_iff]
    rcases amt_cases s.data.toList with ⟨r, hr, h1, h2⟩ | ⟨_, _, h2⟩
    · right
      rw [beq_eq_false_iff_ne, Lib.toList_data, hb, h1]
      intro h48
      exact hd (by rw [hr, h48])
    · left; exact h2
  · apply ByteArray.ext; apply Array.toList_inj.1; rw [hb, digB_list, hab, hdec]
  · have hi := right_itoa ((rightB_iff _).mp h)
    have h2 := (amt_itoa (zL s.data.toList)).2
    rw [hi.1] at h2
    exact h2
theorem num_not {s : ByteArray} (hn : numB s = true) (h : rightB s.data.toList = false) : plainD (amtL s.data.toList) ∧ LIM ≤ undec (amtL s.data.toList) := by
  unfold numB at hn
  rw [Bool.and_eq_true, Bool.and_eq_true] at hn
  obtain ⟨h1, h2, h3⟩ := hn
  have hp := ((plainF_iff _).mp h1).1
  refine ⟨hp, ?_⟩
  refine Nat.le_of_not_lt fun hlt => ?_
  have : rightB s.data.toList = true := (rightB_iff _).mpr ⟨?_, hp, hlt⟩
  · rw [h] at this; cases this
  · intro h45
    rw [Bool.not_eq_true', Bool.and_eq_false_iff, Lib.toList_data] at h3
    rcases h3 with h3 | h3
    · rw [h45] at h3; cases h3
    · have hb : (amtB s).data.toList = amtL s.data.toList := rfl
      rw [hb, h45] at h3; cases h3
set_option maxHeartbeats 1600000 in
theorem rright_v (s : ByteArray) (w : World) (hs : s.size ≤ 1000) : Calls Tryd.prog 22 #[.string s] w fun e w' => e = .returned (.bool (rightB s.data.toList)) ∧ Below w.heap.size w w' := by
  have HA := Lib.hid (fun w => ramount_v s w hs)
  have HL := Lib.hid rlimit_v
  cases hn : numB s with
  | false =>
    have hr : rightB s.data.toList = false := by
      cases h : rightB s.data.toList with
      | false => rfl
      | true => rw [(num_right h).1] at hn; cases hn
    rw [hr]
    rw [hn] at HA
    clear hr hn
    go_enter Tryd.func22, Tryd.ntmps22
    go_wp2_with (go_at_call 38; with_reducible refine Calls.mono (HA.out _) ?_; rintro e w2 ⟨rfl, hw2⟩; replace hw2 := hw2.symm; subst hw2)
    go_ret
    exact ⟨by first | rfl | simp, Below.refl _ _⟩
  | true =>
    have HBL : Hid (∀ w, Calls Tryd.prog 39 #[.string (amtB s), .string (digB LIM)] w fun e w' => e = .returned (.bool (rightB s.data.toList)) ∧ w' = w) := Lib.hid (by
      intro w
      cases h : rightB s.data.toList with
      | true =>
        obtain ⟨_, h2, h3, _⟩ := num_right h
        have := rbelow_nn (zL s.data.toList).natAbs LIM w
        rw [decide_eq_true h3, ← h2] at this
        exact this
      | false =>
        obtain ⟨hp, hl⟩ := num_not hn h
        have h1 : amtB s = digB (undec (amtL s.data.toList)) := by
          apply ByteArray.ext; apply Array.toList_inj.1; rw [digB_list, plain_dec _ hp]; rfl
        have := rbelow_nn (undec (amtL s.data.toList)) LIM w
        rw [decide_eq_false (by omega), ← h1] at this
        exact this)
    rw [hn] at HA
    generalize digB LIM = T at *
    generalize rightB s.data.toList = R at *
    generalize amtB s = F at *
    generalize signL s.data.toList = G at *
    clear hn
    go_enter Tryd.func22, Tryd.ntmps22
    go_wp2_with (first
      | (go_at_call 38; with_reducible refine Calls.mono (HA.out _) ?_; rintro e w2 ⟨rfl, hw2⟩; replace hw2 := hw2.symm; subst hw2)
      | (go_at_call 44; with_reducible refine Calls.mono (HL.out _) ?_; rintro e w3 ⟨rfl, hb3⟩; have HB3 := Lib.hid hb3; clear hb3)
      | (go_at_call 39; with_reducible refine Calls.mono (HBL.out _) ?_; rintro e w4 ⟨rfl, hw4⟩; replace hw4 := hw4.symm; subst hw4))
    go_ret
    exact ⟨by first | rfl | simp, HB3.out⟩
end Go.Proofs.YtgoaakdopbielaaDoor
