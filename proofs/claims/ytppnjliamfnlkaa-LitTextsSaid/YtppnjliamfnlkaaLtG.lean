import Derived.Test.YtppnjliamfnlkaaLtE
import Derived.Test.YtppnjliamfnlkaaPlF1
namespace Go.Proofs.Ytppnjliamfnlkaa
open Go.RowKit
set_option linter.unusedSimpArgs false
set_option linter.unusedVariables false
set_option linter.unusedSectionVars false

/-! Layer 3: slices.Reverse at bytes; decimal. -/
def Turned (xs ys : List Value) (i : Nat) : Prop := ys.length = xs.length ∧ ∀ k, k < xs.length → ys[k]? = if k < i ∨ xs.length - 1 - i < k then xs[xs.length - 1 - k]? else xs[k]?
theorem Turned.start (xs : List Value) : Turned xs xs 0 := ⟨rfl, fun k hk => by rw [if_neg (by omega)]⟩
theorem Turned.stop {xs ys : List Value} {i : Nat} (h : Turned xs ys i) (hi : xs.length ≤ 2 * i + 1) : ys = xs.reverse := by
  apply List.ext_getElem?
  intro k
  by_cases hk : k < xs.length
  · rw [h.2 k hk, List.getElem?_reverse hk]
    split
    · rfl
    · rw [show xs.length - 1 - k = k by omega]
  · rw [List.getElem?_eq_none (by rw [h.1]; omega), List.getElem?_eq_none (by simp; omega)]
theorem Turned.step {xs ys : List Value} {i : Nat} (h : Turned xs ys i) (hi : 2 * i + 1 < xs.length) {u v : Value} (hu : xs[i]? = some u) (hv : xs[xs.length - 1 - i]? = some v) :
    Turned xs ((ys.set i v).set (xs.length - 1 - i) u) (i + 1) ∧ Turned xs ((ys.set (xs.length - 1 - i) u).set i v) (i + 1) := by
  have hc : (ys.set (xs.length - 1 - i) u).set i v = (ys.set i v).set (xs.length - 1 - i) u := by
    rw [List.set_comm]; omega
  rw [hc]
  have : Turned xs ((ys.set i v).set (xs.length - 1 - i) u) (i + 1) := by
    refine ⟨by simp [h.1], fun k hk => ?_⟩
    rw [List.getElem?_set, List.getElem?_set]
    simp only [List.length_set, h.1]
    by_cases h1 : xs.length - 1 - i = k
    · rw [if_pos h1, if_pos (by omega), if_pos (by omega), ← hu]
      congr 1; omega
    · rw [if_neg h1]
      by_cases h2 : i = k
      · rw [if_pos h2, if_pos (by omega), if_pos (by omega), ← hv]
        congr 1; omega
      · rw [if_neg h2, h.2 k hk]
        by_cases h3 : k < i ∨ xs.length - 1 - i < k
        · rw [if_pos h3, if_pos (by omega)]
        · rw [if_neg h3, if_neg (by omega)]
  exact ⟨this, this⟩

theorem stored2 {w : World} {base e n size g cap : Nat} {xs : List Value} (h : w.ownsRow base e size (.slice (some ⟨g, 0, none⟩) n cap) n xs) (i j : Nat) (u v : Value) :
    ((w.setCell ⟨g, i, none⟩ u).setCell ⟨g, j, none⟩ v).ownsRow base e size (.slice (some ⟨g, 0, none⟩) n cap) n ((xs.set i u).set j v) ∧ w.grownBy ((w.setCell ⟨g, i, none⟩ u).setCell ⟨g, j, none⟩ v) (some g) := by
  have h1 := h.stored i u
  have h2 := h1.1.stored j v
  exact ⟨h2.1, ⟨h2.2.os.trans h1.2.os, h2.2.tape.trans h1.2.tape, h2.2.output.trans h1.2.output, Nat.le_trans h1.2.size h2.2.size,
    fun k hk hne => (h2.2.block k (by have := h1.2.size; omega) hne).trans (h1.2.block k hk hne)⟩⟩
theorem row_kept' {w : World} {base e n size : Nat} {v : Value} {xs : List Value} (h : w.ownsRow base e size v n xs) : w.drew.ownsRow base e size v n xs := ⟨h.1, h.2⟩

set_option maxHeartbeats 3200000 in
theorem reverse_any (B : Nat) (v : Value) (xs : List Value) (hx : ∀ x ∈ xs, ∃ n : Int, x = .int .u8 n) (w : World) (hv : w.ownsRow B 5 1 v xs.length xs) (hn : xs.length ≤ 1000000) (hB : B ≤ w.heap.size) :
    Calls Try.prog 41 #[v] w fun e w' => e = .returned (.tuple #[]) ∧ w'.ownsRow B 5 1 v xs.length xs.reverse ∧ Below B w w' := by
  obtain ⟨a, c, rfl⟩ := row_slice hv
  have HV := Lib.hid hv
  clear hv
  go_enter Try.func41, Try.ntmps41
  go_wp2_with fail
  go_loopw [2, 3] (fun iv jv wr => ∃ (i : Nat) (ys : List Value), iv = .int .i64 i ∧ jv = .int .i64 ((xs.length : Int) - 1 - i) ∧ (2 * i ≤ xs.length ∨ i = 0) ∧ Turned xs ys i ∧
      wr.ownsRow B 5 1 (.slice a xs.length c) xs.length ys ∧ Below B w wr) (fun iv _ _ => xs.length - (intOf iv).toNat)
  case atStart => exact ⟨0, xs, rfl, by simp, .inr rfl, Turned.start xs, HV.out, Below.refl _ _⟩
  case round =>
    obtain ⟨i, ys, rfl, rfl, hi, ht, hown, hbl⟩ := hrel
    have HT := Lib.hid ht
    have HO := Lib.hid hown
    have HBL := Lib.hid hbl
    clear ht hown hbl
    by_cases hlt : 2 * i + 1 < xs.length
    · obtain ⟨g, cap, hs⟩ := row_some HO.out (by have := HT.out.1; intro h; subst h; simp at this; omega)
      simp only [Value.slice.injEq, true_and] at hs
      obtain ⟨rfl, rfl⟩ := hs
      obtain ⟨j, hj⟩ : ∃ j, xs.length - 1 - i = j := ⟨_, rfl⟩
      have hj2 : (xs.length : Int) - 1 - i = (j : Int) := by omega
      have hjl : j < xs.length := by omega
      have hij : i < j := by omega
      have hil : i < xs.length := by omega
      have hne : ¬ j = i := by omega
      have hne2 : ¬ i = j := by omega
      obtain ⟨u, hu⟩ : ∃ u : Int, xs[i]? = some (.int .u8 u) := by
        obtain ⟨n, h⟩ := hx xs[i] (List.getElem_mem _)
        exact ⟨n, by rw [List.getElem?_eq_getElem hil, h]⟩
      obtain ⟨v, hv⟩ : ∃ v : Int, xs[j]? = some (.int .u8 v) := by
        obtain ⟨n, h⟩ := hx xs[j] (List.getElem_mem _)
        exact ⟨n, by rw [List.getElem?_eq_getElem hjl, h]⟩
      have hyi : ys[i]? = some (.int .u8 u) := by rw [HT.out.2 i (by omega), if_neg (by omega)]; exact hu
      have hyj : ys[j]? = some (.int .u8 v) := by rw [HT.out.2 j (by omega), if_neg (by omega)]; exact hv
      have e0 : wr.cell? ⟨g, i, none⟩ = some (.int .u8 u) := (HO.out.cellAt i (by omega)).trans hyi
      have e1 : wr.cell? ⟨g, j, none⟩ = some (.int .u8 v) := (HO.out.cellAt j (by omega)).trans hyj
      have f0 : wr.frozen? ⟨g, i, none⟩ = false := HO.out.frozenAt _
      have f1 : wr.frozen? ⟨g, j, none⟩ = false := HO.out.frozenAt _
      have hst := HT.out.step hlt hu (hj ▸ hv)
      rw [hj] at hst
      have HST := Lib.hid hst
      clear hst hyi hyj hu hv
      go_wp2_with fail
      go_region
      all_goals
        go_wp2_with fail
        go_roundw
        case rel =>
          refine ⟨i + 1, _, by go_num, by congr 1; omega, .inl (by omega), HST.out.1, ?_, ?_⟩
          · exact row_kept' (stored2 HO.out i j (.int .u8 v) (.int .u8 u)).1
          · exact (HBL.out.grown (stored2 HO.out i j (.int .u8 v) (.int .u8 u)).2 (by have := HBL.out.size; omega) (fun k hk => (HO.out.lt k hk).1)).drew
        case measure => simp [intOf]; omega
    · go_wp2_with fail
      go_end0
      refine ⟨rfl, ?_, HBL.out⟩
      rw [← HT.out.stop (by omega)]
      exact HO.out

/-- A number's figures, written. -/
def decF (l : List Nat) : ByteArray := if l = [] then ⟨#[48]⟩ else ⟨(l.reverse.map fun d => UInt8.ofNat (48 + d)).toArray⟩
theorem decF_size (l : List Nat) (h : l ≠ []) : (decF l).size = l.length := by
  rw [decF, if_neg h]; simp [ByteArray.size]
theorem decF_byte (l : List Nat) (h : l ≠ []) (hl : ∀ x ∈ l, x < 10) (i : Nat) (hi : i < l.length) : (u8s (l.map (48 + ·))).reverse[i]? = some (.int .u8 (byteN (decF l) i)) := by
  have hg : l.reverse[i]? = some (l.reverse[i]'(by simpa using hi)) := List.getElem?_eq_getElem _
  have hm : l.reverse[i]'(by simpa using hi) < 10 := hl _ (by rw [← List.mem_reverse]; exact List.getElem_mem _)
  rw [decF, if_neg h]
  simp only [u8s, byteN, List.map_map, ← List.map_reverse, List.getElem?_map, hg, Option.map_some, List.getD_eq_getElem?_getD, Option.getD_some, Function.comp]
  congr 2
  generalize l.reverse[i]'(by simpa using hi) = d at hm
  show ((48 + d : Nat) : Int) = ((UInt8.ofNat (48 + d)).toNat : Int)
  rw [UInt8.toNat_ofNat']
  omega
theorem u8s_int (l : List Nat) : ∀ x ∈ u8s l, ∃ n : Int, x = .int .u8 n := by
  intro x hx
  simp only [u8s, List.mem_map] at hx
  obtain ⟨n, _, rfl⟩ := hx
  exact ⟨_, rfl⟩

theorem rev_bsl {w : World} {B : Nat} {a : Option Addr} {c : Nat} {l : List Nat} (h : w.ownsRow B 5 1 (.slice a l.length c) l.length (u8s (l.map (48 + ·))).reverse) (h0 : l ≠ []) (hl : ∀ x ∈ l, x < 10) : BSl w a (decF l) := by
  obtain ⟨g, cap, hs⟩ := row_some h (by simp [u8s, h0])
  simp only [Value.slice.injEq, true_and] at hs
  obtain ⟨rfl, rfl⟩ := hs
  refine .inr ⟨g, 0, rfl, ?_, (h.lt g rfl).2⟩
  intro i hi
  rw [decF_size _ h0] at hi
  rw [Nat.zero_add, h.cellAt i (by omega)]
  exact decF_byte l h0 hl i hi

set_option maxHeartbeats 3200000 in
theorem decimal_any (B : Nat) (v : Value) (l : List Nat) (w : World) (hv : w.ownsRow B 5 1 v l.length (u8s l)) (hl : ∀ x ∈ l, x < 10) (hn : l.length ≤ 100000) (hB : B ≤ w.heap.size) :
    Calls Try.prog 31 #[v] w fun e w' => e = .returned (.string (decF l)) ∧ Below B w w' := by
  obtain ⟨a, c, rfl⟩ := row_slice hv
  have HV := Lib.hid hv
  clear hv
  by_cases h0 : l = []
  · subst h0
    go_enter Try.func31, Try.ntmps31
    go_wp2_with fail
    go_ret
    exact ⟨rfl, Below.refl _ _⟩
  have hl0 : ((l.length : Int) == 0) = false := by simp [h0]
  go_enter Try.func31, Try.ntmps31
  go_wp2_with fail
  go_loopw [9] (fun iv wr => ∃ (done todo : List Nat), iv = .int .i64 done.length ∧ l = done ++ todo ∧ wr.ownsRow B 5 1 (.slice a l.length c) l.length (u8s (done.map (48 + ·) ++ todo)) ∧ Below B w wr) (fun iv _ => l.length - (intOf iv).toNat)
  case atStart => exact ⟨[], l, rfl, rfl, HV.out, Below.refl _ _⟩
  case round =>
    obtain ⟨done, todo, rfl, he, hown, hbl⟩ := hrel
    have hlen : l.length = done.length + todo.length := by rw [he]; simp
    have HE := Lib.hid he
    have HO := Lib.hid hown
    have HBL := Lib.hid hbl
    clear he hown hbl
    cases todo with
    | cons f t =>
      simp only [List.length_cons] at hlen
      have hlt : done.length < l.length := by omega
      obtain ⟨g, cap, hs⟩ := row_some HO.out (by simp [u8s])
      simp only [Value.slice.injEq, true_and] at hs
      obtain ⟨rfl, rfl⟩ := hs
      have hf : f < 10 := hl f (by rw [HE.out]; simp)
      have e0 : wr.cell? ⟨g, done.length, none⟩ = some (.int .u8 (f : Int)) := (HO.out.cellAt done.length (by omega)).trans (by have := u8s_at (done.map (48 + ·)) t f; simpa using this)
      have e1 : wr.frozen? ⟨g, done.length, none⟩ = false := HO.out.frozenAt _
      have HST := HO.out.stored done.length (.int .u8 ((48 + f : Nat) : Int))
      have hmid := u8s_mid (done.map (48 + ·)) t f (48 + f)
      rw [List.length_map] at hmid
      rw [hmid] at HST
      have HST := Lib.hid HST
      obtain ⟨r, hr⟩ : ∃ r, 48 + f = r := ⟨_, rfl⟩
      have hr2 : (f : Int) + 48 = (r : Int) := by omega
      have hr3 : r < 60 := by omega
      rw [hr] at HST
      have HRR := Lib.hid hr
      clear hr hmid hlen
      go_wp2_with fail
      go_roundw
      case rel =>
        refine ⟨done ++ [f], t, by simp, by rw [HE.out]; simp, by simpa [HRR.out] using HST.out.1, ?_⟩
        exact HBL.out.grown HST.out.2 (by have := HBL.out.size; omega) (fun k hk => (HO.out.lt k hk).1)
      case measure => simp [intOf]; omega
    | nil =>
      simp only [List.length_nil, Nat.add_zero] at hlen
      have hd : done = l := by rw [HE.out]; simp
      subst hd
      rw [List.append_nil] at HO
      have hcall := reverse_any B (.slice a done.length c) (u8s (done.map (48 + ·))) (u8s_int _) wr (by simpa [u8s_len] using HO.out) (by rw [u8s_len]; simpa using (by omega : done.length ≤ 1000000)) (by have := HBL.out.size; omega)
      rw [u8s_len, List.length_map] at hcall
      clear hlen HE
      go_wp2_with (go_at_call 41; with_reducible refine Calls.mono hcall ?_; rintro e w2 ⟨rfl, hown2, hb2⟩
                   have hbs : BSl w2 a (decF done) := rev_bsl hown2 h0 hl
                   have hcv := conv_at hbs c
                   rw [decF_size _ h0] at hcv
                   have HB2 := Lib.hid hb2
                   clear hbs hown2 hb2)
      go_ret
      exact ⟨rfl, HBL.out.trans HB2.out⟩
end Go.Proofs.Ytppnjliamfnlkaa
