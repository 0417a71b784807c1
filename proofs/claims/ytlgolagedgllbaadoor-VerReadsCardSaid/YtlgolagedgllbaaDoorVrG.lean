import Derived.Test.YtlgolagedgllbaaDoorVrF
namespace Go.Proofs.YtlgolagedgllbaaDoor
open Go.RowKit Go.Shelf
set_option linter.unusedSimpArgs false
set_option linter.unusedVariables false
set_option linter.unusedSectionVars false
attribute [local go_sem] Oper.semAt_some

/-! Layer 4: the words of each line. -/
def blankP (n : Nat) : Bool := blankV (n : Int)
def cut1 (l sep : List UInt8) : ByteArray := ⟨(Lib.cut l sep).1.toArray⟩
def cut2 (l sep : List UInt8) : ByteArray := ⟨(Lib.cut l sep).2.1.toArray⟩
def cut3 (l sep : List UInt8) : Bool := (Lib.cut l sep).2.2
def wordsV (line : ByteArray) : List ByteArray := Lib.goFieldsP blankP (cut1 line.data.toList [47, 47])
def linesV : Nat → ByteArray → List (List ByteArray)
  | 0, _ => []
  | f + 1, s => wordsV (cut1 s.data.toList [10]) :: if cut3 s.data.toList [10] then linesV f (cut2 s.data.toList [10]) else []
theorem blank_pred (w : World) : PredAt Tryd.prog 38 #[] encR blankP w := fun W r _ => by
  unfold FnGives
  refine (blank_v (r : Int) W).mono ?_
  rintro e w' ⟨rfl, rfl⟩
  exact ⟨rfl, 0, rfl⟩
theorem blankk : ∀ args (w : World), (callFunc 38 args).run Tryd.prog w = .ok (.enter 38 args) w := enters_of Tryd.func38 (by kernel_rfl) rfl
theorem cut_v (s : ByteArray) (sep : ByteArray) (w : World) (hs : s.size ≤ 1000000) (hE : EnvV w) :
    Calls Tryd.prog 36 #[.string s, .string sep] w fun e w' => e = .returned (.tuple #[.string (cut1 s.data.toList sep.data.toList), .string (cut2 s.data.toList sep.data.toList), .bool (cut3 s.data.toList sep.data.toList)]) ∧ Keeps (fun _ => False) w w' := by
  obtain ⟨_, _, ⟨m, hm⟩, _⟩ := hE
  refine (Tryd.strings_Cut s sep m w (by omega) hm).mono ?_
  rintro e w' ⟨rfl, n, rfl⟩
  exact ⟨rfl, ⟨rfl, rfl, rfl, Nat.le_refl _, fun _ _ _ => rfl⟩⟩
theorem cut_size (s : ByteArray) (sep : List UInt8) (h : 0 < sep.length) : (cut1 s.data.toList sep).size ≤ s.size ∧ (cut2 s.data.toList sep).size ≤ s.size ∧ (cut3 s.data.toList sep = true → (cut2 s.data.toList sep).size < s.size) := by
  have hL : s.data.toList.length = s.size := by simp
  have h1 : (cut1 s.data.toList sep).size = (Lib.cut s.data.toList sep).1.length := by simp [cut1, ByteArray.size]
  have h2 : (cut2 s.data.toList sep).size = (Lib.cut s.data.toList sep).2.1.length := by simp [cut2, ByteArray.size]
  rw [h1, h2]
  unfold cut3 Lib.cut
  split
  · rename_i hi
    simp only [List.length_take, List.length_drop]
    refine ⟨by omega, by omega, fun _ => ?_⟩
    have hpos : 0 < s.size := by
      by_cases h0 : s.size = 0
      · have hn : s.data.toList = [] := List.eq_nil_of_length_eq_zero (by omega)
        rw [hn] at hi
        cases sep with
        | nil => simp at h
        | cons a l => exact absurd hi (by simp [Lib.index])
      · omega
    omega
  · simp only [List.length_nil]
    exact ⟨by omega, by omega, fun h => by cases h⟩
/-- The row that is handed to a round. -/
def RowW (n0 : Nat) (x : List ByteArray) (v : Value) (W : World) : Prop :=
  ∃ A, v = .slice (some ⟨A, 0, none⟩) x.length x.length ∧ n0 ≤ A ∧ W.ownsRow n0 9 1 v x.length (x.map Value.string)
theorem own_lower {w : World} {base base' e size n : Nat} {v : Value} {xs : List Value} (h : w.ownsRow base e size v n xs) (hb : base' ≤ base) : w.ownsRow base' e size v n xs := by
  refine ⟨h.1, ?_⟩
  rcases h.2 with h | ⟨g, cap, cur, a, b, c⟩
  · exact .inl h
  · exact .inr ⟨g, cap, cur, a, Nat.le_trans hb b, c⟩
theorem RowW.keep {n0 : Nat} {x : List ByteArray} {v : Value} {A B : World} (h : RowW n0 x v A) (k : Nat) (hk : Keeps (fun j => j = k) A B) (hn : k < n0) : RowW n0 x v B := by
  obtain ⟨a, rfl, h1, h2⟩ := h
  exact ⟨a, rfl, h1, h2.kept (row := some k) ⟨hk.os, hk.tape, hk.output, hk.size, fun j hj hne => hk.block j hj (fun e => hne (by rw [e]))⟩ (.inr (by simp [Value.ownBlock]; omega))⟩
def mLeft (v : Value) (n : Nat) : Nat := match v with
  | .bool true => n + 1
  | _ => 0
set_option maxRecDepth 100000 in
set_option maxHeartbeats 3200000 in
theorem lines_iter (n : Nat) (hn : 1 ≤ n) (b : Nat) (s : ByteArray) (T : Nat → Prop) (w : World) (hs : s.size ≤ 100000) (hE : EnvV w) (h2 : Str w b s) (t2 : ¬ T b) (t8 : ∀ k, T k → 8 ≤ k) (b8 : 8 ≤ b) :
    IterB Tryd.prog n 35 #[.pointer (some ⟨b, 0, none⟩)] (RowW (w.heap.size + 2)) (linesV (s.size + 1) s) b T w := by
  intro l J Jx W hW hW2 hJ hJx hY h0
  have s2 := h2.lt
  have g2 := h2.keep hW t2
  have hE2 := hE.keeps hW t8
  have hw8 := hE.2.2.2
  refine callsIn_of_wp Tryd.func35 rfl trivial ?_ rfl
  simp only [Tryd.ntmps35, List.size_toArray, List.length_cons, List.length_nil, Nat.reduceAdd, Nat.reduceSub, Array.replicate_succ, Array.replicate_zero, List.push_toArray, List.append_toArray, List.nil_append, List.cons_append]
  gi_wp2
  gi_loopw [3] (fun vm wr => ∃ (pre : List (List ByteArray)) (f : Nat) (r : ByteArray) (m : Bool), vm = .bool m ∧ linesV (s.size + 1) s = pre ++ (if m then linesV f r else []) ∧ (m = true → r.size < f) ∧ r.size ≤ s.size ∧ Str wr b r ∧ EnvV wr ∧ w.heap.size + 2 ≤ wr.heap.size ∧ J pre wr) (fun vm wr => mLeft vm (strLeft wr b))
  case atStart => exact ⟨[], s.size + 1, s, true, rfl, rfl, fun _ => by omega, Nat.le_refl _, g2, hE2, hW2, h0⟩
  case round =>
    obtain ⟨pre, f, r, m, rfl, hx, hf, hrs, k2, kE, kz, hJp⟩ := hrel
    clear g2 hE2
    cases m with
    | false =>
      gi_wp2
      go_end0
      have hx' : linesV (s.size + 1) s = pre := by rw [hx]; simp
      exact ⟨⟨_, rfl⟩, .inl (by rw [hx']; exact hJp)⟩
    | true =>
      have hf' := hf rfl
      obtain ⟨f, rfl⟩ : ∃ g, f = g + 1 := ⟨f - 1, by omega⟩
      have hx2 : linesV (s.size + 1) s = pre ++ wordsV (cut1 r.data.toList [10]) :: (if cut3 r.data.toList [10] then linesV f (cut2 r.data.toList [10]) else []) := by rw [hx]; simp [linesV]
      obtain ⟨z1, z2, z3⟩ := cut_size r [10] (by decide)
      have hc1 := cut_v r ⟨#[10]⟩ wr (by omega) kE
      clear hx hf
      have kc := k2.cell
      have e10 : (⟨#[10]⟩ : ByteArray).data.toList = [10] := rfl
      rw [e10] at hc1
      generalize cut1 r.data.toList [10] = L at *
      generalize cut2 r.data.toList [10] = R at *
      generalize cut3 r.data.toList [10] = mm at *
      have K2 := Lib.hid k2
      have KE := Lib.hid kE
      have HJ := Lib.hid hJp
      clear k2 kE hJp
      gi_wp2
      refine ⟨trivial, ?_⟩
      refine (callsIn_wide.2 hc1).mono ?_
      rintro e w2 ⟨rfl, hk2⟩
      have m2 := K2.out.keep hk2 (fun h => h)
      have mf := m2.free
      have mc := m2.cell
      obtain ⟨w3, hw3⟩ : ∃ w3, w3 = w2.setCell ⟨b, 0, none⟩ (.string R) := ⟨_, rfl⟩
      have hk3 : Keeps (fun k => k = b) wr w3 := by rw [hw3]; exact (hk2.mono (T := fun k => k = b) (fun k _ h => h.elim)).setCell (p := ⟨b, 0, none⟩) (.inl rfl) _
      have m3 : Str w3 b R := by rw [hw3]; exact m2.set R
      have hE3 := KE.out.keeps hk3 (fun k e => by omega)
      have hc2 := cut_v L ⟨#[47, 47]⟩ w3 (by omega) hE3
      have M3 := Lib.hid m3
      have HK3 := Lib.hid hk3
      have HE3 := Lib.hid hE3
      have HW3 := Lib.hid hw3
      clear hk2 m2 hw3 m3 hk3 hE3 hc1 kc
      gi_wp2
      rw [← HW3.out]
      refine ⟨trivial, ?_⟩
      refine (callsIn_wide.2 hc2).mono ?_
      rintro e w4 ⟨rfl, hk4⟩
      obtain ⟨y1, y2, y3⟩ := cut_size L [47, 47] (by decide)
      have hff := Tryd.strings_FieldsFunc 38 #[] blankk blankP (cut1 L.data.toList [47, 47]) w4 (by omega) (blank_pred w4)
      have hwd : Hid (wordsV L = Lib.goFieldsP blankP (cut1 L.data.toList [47, 47])) := Lib.hid rfl
      rw [← hwd.out] at hff
      generalize cut1 L.data.toList [47, 47] = L2 at *
      generalize cut2 L.data.toList [47, 47] = L3 at *
      generalize cut3 L.data.toList [47, 47] = L4 at *
      generalize wordsV L = ws at *
      have HK4 := Lib.hid hk4
      have hz4 : w.heap.size + 2 ≤ w4.heap.size := by have := HK3.out.size; have := hk4.size; omega
      clear hk4 hc2
      gi_wp2
      refine ⟨trivial, ?_⟩
      refine (callsIn_wide.2 hff).mono ?_
      rintro e w5 ⟨A, rfl, hA, hown, hb5⟩
      have hk5 : Keeps (fun k => k = b) wr w5 := (HK3.out.trans (HK4.out.mono (fun k _ h => h.elim))).trans (Keeps.of_below hb5 _)
      have m5 : Str w5 b R := (M3.out.keep HK4.out (fun h => h)).keep (Keeps.of_below hb5 (fun _ => False)) (fun h => h)
      have hJ5 := hJ _ _ _ HJ.out hk5
      have hrow : RowW (w.heap.size + 2) ws (.slice (some ⟨A, 0, none⟩) ws.length ws.length) w5 := ⟨A, rfl, by omega, own_lower hown hz4⟩
      obtain ⟨fn, tm, asg, body, hy, hR⟩ := hY pre ws _ _ w5 hx2 hJ5 hrow
      have HE5 := Lib.hid (KE.out.keeps hk5 (fun k e => by omega))
      have M5 := Lib.hid m5
      have hz5 : w.heap.size + 2 ≤ w5.heap.size := by have := hb5.size; omega
      clear hff hown hk5 m5 hJ5 hrow hb5
      gi_wp2
      refine hR.mono ?_
      rintro e W' (⟨rfl, hJ6, hk6⟩ | ⟨rfl, hx6⟩)
      · have M6 := Lib.hid (M5.out.keep hk6 (fun h => h.elim t2 (by omega)))
        have HE6 := Lib.hid (HE5.out.keeps hk6 (fun k h => h.elim (t8 k) (by omega)))
        have hz6 : w.heap.size + 2 ≤ W'.heap.size := by have := hk6.size; omega
        clear hk6
        gi_wp2
        go_roundw
        case rel => exact ⟨pre ++ [ws], f, R, mm, rfl, by rw [hx2]; simp, fun h => by have := z3 h; omega, by omega, M6.out, HE6.out, hz6, hJ6⟩
        case measure =>
          rw [M6.out.lft, K2.out.lft]
          cases mm with
          | true => have := z3 rfl; simp [mLeft]; omega
          | false => simp [mLeft]
      · gi_wp2
        refine bodyPost_ret (results_none rfl _ _ _) rfl ?_
        exact ⟨⟨_, rfl⟩, .inr ⟨_, hx6⟩⟩
end Go.Proofs.YtlgolagedgllbaaDoor
