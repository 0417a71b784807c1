import Derived.Test.YtlgolagedgllbaaDoorVrAe
import Derived.Laws.AppendOwnNone
namespace Go.Proofs.YtlgolagedgllbaaDoor
open Go.RowKit Go.Shelf
set_option linter.unusedSimpArgs false
set_option linter.unusedVariables false
set_option linter.unusedSectionVars false

/-! VerReads. -/
def rowV (s : ByteArray) : List Value := s.data.toList.map fun b => .int .u8 (b.toNat : Int)
theorem rowV_len (s : ByteArray) : (rowV s).length = s.size := by simp [rowV]
theorem rowV_at (s : ByteArray) (j : Nat) (h : j < s.size) : (rowV s)[j]? = some (.int .u8 (byteN s j)) := by
  unfold rowV
  rw [List.getElem?_map, List.getElem?_eq_getElem (show j < s.data.toList.length by simpa using h), Option.map_some, (drop_byte s j h).2]
theorem infoU8 : (Tryd.prog.info? 5).map (fun i => (i.zero, i.size, i.bytes)) = some (some (.int .u8 0), 1, 1) := by kernel_rfl
/-- A row of bytes behind an empty one. -/
theorem app_copy {w : World} {ops : Array Oper} {rest : List Oper} {o : Oper} {a : Act} {Q : Exit → Act → World → Prop} (hgd : o.guard = none) (x y : Operand)
    (ho : o.op = .call { callee := .builtin .append, args := #[x, y], argTypes := #[31, 31] })
    (base : Nat) (v : Value) (hx : a.eval x = v) (hown : w.ownsRow base 5 1 v 0 [])
    (p : Option Addr) (c : Nat) (t : ByteArray) (hy : a.eval y = .slice p t.size c) (ht : BSl w p t) (hc : p = none → c = 0)
    (hn : t.size ≤ 1000) (hbase : base ≤ w.heap.size)
    (h : ∀ q c w', BSl w' q t → w.grownBy w' v.ownBlock → wpList Tryd.prog ops Q rest (a.put o.dst (.slice q t.size c)) w') : wpList Tryd.prog ops Q (o :: rest) a w := by
  obtain ⟨i, hi, hz0, hz1, hz2⟩ := info_parts infoU8
  cases p with
  | none =>
    have h0 : t.size = 0 := by
      rcases ht with h | ⟨_, _, h, _⟩
      · exact h
      · cases h
    rw [hc rfl, h0] at hy
    obtain ⟨q, c2, hv⟩ : ∃ q c, v = .slice q 0 c := by
      rcases hown.2 with ⟨rfl, _⟩ | ⟨g, cap, cur, rfl, _⟩
      · exact ⟨_, _, rfl⟩
      · exact ⟨_, _, rfl⟩
    refine wpList_append_own_none hgd x y 31 ho base 5 i 1 Tryd.underlying31 hi v 0 [] hx hown hy ?_
    have := h q c2 w (.inl h0) ⟨rfl, rfl, rfl, Nat.le_refl _, fun _ _ _ => rfl⟩
    rw [h0] at this
    rw [hv]
    exact this
  | some ad =>
    refine wpList_append_own w hgd x y 31 ho base 5 i (.int .u8 0) 1 1 Tryd.underlying31 hi hz0 hz1 hz2 rfl (by decide) v 0 [] hx hown ad t.size c (rowV t) hy
      (by rw [rowV_len, Nat.mul_one]) ?_ ?_ (by unfold maxLen; omega) (by omega) hbase ?_
    · intro j u hj
      have hjl : j < t.size := by
        rcases Nat.lt_or_ge j t.size with h | h
        · exact h
        · rw [List.getElem?_eq_none (by rw [rowV_len]; exact h)] at hj; cases hj
      rw [rowV_at t j hjl] at hj
      rcases ht with h0 | ⟨b, off, e, hb, _⟩
      · omega
      · cases e
        have e2 : (⟨b, off, none⟩ : Addr).add j = ⟨b, off + j, none⟩ := by unfold Addr.add; split <;> simp_all
        rw [e2, hb j hjl]
        exact hj
    · intro u hu
      simp only [rowV, List.mem_map] at hu
      obtain ⟨b, _, rfl⟩ := hu
      rfl
    · intro v' w' h2 h3 _
      rw [Nat.zero_add, List.nil_append] at h2
      rcases h2.2 with ⟨rfl, h0⟩ | ⟨g, cap, cur, rfl, hg, hh, hn2, hc2, hs, htk⟩
      · have := h none 0 w' (.inl h0) h3
        rw [h0] at this
        exact this
      · refine h _ _ w' (.inr ⟨g, 0, rfl, fun k hk => ?_, lt_of_block hh⟩) h3
        rw [cell_of hh, Nat.zero_add, ← rowV_at t k hk, ← htk, Nat.mul_one, List.getElem?_take_of_lt hk]
        simp
set_option maxRecDepth 100000 in
set_option maxHeartbeats 6400000 in
theorem reads_walk (p : Option Addr) (cap : Nat) (s : ByteArray) (w : World) (hb : BSl w p s) (hcp : p = none → cap = 0) (hE : EnvV w) :
    Calls Tryd.prog 4 #[.slice p s.size cap] w fun e w' => e = .returned (.bool true) ∧ Below w.heap.size w w' := by
  have h8 := hE.2.2.2
  by_cases hl : 1000 < s.size
  · have hd : decide (1000 < (s.size : Int)) = true := decide_eq_true (by omega)
    go_enter Tryd.func4, Tryd.ntmps4
    go_wp2_with fail
    go_ret
    exact ⟨rfl, Below.refl _ _⟩
  have hd : decide (1000 < (s.size : Int)) = false := decide_eq_false (by omega)
  have HR1 : Hid (∀ q c w1, BSl w1 q s → Below w.heap.size w w1 → Calls Tryd.prog 12 #[.slice q s.size c] w1 fun e w' => e = .returned (.tuple #[.agg #[.string (readP s), .int .i64 (readI s)], .int .i64 (readE s)]) ∧ Below w1.heap.size w1 w') :=
    Lib.hid (fun q c w1 hq h1 => read_v q c s w1 hq (hE.below h1 h8) (by omega))
  have HR2 : Hid (∀ w1, Calls Tryd.prog 13 #[.string s] w1 fun e w' => e = .returned (.tuple #[.string (readP s), .int .i64 (readI s), .int .i64 (readE s)]) ∧ Below w1.heap.size w1 w') := Lib.hid (fun w1 => by
    refine (refread_v s w1 (by omega)).mono ?_
    rintro e w' ⟨rfl, hb⟩
    refine ⟨?_, hb⟩
    cases hr : refRd s.data.toList with
    | none =>
      obtain ⟨h1, h2, h3⟩ := refRd_none s (by omega) hr
      rw [h1, h2, h3]; rfl
    | some t =>
      obtain ⟨h1, h2, h3⟩ := refRd_some s (by omega) t hr
      rw [h1, h2, h3]; rfl)
  have hW := fun w1 (hb : Below w.heap.size w w1) => awake_v w1 (hE.below hb h8)
  have HB0 : Hid (BSl w p s) := Lib.hid hb
  have how : (w.alloc (.cells #[] 5)).ownsRow w.heap.size 5 1 (.slice (some ⟨w.heap.size, 0, none⟩) 0 0) 0 [] :=
    ⟨rfl, .inr ⟨w.heap.size, 0, #[], rfl, Nat.le_refl _, heap_alloc_new w _, Nat.le_refl _, by unfold maxLen; omega, rfl, rfl⟩⟩
  have hb1 : BSl (w.alloc (.cells #[] 5)) p s := hb.alloc _
  have HOW := Lib.hid how
  have HB1 := Lib.hid hb1
  clear hb hE how hb1
  generalize readP s = rp at *
  generalize readI s = ri at *
  generalize readE s = re at *
  go_enter Tryd.func4, Tryd.ntmps4
  go_wp2_with (at_builtin; refine stop_listV ?_)
  refine Lib.hid ?_
  refine app_copy rfl _ _ rfl w.heap.size (.slice (some ⟨w.heap.size, 0, none⟩) 0 0) rfl HOW.out p cap s rfl HB1.out hcp (by omega) (by simp) ?_
  intro q c w1 hbs hg
  have hB1 : Below w.heap.size w w1 := by
    have h4 : Below w.heap.size w (w.alloc (.cells #[] 5)) := (Below.refl _ _).alloc (Nat.le_refl _) _
    exact h4.grown hg (by simp) (fun k hk => by simp only [Value.ownBlock, Option.some.injEq] at hk; omega)
  have hR := HR1.out q c w1 hbs hB1
  have HB1' := Lib.hid hB1
  clear hbs hg hB1
  go_wp2_with fail
  go_at_call 12
  with_reducible refine Calls.mono hR ?_
  rintro e w2 ⟨rfl, hb2⟩
  have hB2 : Below w.heap.size w w2 := HB1'.out.trans (hb2.mono HB1'.out.size)
  clear hb2 hR
  obtain ⟨w3, hw3⟩ : ∃ w3, w3 = w2.alloc (Obj.cells #[Value.string rp, Value.int IntKind.i64 ri] 33) := ⟨_, rfl⟩
  have hB3 : Below w.heap.size w w3 := by rw [hw3]; exact hB2.alloc hB2.size _
  have hM3 : w3.heap[w2.heap.size]? = some (.cells #[.string rp, .int .i64 ri] 33 (0, 0)) := by rw [hw3]; exact alloc_at rfl _
  have hcs := conv_at (HB0.out.below hB3) cap
  have HB3 := Lib.hid hB3
  have HM3 := Lib.hid hM3
  rw [hw3] at hcs
  have hR2 := HR2.out
  have HW3 := Lib.hid hw3
  clear hB2 hB3 hM3 hw3
  go_wp2_with fail
  go_at_call 13
  with_reducible refine Calls.mono (hR2 _) ?_
  rintro e w4 ⟨rfl, hb4⟩
  rw [← HW3.out] at hb4
  have hM4 : w4.heap[w2.heap.size]? = some (.cells #[.string rp, .int .i64 ri] 33 (0, 0)) := (hb4.block _ (lt_of_block HM3.out)).trans HM3.out
  have c0 := cell_of hM4 0
  have c1 := cell_of hM4 1
  have HB4 : Hid (Below w.heap.size w w4) := Lib.hid (HB3.out.trans (hb4.mono HB3.out.size))
  clear hb4 hM4 hR2 hcs
  go_wp2_with (go_at_call 11; with_reducible refine Calls.mono (hW _ HB4.out) ?_; rintro e w6 ⟨rfl, hb6⟩; have HB6 : Hid (Below w.heap.size w w6) := Lib.hid (HB4.out.trans (hb6.mono HB4.out.size)); clear hb6)
  go_ret
  exact ⟨rfl, HB6.out⟩
end Go.Proofs.YtlgolagedgllbaaDoor
