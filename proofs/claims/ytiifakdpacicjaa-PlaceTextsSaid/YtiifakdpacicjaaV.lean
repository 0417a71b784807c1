import Derived.Test.YtiifakdpacicjaaU
import Derived.Laws.AppendOwnNone
namespace Go.Proofs.Ytiifakdpacicjaa
open Go.RowKit

/-- The cells that hold a text's bytes. -/
def bytesV (s : ByteArray) : List Value := s.data.toList.map fun b => .int .u8 (b.toNat : Int)
theorem bytesV_len (s : ByteArray) : (bytesV s).length = s.size := by simp [bytesV]
theorem bytesV_at (s : ByteArray) (j : Nat) (h : j < s.size) : (bytesV s)[j]? = some (.int .u8 (byteN s j)) := by
  have := byte_at s j h
  simp [bytesV, byteN, List.getD, this]
theorem bytesV_app (s t : ByteArray) : bytesV (s ++ t) = bytesV s ++ bytesV t := by
  simp [bytesV]

/-- A slice of bytes that the call itself has made. -/
def OwnB (w : World) (base : Nat) (v : Value) (s : ByteArray) : Prop := w.ownsRow base 5 1 v s.size (bytesV s)

theorem OwnB.bsl {w : World} {base : Nat} {v : Value} {s : ByteArray} (h : OwnB w base v s) : ∃ p c, v = .slice p s.size c ∧ BSl w p s ∧ (p = none → c = 0) ∧ v.ownBlock = p.map (·.block) := by
  obtain ⟨_, h2⟩ := h
  rcases h2 with ⟨rfl, h0⟩ | ⟨g, cap, cur, rfl, hg, hh, hn, hc, hs, ht⟩
  · exact ⟨none, 0, by rw [h0], .inl h0, fun _ => rfl, rfl⟩
  · refine ⟨some ⟨g, 0, none⟩, cap, rfl, .inr ⟨g, 0, rfl, fun i hi => ?_, lt_of_block hh⟩, (fun h => by cases h), rfl⟩
    rw [cell_of hh, Nat.zero_add, ← bytesV_at s i hi, ← ht, Nat.mul_one, List.getElem?_take_of_lt hi]
    simp

theorem OwnB.nil (w : World) (base : Nat) : OwnB w base (.slice none 0 0) ByteArray.empty := World.ownsRow_nil w base 5 1
theorem OwnB.made {w : World} {base : Nat} (h : base ≤ w.heap.size) : OwnB (w.alloc (.cells #[] 5)) base (.slice (some ⟨w.heap.size, 0, none⟩) 0 0) ByteArray.empty :=
  ⟨rfl, .inr ⟨w.heap.size, 0, #[], rfl, h, alloc_at rfl _, Nat.le_refl _, by simp, rfl, rfl⟩⟩

theorem info5 : (Try.prog.info? 5).map (fun i => (i.zero, i.size, i.bytes)) = some (some (.int .u8 0), 1, 1) := by kernel_rfl

/-- 'append(v, x...)', bytes behind bytes of the call's own. -/
theorem wp_append_bytes {w : World} {ops : Array Oper} {rest : List Oper} {o : Oper} {a : Act} {Q : Exit → Act → World → Prop} (hgd : o.guard = none) (x y : Operand)
    (ho : o.op = .call { callee := .builtin .append, args := #[x, y], argTypes := #[22, 22] })
    (base : Nat) (v : Value) (s : ByteArray) (hx : a.eval x = v) (hown : OwnB w base v s)
    (p : Option Addr) (c : Nat) (t : ByteArray) (hy : a.eval y = .slice p t.size c) (ht : BSl w p t) (hc : p = none → c = 0)
    (hn : s.size + t.size ≤ 140737488355328) (hbase : base ≤ w.heap.size)
    (h : ∀ v' w', OwnB w' base v' (s ++ t) → w.grownBy w' v.ownBlock → wpList Try.prog ops Q rest (a.put o.dst v') w') : wpList Try.prog ops Q (o :: rest) a w := by
  obtain ⟨i, hi, hz0, hz1, hz2⟩ := info_parts info5
  cases p with
  | none =>
    have h0 : t.size = 0 := by
      rcases ht with h | ⟨_, _, h, _⟩
      · exact h
      · cases h
    have ht0 : t = ByteArray.empty := by
      apply ByteArray.ext
      have : t.data = #[] := by apply Array.eq_empty_of_size_eq_zero; exact h0
      rw [this]; rfl
    rw [hc rfl, h0] at hy
    subst ht0
    refine wpList_append_own_none hgd x y 22 ho base 5 i 1 Try.underlying22 hi v s.size (bytesV s) hx hown hy ?_
    refine h v w ?_ ⟨rfl, rfl, rfl, Nat.le_refl _, fun _ _ _ => rfl⟩
    rw [ByteArray.append_empty]; exact hown
  | some ad =>
    refine wpList_append_own w hgd x y 22 ho base 5 i (.int .u8 0) 1 1 Try.underlying22 hi hz0 hz1 hz2 rfl (by decide) v s.size (bytesV s) hx hown ad t.size c (bytesV t) hy
      (by rw [bytesV_len, Nat.mul_one]) ?_ ?_ (by unfold maxLen; omega) (by omega) hbase ?_
    · intro j u hj
      have hjl : j < t.size := by
        rcases Nat.lt_or_ge j t.size with h | h
        · exact h
        · rw [List.getElem?_eq_none (by rw [bytesV_len]; exact h)] at hj; cases hj
      rw [bytesV_at t j hjl] at hj
      rcases ht with h0 | ⟨b, off, e, hb, _⟩
      · omega
      · cases e
        have e2 : (⟨b, off, none⟩ : Addr).add j = ⟨b, off + j, none⟩ := by unfold Addr.add; split <;> simp_all
        rw [e2, hb j hjl]
        exact hj
    · intro u hu
      simp only [bytesV, List.mem_map] at hu
      obtain ⟨b, _, rfl⟩ := hu
      rfl
    · intro v' w' h2 h3 _
      refine h v' w' ?_ h3
      unfold OwnB
      rw [bytesV_app, ByteArray.size_append]
      exact h2

end Go.Proofs.Ytiifakdpacicjaa
