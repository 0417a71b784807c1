import Derived.Test.YtghfmfgdcpihfaaDoorTkS
import Derived.Lib.IndexMore
namespace Go.Proofs.YtghfmfgdcpihfaaDoor
open Go.RowKit
set_option linter.unusedSimpArgs false
set_option linter.unusedVariables false

/-- Where the walk over the signs of s stands after k signs. -/
def walkN (s : ByteArray) : Nat → Nat
  | 0 => 0
  | k + 1 => if walkN s k < s.size then walkN s k + (Utf8.decode s (walkN s k)).2 else walkN s k
/-- A sign begins at p, or s ends there. -/
def On (s : ByteArray) (p : Nat) : Prop := ∃ k, walkN s k = p

theorem walkN_le (s : ByteArray) : ∀ k, walkN s k ≤ s.size
  | 0 => Nat.zero_le _
  | k + 1 => by
    rw [walkN]
    split
    · rename_i h; exact (dec_width s _ h).2
    · exact walkN_le s k
theorem walkN_succ (s : ByteArray) (k : Nat) : walkN s k ≤ walkN s (k + 1) := by
  rw [walkN]; split <;> omega
theorem walkN_mono (s : ByteArray) {i j : Nat} (h : i ≤ j) : walkN s i ≤ walkN s j := by
  induction h with
  | refl => exact Nat.le_refl _
  | step _ ih => exact Nat.le_trans ih (walkN_succ s _)
theorem On.zero (s : ByteArray) : On s 0 := ⟨0, rfl⟩
theorem On.le {s : ByteArray} {p : Nat} (h : On s p) : p ≤ s.size := by obtain ⟨k, rfl⟩ := h; exact walkN_le s k
theorem On.step {s : ByteArray} {p : Nat} (h : On s p) (hp : p < s.size) : On s (p + (Utf8.decode s p).2) := by
  obtain ⟨k, rfl⟩ := h
  exact ⟨k + 1, by rw [walkN, if_pos hp]⟩
theorem On.lin {s : ByteArray} {p n : Nat} (hp : On s p) (hn : On s n) (h : p < n) : p + (Utf8.decode s p).2 ≤ n := by
  obtain ⟨i, rfl⟩ := hp
  obtain ⟨j, rfl⟩ := hn
  have hij : i + 1 ≤ j := by
    by_cases hc : j ≤ i
    · have := walkN_mono s hc; omega
    · omega
  have h1 := walkN_mono s hij
  have h2 := walkN_le s j
  rw [walkN, if_pos (by omega)] at h1
  exact h1
theorem inner_hi (s : ByteArray) (p j : Nat) (hp : p < s.size) (h0 : 0 < j) (hj : j < (Utf8.decode s p).2) : 128 ≤ byteN s (p + j) := by
  rw [signN_dec s p hp] at hj
  rcases sign_cases s p hp with ⟨h, _⟩ | ⟨h, _⟩ | ⟨_, _, _, h⟩
  · omega
  · omega
  · exact h j hj
/-- A sign of one byte stands wherever such a byte stands. -/
theorem on_low {s : ByteArray} {q : Nat} (hq : q < s.size) (hb : byteN s q < 128) : On s q := by
  have H : ∀ m k, q - walkN s k < m → walkN s k ≤ q → On s q := by
    intro m
    induction m with
    | zero => intro k h; omega
    | succ m ih =>
      intro k h1 h2
      by_cases he : walkN s k = q
      · exact ⟨k, he⟩
      · have hw : walkN s (k + 1) = walkN s k + (Utf8.decode s (walkN s k)).2 := by rw [walkN, if_pos (by omega)]
        have hd := dec_width s (walkN s k) (by omega)
        by_cases hle : walkN s (k + 1) ≤ q
        · exact ih (k + 1) (by omega) hle
        · have := inner_hi s (walkN s k) (q - walkN s k) (by omega) (by omega) (by omega)
          rw [show walkN s k + (q - walkN s k) = q from by omega] at this
          omega
  exact H (q + 1) 0 (by simp [walkN]) (Nat.zero_le _)
theorem on_low_next {s : ByteArray} {q : Nat} (hq : q < s.size) (hb : byteN s q < 128) : On s (q + 1) := by
  have h := (on_low hq hb).step hq
  have hd : (Utf8.decode s q).2 = 1 := by
    rcases dec_byte s q hq with ⟨_, h, _⟩ | ⟨_, h⟩
    · exact h
    · omega
  rw [hd] at h
  exact h

theorem byteN_tail (s : ByteArray) (a j : Nat) : byteN (s.extract a s.size) j = byteN s (a + j) := by
  by_cases h : j < s.size - a
  · exact byteN_ext s a s.size j h (Nat.le_refl _)
  · have h1 : (s.extract a s.size).data.toList.length ≤ j := by simp; omega
    have h2 : s.data.toList.length ≤ a + j := by simp; omega
    unfold byteN
    rw [List.getD_eq_getElem?_getD, List.getD_eq_getElem?_getD, List.getElem?_eq_none h1, List.getElem?_eq_none h2]
theorem decode_tail (s : ByteArray) (a i : Nat) (h : a + i < s.size) : Utf8.decode (s.extract a s.size) i = Utf8.decode s (a + i) := by
  rw [decode_B _ i (by simp; omega), decode_B s (a + i) h]
  simp only [byteN_tail]
  rw [show (s.extract a s.size).size - i = s.size - (a + i) from by simp; omega]
  simp only [Nat.add_assoc]

theorem before_on (s : ByteArray) (a : Nat) (q : Int → Bool) : ∀ (f i : Nat), (s.extract a s.size).size < f + i → On s (a + i) → a + i ≤ s.size →
    On s (a + beforeF (s.extract a s.size) q f i) := by
  intro f
  induction f with
  | zero =>
    intro i h1 h2 h3
    have : (s.extract a s.size).size = s.size - a := by simp
    omega
  | succ f ih =>
    intro i h1 h2 h3
    have hz : (s.extract a s.size).size = s.size - a := by simp
    rw [beforeF]
    by_cases hlt : i < (s.extract a s.size).size
    · rw [if_pos hlt, decode_tail s a i (by omega)]
      split
      · exact h2
      · have hs := h2.step (by omega)
        have hw := dec_width s (a + i) (by omega)
        rw [Nat.add_assoc] at hs
        exact ih _ (by omega) hs (by omega)
    · rw [if_neg hlt]
      rw [show a + (s.extract a s.size).size = a + i from by omega]
      exact h2

theorem pre_byte {l p : List UInt8} (h : p.isPrefixOf l = true) : ∀ j, j < p.length → l.getD j 0 = p.getD j 0 := by
  obtain ⟨t, rfl⟩ := List.isPrefixOf_iff_prefix.1 h
  intro j hj
  simp [List.getD_eq_getElem?_getD, List.getElem?_append_left hj]

theorem through_on (s : ByteArray) (a : Nat) (o c : ByteArray) (hc : 0 < c.size) (hl : byteN c (c.size - 1) < 128) (ho : o.size ≤ s.size - a)
    (h0 : (throughF (s.extract a s.size) o c).toNat ≠ 0) : On s (a + (throughF (s.extract a s.size) o c).toNat) := by
  unfold throughF at h0 ⊢
  rcases Lib.index_spec ((s.extract a s.size).data.toList.drop o.size) c.data.toList with ⟨h, _⟩ | ⟨i, h, hi, hocc, _⟩
  · simp only [h] at h0
    rw [if_pos (by decide)] at h0
    exact absurd rfl h0
  · have hroom := Lib.index_room ((s.extract a s.size).data.toList.drop o.size) c.data.toList (by rw [h]; omega)
    simp only [h] at h0 ⊢
    rw [if_neg (by omega)] at h0 ⊢
    rw [h] at hroom
    have hlen : ((s.extract a s.size).data.toList.drop o.size).length = s.size - a - o.size := by simp
    have hcl : c.data.toList.length = c.size := by simp
    rw [hlen, hcl] at hroom
    have hb := pre_byte hocc (c.size - 1) (by omega)
    have hb2 : byteN s (a + (o.size + i + (c.size - 1))) < 128 := by
      rw [← byteN_tail]
      unfold byteN at hl ⊢
      have e : (s.extract a s.size).data.toList.getD (o.size + i + (c.size - 1)) 0 = c.data.toList.getD (c.size - 1) 0 := by
        rw [← hb]
        simp [List.getD_eq_getElem?_getD, List.getElem?_drop, Nat.add_assoc]
      rw [e]; exact hl
    have := on_low_next (by omega) hb2
    rw [show a + ((o.size : Int) + (i : Int) + (c.size : Int)).toNat = a + (o.size + i + (c.size - 1)) + 1 from by omega]
    exact this

theorem quoted_byte (t : ByteArray) : ∀ (f i : Nat) (b : Bool), quotedF t f i b = 0 ∨ ∃ j, j < t.size ∧ byteN t j = 34 ∧ quotedF t f i b = (j : Int) + 2 := by
  intro f
  induction f with
  | zero => intro i b; exact .inl rfl
  | succ f ih =>
    intro i b
    rw [quotedF]
    split
    · rename_i hlt
      split
      · exact .inl rfl
      split
      · exact ih _ _
      split
      · exact ih _ _
      split
      · rename_i h34
        exact .inr ⟨i, hlt, by rw [dec_low hlt (by omega)]; exact h34, rfl⟩
      · exact ih _ _
    · exact .inl rfl

theorem signs_low : ∀ x ∈ signsL, 0 < x.size ∧ byteN x (x.size - 1) < 128 := by decide +kernel

theorem decB_mark {b0 b1 b2 b3 n : Nat} (h0 : b0 < 256) (h1 : b1 < 256) (h2 : b2 < 256) (h3 : b3 < 256) (h : (decB b0 b1 b2 b3 n).1 = 65279) : (decB b0 b1 b2 b3 n).2 = 3 ∧ b0 = 239 ∧ b1 = 187 ∧ b2 = 191 := by
  unfold decB at h ⊢
  by_cases c0 : b0 < 128
  · rw [if_pos c0] at h; simp only at h; omega
  rw [if_neg c0] at h ⊢
  by_cases c1 : 192 ≤ b0 ∧ b0 < 224 ∧ 1 < n ∧ 128 ≤ b1 ∧ b1 < 192
  · rw [if_pos c1] at h
    split at h <;> (simp only at h; omega)
  rw [if_neg c1] at h ⊢
  by_cases c2 : 224 ≤ b0 ∧ b0 < 240 ∧ (1 < n ∧ 128 ≤ b1 ∧ b1 < 192) ∧ (2 < n ∧ 128 ≤ b2 ∧ b2 < 192)
  · rw [if_pos c2] at h ⊢
    split at h
    · rename_i hc
      rw [if_pos hc]
      simp only at h
      refine ⟨rfl, ?_, ?_, ?_⟩ <;> omega
    · simp only at h; omega
  rw [if_neg c2] at h ⊢
  split at h
  · split at h
    · rename_i hc _; simp only at h; omega
    · simp only at h; omega
  · simp only at h; omega
theorem dec_mark {s : ByteArray} {i : Nat} (h : i < s.size) (hr : (Utf8.decode s i).1 = 65279) : (Utf8.decode s i).2 = 3 ∧ byteN s i = 239 ∧ byteN s (i + 1) = 187 ∧ byteN s (i + 2) = 191 := by
  rw [decode_B s i h] at hr ⊢
  exact decB_mark (byteN_lt s i) (byteN_lt s (i + 1)) (byteN_lt s (i + 2)) (byteN_lt s (i + 3)) hr
/-- The mark's three bytes are read as it. -/
theorem mark_dec {s : ByteArray} {i : Nat} (h0 : byteN s i = 239) (h1 : byteN s (i + 1) = 187) (h2 : byteN s (i + 2) = 191) : i + 2 < s.size ∧ Utf8.decode s i = (65279, 3) := by
  have hs : i + 2 < s.size := by
    by_cases hc : i + 2 < s.size
    · exact hc
    · exfalso
      have hl : s.data.toList.length ≤ i + 2 := by simp; omega
      unfold byteN at h2
      rw [List.getD_eq_getElem?_getD, List.getElem?_eq_none hl] at h2
      simp at h2
  refine ⟨hs, ?_⟩
  rw [decode_B s i (by omega), h0, h1, h2]
  unfold decB
  rw [if_neg (by omega), if_neg (by omega), if_pos (by omega), if_pos (by omega)]
end Go.Proofs.YtghfmfgdcpihfaaDoor
