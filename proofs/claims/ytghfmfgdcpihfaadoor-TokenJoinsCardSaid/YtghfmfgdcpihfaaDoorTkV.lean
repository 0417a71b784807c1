import Derived.Test.YtghfmfgdcpihfaaDoorTkU
namespace Go.Proofs.YtghfmfgdcpihfaaDoor
open Go.RowKit
set_option linter.unusedSimpArgs false
set_option linter.unusedVariables false

/-- What a step takes is not empty, and a sign begins behind it, or the end is there. -/
theorem takeF_on {src : ByteArray} {tk nt tk' nt' : List Tok} {at_ n : Nat} (ha : at_ < src.size) (hon : On src at_)
    (h : takeF src (src.extract at_ src.size) tk nt at_ ((Utf8.decode src at_).1 : Nat) = some (tk', nt', n)) : n ≠ 0 ∧ On src (at_ + n) := by
  have hz : (src.extract at_ src.size).size = src.size - at_ := by simp
  have hlow : (Utf8.decode src at_).1 < 128 → byteN src at_ = (Utf8.decode src at_).1 ∧ (Utf8.decode src at_).2 = 1 := fun hr => by
    rcases dec_byte src at_ ha with ⟨h1, h2, _⟩ | ⟨h1, _⟩
    · exact ⟨h1.symm, h2⟩
    · omega
  have hbef : ∀ q, On src (at_ + beforeF (src.extract at_ src.size) q ((src.extract at_ src.size).size + 1) 0) := fun q => before_on src at_ q _ 0 (by omega) hon (by omega)
  have hstep := hon.step ha
  unfold takeF at h
  split at h
  · rename_i h10
    cases h
    rw [(hlow (by omega)).2] at hstep
    exact ⟨by omega, hstep⟩
  split at h
  · rename_i hbl
    cases h
    have hr : (Utf8.decode src at_).1 = 32 ∨ (Utf8.decode src at_).1 = 9 ∨ (Utf8.decode src at_).1 = 13 ∨ (Utf8.decode src at_).1 = 65279 := by
      simp only [blankI, Bool.or_eq_true, beq_iff_eq] at hbl; omega
    unfold blankN
    by_cases hm : (Utf8.decode src at_).1 = 65279
    · rw [if_pos (by omega)]
      rw [(dec_mark ha hm).1] at hstep
      exact ⟨by decide, hstep⟩
    · rw [if_neg (by omega)]
      rw [(hlow (by omega)).2] at hstep
      exact ⟨by decide, hstep⟩
  split at h
  · unfold noteR at h
    split at h
    · cases h
    · rename_i hn; cases h; exact ⟨hn, hbef _⟩
  split at h
  · rename_i hp
    have ho : slashStar.size ≤ (src.extract at_ src.size).size := by simp [pre] at hp; simpa using hp.1
    unfold noteR at h
    split at h
    · cases h
    · rename_i hn; cases h
      exact ⟨hn, through_on src at_ slashStar starSlash (by decide) (by decide) (by omega) hn⟩
  split at h
  · unfold tokR at h
    split at h
    · cases h
    · rename_i hn; cases h; exact ⟨hn, hbef _⟩
  split at h
  · unfold tokR at h
    split at h
    · cases h
    · rename_i hn; cases h; exact ⟨hn, hbef _⟩
  split at h
  · unfold tokR at h
    split at h
    · cases h
    · rename_i hn; cases h
      refine ⟨hn, ?_⟩
      rcases quoted_byte ((src.extract at_ src.size).extract 1 (src.extract at_ src.size).size) (src.extract at_ src.size).size 0 false with h0 | ⟨j, hj, h34, he⟩
      · rw [h0] at hn; simp at hn
      · rw [he]
        rw [byteN_tail, byteN_tail] at h34
        have hj2 : j < src.size - at_ - 1 := by simpa using hj
        have := on_low_next (s := src) (q := at_ + (1 + j)) (by omega) (by omega)
        rw [show at_ + ((j : Int) + 2).toNat = at_ + (1 + j) + 1 from by omega]
        exact this
  split at h
  · unfold tokR at h
    split at h
    · cases h
    · rename_i hn; cases h
      exact ⟨hn, through_on src at_ tick tick (by decide) (by decide) (by show 1 ≤ _; omega) hn⟩
  · unfold tokR at h
    split at h
    · cases h
    · rename_i hn; cases h
      refine ⟨hn, ?_⟩
      have hle := firstSign_le (src.extract at_ src.size) signsL
      have hm := firstSign_mem _ _ hn
      generalize firstSign (src.extract at_ src.size) signsL = m at *
      rw [ext_ext src at_ m (by omega)] at hm
      obtain ⟨h1, h2⟩ := signs_low _ hm
      have hsz : (src.extract at_ (at_ + m)).size = m := by simp; omega
      rw [hsz, byteN_ext src at_ (at_ + m) (m - 1) (by omega) (by omega)] at h2
      have := on_low_next (s := src) (q := at_ + (m - 1)) (by omega) h2
      rw [show at_ + (m - 1) + 1 = at_ + m from by omega] at this
      exact this

/-- The scanner again, from token to token. -/
def cleanF (src : ByteArray) : Nat → Nat → List Tok → List Tok → Except Nat (List Tok × List Tok)
  | 0, _, tk, nt => .ok (tk, nt)
  | f + 1, at_, tk, nt => if at_ < src.size then
      (match takeF src (src.extract at_ src.size) tk nt at_ ((Utf8.decode src at_).1 : Nat) with
        | none => .error at_
        | some (tk', nt', m) => cleanF src f (at_ + m) tk' nt')
    else .ok (endF tk src.size, nt)

theorem all_clean (src : ByteArray) : ∀ (f g pos next : Nat) (tk nt : List Tok), On src pos → On src next → pos ≤ next → src.size < f + pos → src.size < g + next →
    allF src f pos next tk nt = cleanF src g next tk nt := by
  intro f
  induction f with
  | zero => intro g pos next tk nt h1; have := h1.le; omega
  | succ f ih =>
    intro g pos next tk nt h1 h2 h3 h4 h5
    obtain ⟨g, rfl⟩ : ∃ k, g = k + 1 := ⟨g - 1, by have := h2.le; omega⟩
    rw [allF]
    by_cases hlt : pos < src.size
    · rw [if_pos hlt]
      by_cases hn : pos < next
      · rw [if_pos hn]
        have := h1.lin h2 hn
        have hd := dec_width src pos hlt
        exact ih _ _ _ _ _ (h1.step hlt) h2 this (by omega) h5
      · obtain rfl : pos = next := by omega
        rw [if_neg hn, cleanF, if_pos hlt]
        have ht := fun tk' nt' n => takeF_on (tk := tk) (nt := nt) (tk' := tk') (nt' := nt') (n := n) hlt h1
        cases hT : takeF src (src.extract pos src.size) tk nt pos ((Utf8.decode src pos).1 : Nat) with
        | none => rfl
        | some r =>
          obtain ⟨tk', nt', m⟩ := r
          obtain ⟨hm, hon⟩ := ht _ _ _ hT
          have := h1.lin hon (by omega)
          have hd := dec_width src pos hlt
          exact ih _ _ _ _ _ (h1.step hlt) hon this (by omega) (by omega)
    · rw [if_neg hlt]
      have e1 := h1.le
      have e2 := h2.le
      obtain rfl : pos = src.size := by omega
      obtain rfl : next = src.size := by omega
      rw [cleanF, if_neg hlt]

theorem all_clean0 (src : ByteArray) : allF src (src.size + 1) 0 0 [] [] = cleanF src (src.size + 1) 0 [] [] :=
  all_clean src _ _ _ _ _ _ (On.zero _) (On.zero _) (Nat.le_refl _) (by omega) (by omega)
end Go.Proofs.YtghfmfgdcpihfaaDoor
