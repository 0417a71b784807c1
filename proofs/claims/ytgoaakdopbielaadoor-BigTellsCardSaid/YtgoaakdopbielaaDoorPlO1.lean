import Derived.Test.YtgoaakdopbielaaDoorPlN
namespace Go.Proofs.YtgoaakdopbielaaDoor
open Go.RowKit

theorem signN_dec (s : ByteArray) (i : Nat) (h : i < s.size) : (Utf8.decode s i).2 = signN s i := by
  rw [signN, signF_told s i h]; simp [told]
theorem signV_dec (s : ByteArray) (i : Nat) (h : i < s.size) : signV s i = if Utf8.decode s i = (65533, 1) then -1 else ((Utf8.decode s i).1 : Int) := by
  rw [signV, signF_told s i h]; simp [told]
theorem ten_dec (s : ByteArray) (i : Nat) (h : i < s.size) : ((Utf8.decode s i).1 = 10) = (signV s i = 10) := by
  rw [signV_dec s i h]
  split
  · rename_i e; rw [e]; simp
  · apply propext; omega

def SC (s : ByteArray) (i : Nat) (d : Nat × Nat) : Prop :=
    (d.2 = 1 ∧ byteN s i < 128 ∧ (if d = (65533, 1) then (-1 : Int) else (d.1 : Int)) = byteN s i) ∨ (d.2 = 1 ∧ 128 ≤ byteN s i ∧ (if d = (65533, 1) then (-1 : Int) else (d.1 : Int)) = -1) ∨
    (2 ≤ d.2 ∧ d.2 ≤ 4 ∧ 128 ≤ (if d = (65533, 1) then (-1 : Int) else (d.1 : Int)) ∧ ∀ j, j < d.2 → 128 ≤ byteN s (i + j))
theorem sc_bad {s : ByteArray} {i : Nat} (h : 128 ≤ byteN s i) : SC s i (65533, 1) := .inr (.inl ⟨rfl, h, rfl⟩)
theorem sc_good {s : ByteArray} {i c k : Nat} (h : 2 ≤ k) (h4 : k ≤ 4) (hc : 128 ≤ c) (hb : 128 ≤ byteN s i ∧ 128 ≤ byteN s (i + 1) ∧ (2 < k → 128 ≤ byteN s (i + 2)) ∧ (3 < k → 128 ≤ byteN s (i + 3))) : SC s i (c, k) := by
  refine .inr (.inr ⟨h, h4, ?_, ?_⟩)
  · rw [if_neg (by simp; omega)]; simp only; omega
  · intro j hj
    simp only at hj
    have : j = 0 ∨ j = 1 ∨ j = 2 ∨ j = 3 := by omega
    rcases this with rfl | rfl | rfl | rfl
    · exact hb.1
    · exact hb.2.1
    · exact hb.2.2.1 (by omega)
    · exact hb.2.2.2 (by omega)
theorem sc_low {s : ByteArray} {i c : Nat} (hc : c = byteN s i) (h : c < 128) : SC s i (c, 1) := by
  refine Or.inl ⟨rfl, by omega, ?_⟩
  rw [if_neg (by simp; omega)]
  simp only; omega
theorem sc_dec (s : ByteArray) (i : Nat) : SC s i (decB (byteN s i) (byteN s (i + 1)) (byteN s (i + 2)) (byteN s (i + 3)) (s.size - i)) := by
  unfold decB
  by_cases g0 : byteN s i < 128
  · rw [if_pos g0]
    exact sc_low rfl g0
  rw [if_neg g0]
  repeat' split
  all_goals (first | exact sc_good (by omega) (by omega) (by omega) ⟨by omega, by omega, by omega, by omega⟩ | exact sc_bad (by omega))

theorem sign_cases (s : ByteArray) (i : Nat) (h : i < s.size) :
    (signN s i = 1 ∧ byteN s i < 128 ∧ signV s i = byteN s i) ∨ (signN s i = 1 ∧ 128 ≤ byteN s i ∧ signV s i = -1) ∨
    (2 ≤ signN s i ∧ signN s i ≤ 4 ∧ 128 ≤ signV s i ∧ ∀ j, j < signN s i → 128 ≤ byteN s (i + j)) := by
  rw [signV_dec s i h, ← signN_dec s i h, decode_B s i h]
  exact sc_dec s i

theorem wrong_eq (s : ByteArray) : ∀ (f i l c : Nat), s.size < f + i → i ≤ s.size → eachF s (wrongStep s) f (-1) i l c = wrongR s f i := by
  intro f
  induction f with
  | zero => intro i l c h1 h2; omega
  | succ f ih =>
    intro i l c h1 h2
    by_cases hlt : i < s.size
    · have hb := bad_iff s i hlt
      obtain ⟨n1, n2, _⟩ := signN_size hlt
      rw [wrongR, if_pos hlt]
      by_cases hbad : badAt s i (Utf8.decode s i).1 = true
      · rw [eachF_stop hlt (st2 := (i : Int)) (by simp [wrongStep, hbad]), if_pos (hb.1 hbad)]
      · have hbad' : badAt s i (Utf8.decode s i).1 = false := by simpa using hbad
        rw [eachF_go hlt (st2 := (-1 : Int)) (by simp [wrongStep, hbad']), if_neg (fun h => hbad (hb.2 h)), signN_dec s i hlt]
        exact ih _ _ _ (by omega) (by omega)
    · obtain rfl : i = s.size := by omega
      rw [eachF_end hlt, wrongR, if_neg hlt]
      have : badAt s s.size (-1) = false := by simp [badAt, noSg]
      simp [wrongStep, this]
theorem wrongF_eq (s : ByteArray) : wrongF s = wrongR s (s.size + 1) 0 := wrong_eq s _ _ _ _ (by omega) (by omega)

end Go.Proofs.YtgoaakdopbielaaDoor
