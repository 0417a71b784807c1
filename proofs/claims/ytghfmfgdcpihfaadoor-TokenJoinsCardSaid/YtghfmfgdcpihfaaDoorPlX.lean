import Derived.Test.YtghfmfgdcpihfaaDoorPlO1
import Derived.Test.YtghfmfgdcpihfaaDoorPlP
namespace Go.Proofs.YtghfmfgdcpihfaaDoor
open Go.RowKit

theorem byteN_left (a b : ByteArray) (i : Nat) (h : i < a.size) : byteN (a ++ b) i = byteN a i := by
  unfold byteN
  rw [ByteArray.data_append, Array.toList_append, List.getD, List.getD, List.getElem?_append_left (by simpa using h)]
theorem byteN_right (a b : ByteArray) (j : Nat) : byteN (a ++ b) (a.size + j) = byteN b j := by
  have hl : a.data.toList.length = a.size := by simp
  unfold byteN
  rw [ByteArray.data_append, Array.toList_append, List.getD, List.getD, List.getElem?_append_right (by omega)]
  congr 3
  omega

theorem contV_congr {s t : ByteArray} {a b : Nat} : ∀ (k i : Nat) (v : Int), (∀ j, i ≤ j → j < i + k → byteN s (a + j) = byteN t (b + j)) → contV s a k i v = contV t b k i v
  | 0, _, _, _ => rfl
  | k + 1, i, v, h => by
    rw [contV, contV, h i (by omega) (by omega)]
    rw [contV_congr k (i + 1) _ (fun j h1 h2 => h j (by omega) (by omega))]
theorem tailV_congr {s t : ByteArray} {a b n : Nat} {v l : Int} (hs : s.size < a + n ↔ t.size < b + n) (h : ¬ s.size < a + n → ∀ j, j < n → byteN s (a + j) = byteN t (b + j)) :
    tailV s a n v l = tailV t b n v l := by
  unfold tailV
  by_cases c : s.size < a + n
  · rw [if_pos c, if_pos (hs.1 c)]
  · rw [if_neg c, if_neg (fun k => c (hs.2 k)), contV_congr (n - 1) 1 v (fun j _ h2 => h c j (by omega))]
theorem signF_shift (a b : ByteArray) (j : Nat) (hj : j < b.size) : signF (a ++ b) (a.size + j) = signF b j := by
  have hs : (a ++ b).size = a.size + b.size := ByteArray.size_append
  have hb : ∀ n k, k < n → byteN (a ++ b) (a.size + j + k) = byteN b (j + k) := fun n k _ => by rw [Nat.add_assoc]; exact byteN_right a b _
  have h0 : byteN (a ++ b) (a.size + j) = byteN b j := byteN_right a b j
  unfold signF
  simp only [h0]
  rw [tailV_congr (n := 2) (by omega) (fun _ => hb 2), tailV_congr (n := 3) (by omega) (fun _ => hb 3), tailV_congr (n := 4) (by omega) (fun _ => hb 4)]
theorem signN_shift (a b : ByteArray) (j : Nat) (hj : j < b.size) : signN (a ++ b) (a.size + j) = signN b j := by
  unfold signN; rw [signF_shift a b j hj]
theorem signV_shift (a b : ByteArray) (j : Nat) (hj : j < b.size) : signV (a ++ b) (a.size + j) = signV b j := by
  unfold signV; rw [signF_shift a b j hj]

/-- A sign that lies whole in the first bytes. -/
theorem tailV_left (a b : ByteArray) (i n : Nat) (v l : Int) (h : i + n ≤ a.size) : tailV (a ++ b) i n v l = tailV a i n v l := by
  have hs : (a ++ b).size = a.size + b.size := ByteArray.size_append
  exact tailV_congr (by omega) (fun _ j hj => byteN_left a b _ (by omega))
theorem tailV_short {a : ByteArray} {i n : Nat} {v l : Int} (h : a.size < i + n) : tailV a i n v l = (1, -1) := by unfold tailV; rw [if_pos h]
theorem signF_left (a b : ByteArray) (i : Nat) (hi : i < a.size) (hv : 0 < signV a i) : signF (a ++ b) i = signF a i := by
  have h0 : byteN (a ++ b) i = byteN a i := byteN_left a b i hi
  unfold signV at hv
  have key : ∀ (n : Nat) (v l : Int), 0 < (tailV a i n v l).2 → tailV (a ++ b) i n v l = tailV a i n v l := by
    intro n v l h
    by_cases c : a.size < i + n
    · rw [tailV_short c] at h; simp at h
    · exact tailV_left a b i n v l (by omega)
  unfold signF at hv ⊢
  simp only [h0] at hv ⊢
  split
  · rfl
  · rename_i h1
    rw [if_neg h1] at hv
    split
    · rename_i h2; rw [if_pos h2] at hv; exact key _ _ _ hv
    · rename_i h2
      rw [if_neg h2] at hv
      split
      · rename_i h3; rw [if_pos h3] at hv; exact key _ _ _ hv
      · rename_i h3
        rw [if_neg h3] at hv
        split
        · rename_i h4; rw [if_pos h4] at hv; exact key _ _ _ hv
        · rfl

theorem wrongR_step {s : ByteArray} {f i : Nat} (h : i < s.size) (hg : ¬ (signV s i ≤ 0 ∨ (signV s i = 65279 ∧ 0 < i))) : wrongR s (f + 1) i = wrongR s f (i + signN s i) := by
  rw [wrongR, if_pos h, if_neg hg]
theorem wrongR_good {s : ByteArray} {f i : Nat} (h : i < s.size) (hg : wrongR s (f + 1) i = -1) : ¬ (signV s i ≤ 0 ∨ (signV s i = 65279 ∧ 0 < i)) := by
  intro hb
  rw [wrongR, if_pos h, if_pos hb] at hg
  omega

/-- Through the first text. -/
theorem wrong_left (a b : ByteArray) : ∀ (f i fa : Nat), (a ++ b).size < f + i → a.size < fa + i → i ≤ a.size → wrongR a fa i = -1 →
    ∃ f', (a ++ b).size < f' + a.size ∧ wrongR (a ++ b) f i = wrongR (a ++ b) f' a.size := by
  have hs : (a ++ b).size = a.size + b.size := ByteArray.size_append
  intro f
  induction f with
  | zero => intro i fa h1; omega
  | succ f ih =>
    intro i fa h1 h2 h3 hw
    by_cases hlt : i < a.size
    · obtain ⟨fa, rfl⟩ : ∃ g, fa = g + 1 := ⟨fa - 1, by omega⟩
      have hg := wrongR_good hlt hw
      have hv : 0 < signV a i := by omega
      have e := signF_left a b i hlt hv
      have eN : signN (a ++ b) i = signN a i := by unfold signN; rw [e]
      have eV : signV (a ++ b) i = signV a i := by unfold signV; rw [e]
      obtain ⟨n1, n2, _⟩ := signN_size hlt
      rw [wrongR_step (by omega) (by rw [eV]; exact hg), eN]
      rw [wrongR_step hlt hg] at hw
      exact ih _ fa (by omega) (by omega) n2 hw
    · obtain rfl : i = a.size := by omega
      exact ⟨f + 1, h1, rfl⟩
/-- Through the second one. -/
theorem wrong_right (a b : ByteArray) : ∀ (f j fb : Nat), b.size < f + j → b.size < fb + j → j ≤ b.size → wrongR b fb j = -1 → (j = 0 → a.size = 0 ∨ b.size = 0 ∨ signV b 0 ≠ 65279) →
    wrongR (a ++ b) f (a.size + j) = -1 := by
  have hs : (a ++ b).size = a.size + b.size := ByteArray.size_append
  intro f
  induction f with
  | zero => intro j fb h1; omega
  | succ f ih =>
    intro j fb h1 h2 h3 hw hm
    by_cases hlt : j < b.size
    · obtain ⟨fb, rfl⟩ : ∃ g, fb = g + 1 := ⟨fb - 1, by omega⟩
      have hg := wrongR_good hlt hw
      obtain ⟨n1, n2, _⟩ := signN_size hlt
      rw [wrongR_step (by omega) (by
        rw [signV_shift a b j hlt]
        rintro (h | ⟨h, h0⟩)
        · exact hg (.inl h)
        · by_cases hj : j = 0
          · subst hj
            rcases hm rfl with h4 | h4 | h4
            · omega
            · omega
            · exact h4 h
          · exact hg (.inr ⟨h, by omega⟩)), signN_shift a b j hlt, Nat.add_assoc]
      rw [wrongR_step hlt hg] at hw
      exact ih _ fb (by omega) (by omega) n2 hw (by omega)
    · rw [wrongR, if_neg (by omega)]

theorem mark_iff (s : ByteArray) (i : Nat) (h : i < s.size) : signV s i = 65279 ↔ (i + 3 ≤ s.size ∧ byteN s i = 239 ∧ byteN s (i + 1) = 187 ∧ byteN s (i + 2) = 191) := by
  rw [signV_dec s i h, decode_B s i h]
  have h0 := byteN_lt s i
  have h1 := byteN_lt s (i + 1)
  have h2 := byteN_lt s (i + 2)
  have h3 := byteN_lt s (i + 3)
  simp only [decB]
  generalize byteN s i = b0 at *
  generalize byteN s (i + 1) = b1 at *
  generalize byteN s (i + 2) = b2 at *
  generalize byteN s (i + 3) = b3 at *
  have bad : ((if ((65533, 1) : Nat × Nat) = (65533, 1) then (-1 : Int) else (((65533, 1) : Nat × Nat).1 : Int)) = 65279) = False := by
    rw [if_pos rfl]; simp
  have good : ∀ c k : Nat, 1 < k ∨ c < 128 → ((if (c, k) = (65533, 1) then (-1 : Int) else ((c, k).1 : Int)) = 65279) = (c = 65279) := by
    intro c k hk
    rw [if_neg (by simp; omega)]
    apply propext; simp only; omega
  split
  · rw [good _ _ (.inr (by omega))]; omega
  split
  · split
    · rw [good _ _ (.inl (by omega))]; omega
    · rw [bad]; simp only [false_iff]; omega
  split
  · split
    · rw [good _ _ (.inl (by omega))]; omega
    · rw [bad]; simp only [false_iff]; omega
  split
  · split
    · rw [good _ _ (.inl (by omega))]; omega
    · rw [bad]; simp only [false_iff]; omega
  · rw [bad]; simp only [false_iff]; omega

theorem texts_join (a b : ByteArray) (ha : wrongR a (a.size + 1) 0 = -1) (hb : wrongR b (b.size + 1) 0 = -1)
    (hm : a.size = 0 ∨ ¬ (3 ≤ b.size ∧ byteN b 0 = 239 ∧ byteN b 1 = 187 ∧ byteN b 2 = 191)) : wrongR (a ++ b) ((a ++ b).size + 1) 0 = -1 := by
  obtain ⟨f, h1, h2⟩ := wrong_left a b ((a ++ b).size + 1) 0 (a.size + 1) (by omega) (by omega) (by omega) ha
  have hs : (a ++ b).size = a.size + b.size := ByteArray.size_append
  rw [h2]
  refine wrong_right a b f 0 (b.size + 1) (by omega) (by omega) (by omega) hb (fun _ => ?_)
  by_cases h0 : b.size = 0
  · exact .inr (.inl h0)
  · rcases hm with hm | hm
    · exact .inl hm
    · refine .inr (.inr fun h => hm ?_)
      have := (mark_iff b 0 (by omega)).1 h
      simpa using this
theorem texts_marked (a b : ByteArray) (ha : wrongR a (a.size + 1) 0 = -1)
    (h0 : 0 < a.size) (hm : 3 ≤ b.size ∧ byteN b 0 = 239 ∧ byteN b 1 = 187 ∧ byteN b 2 = 191) : wrongR (a ++ b) ((a ++ b).size + 1) 0 = a.size := by
  obtain ⟨f, h1, h2⟩ := wrong_left a b ((a ++ b).size + 1) 0 (a.size + 1) (by omega) (by omega) (by omega) ha
  have hs : (a ++ b).size = a.size + b.size := ByteArray.size_append
  rw [h2]
  obtain ⟨f, rfl⟩ : ∃ g, f = g + 1 := ⟨f - 1, by omega⟩
  have hv : signV (a ++ b) (a.size + 0) = 65279 := by
    rw [signV_shift a b 0 (by omega)]
    exact (mark_iff b 0 (by omega)).2 (by simpa using hm)
  rw [Nat.add_zero] at hv
  rw [wrongR, if_pos (by omega), if_pos (.inr ⟨hv, h0⟩)]

end Go.Proofs.YtghfmfgdcpihfaaDoor
