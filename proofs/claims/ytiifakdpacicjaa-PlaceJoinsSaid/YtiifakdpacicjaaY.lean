import Derived.Test.YtiifakdpacicjaaX
namespace Go.Proofs.Ytiifakdpacicjaa
open Go.RowKit

theorem contV_none {s : ByteArray} {a : Nat} : ∀ (k i : Nat) (v : Int), (∃ j, i ≤ j ∧ j < i + k ∧ byteN s (a + j) < 128) → contV s a k i v = none
  | 0, i, v, ⟨j, h1, h2, _⟩ => by omega
  | k + 1, i, v, ⟨j, h1, h2, h3⟩ => by
    rw [contV]
    by_cases h : j = i
    · subst h; rw [if_pos (.inl h3)]
    · split
      · rfl
      · exact contV_none k (i + 1) _ ⟨j, by omega, by omega, h3⟩

/-- Ahead of a byte that goes on with no sign all signs are as they were. -/
theorem signF_ahead (a t : ByteArray) (i : Nat) (hi : i < a.size) (ht : byteN t 0 < 128) : signF (a ++ t) i = signF a i := by
  have hs : (a ++ t).size = a.size + t.size := ByteArray.size_append
  have h0 : byteN (a ++ t) i = byteN a i := byteN_left a t i hi
  have key : ∀ (n : Nat) (v l : Int), tailV (a ++ t) i n v l = tailV a i n v l := by
    intro n v l
    by_cases c : a.size < i + n
    · rw [tailV_short (a := a) c]
      unfold tailV
      by_cases c2 : (a ++ t).size < i + n
      · rw [if_pos c2]
      · rw [if_neg c2, contV_none (n - 1) 1 v ⟨a.size - i, by omega, by omega, by
          rw [show i + (a.size - i) = a.size + 0 by omega, byteN_right]; exact ht⟩]
    · exact tailV_left a t i n v l (by omega)
  unfold signF
  simp only [h0, key]

theorem of_left (a t : ByteArray) (ht : byteN t 0 < 128) (y : Nat) (hy : a.size ≤ y) : ∀ (f i l c fa : Nat), (a ++ t).size < f + i → a.size < fa + i → i ≤ a.size →
    ∃ f', (a ++ t).size < f' + a.size ∧ ofR (a ++ t) y f i l c = ofR (a ++ t) y f' a.size (ofR a a.size fa i l c).1 (ofR a a.size fa i l c).2 := by
  have hs : (a ++ t).size = a.size + t.size := ByteArray.size_append
  intro f
  induction f with
  | zero => intro i l c fa h1; omega
  | succ f ih =>
    intro i l c fa h1 h2 h3
    obtain ⟨fa, rfl⟩ : ∃ g, fa = g + 1 := ⟨fa - 1, by omega⟩
    by_cases hlt : i < a.size
    · have e := signF_ahead a t i hlt ht
      have eN : signN (a ++ t) i = signN a i := by unfold signN; rw [e]
      have eV : signV (a ++ t) i = signV a i := by unfold signV; rw [e]
      obtain ⟨n1, n2, _⟩ := signN_size hlt
      have e1 : ofR (a ++ t) y (f + 1) i l c = ofR (a ++ t) y f (i + signN a i) (if signV a i = 10 then l + 1 else l) (if signV a i = 10 then 1 else c + 1) := by
        rw [ofR, if_pos (show i < y by omega), eN]; simp only [eV]
      have e2 : ofR a a.size (fa + 1) i l c = ofR a a.size fa (i + signN a i) (if signV a i = 10 then l + 1 else l) (if signV a i = 10 then 1 else c + 1) := by
        rw [ofR, if_pos hlt]
      rw [e1, e2]
      exact ih _ _ _ fa (by omega) (by omega) n2
    · obtain rfl : i = a.size := by omega
      have e2 : ofR a a.size (fa + 1) a.size l c = (l, c) := by rw [ofR, if_neg (by omega)]
      rw [e2]
      exact ⟨f + 1, h1, rfl⟩

theorem of_right (p b : ByteArray) (k : Nat) (hk : k ≤ b.size) (L : Nat) : ∀ (f j l c fb : Nat), b.size < f + j → b.size < fb + j → j ≤ b.size →
    ofR (p ++ b) (p.size + k) f (p.size + j) (l + L) c = ((ofR b k fb j l c).1 + L, (ofR b k fb j l c).2) := by
  have hs : (p ++ b).size = p.size + b.size := ByteArray.size_append
  intro f
  induction f with
  | zero => intro j l c fb h1; omega
  | succ f ih =>
    intro j l c fb h1 h2 h3
    obtain ⟨fb, rfl⟩ : ∃ g, fb = g + 1 := ⟨fb - 1, by omega⟩
    by_cases hlt : j < k
    · have hj : j < b.size := by omega
      obtain ⟨n1, n2, _⟩ := signN_size hj
      have e1 : ofR (p ++ b) (p.size + k) (f + 1) (p.size + j) (l + L) c = ofR (p ++ b) (p.size + k) f (p.size + (j + signN b j)) ((if signV b j = 10 then l + 1 else l) + L) (if signV b j = 10 then 1 else c + 1) := by
        rw [ofR, if_pos (show p.size + j < p.size + k by omega), signN_shift p b j hj, signV_shift p b j hj, Nat.add_assoc]
        congr 1
        split <;> omega
      have e2 : ofR b k (fb + 1) j l c = ofR b k fb (j + signN b j) (if signV b j = 10 then l + 1 else l) (if signV b j = 10 then 1 else c + 1) := by
        rw [ofR, if_pos hlt]
      rw [e1, e2]
      exact ih _ _ _ fb (by omega) (by omega) n2
    · rw [ofR, if_neg (by omega), ofR, if_neg hlt]

def nl : ByteArray := ⟨#[10]⟩
theorem nl_size : nl.size = 1 := rfl
theorem nl_byte : byteN nl 0 = 10 := rfl

theorem placeR_join (a b : ByteArray) (k : Nat) (hk : k ≤ b.size) :
    placeR (a ++ nl ++ b) (a.size + 1 + k) = ((placeR b k).1 + (placeR a a.size).1, (placeR b k).2) := by
  have hs : (a ++ nl ++ b).size = a.size + 1 + b.size := by rw [ByteArray.size_append, ByteArray.size_append, nl_size]
  have hb0 : byteN (nl ++ b) 0 = 10 := by rw [byteN_left nl b 0 (by decide)]; rfl
  obtain ⟨f, h1, h2⟩ := of_left a (nl ++ b) (by omega) (a.size + 1 + k) (by omega) ((a ++ nl ++ b).size + 1) 0 1 1 (a.size + 1) (by rw [← ByteArray.append_assoc]; omega) (by omega) (by omega)
  rw [← ByteArray.append_assoc] at h1 h2
  unfold placeR
  rw [h2]
  generalize ofR a a.size (a.size + 1) 0 1 1 = g
  obtain ⟨f, rfl⟩ : ∃ g, f = g + 1 := ⟨f - 1, by omega⟩
  have hsg : signF (a ++ nl ++ b) a.size = (1, 10) := by
    have := signF_shift a (nl ++ b) 0 (by rw [ByteArray.size_append, nl_size]; omega)
    rw [← ByteArray.append_assoc, Nat.add_zero] at this
    rw [this]
    unfold signF
    simp [hb0]
  have hN : signN (a ++ nl ++ b) a.size = 1 := by unfold signN; rw [hsg]; rfl
  have hV : signV (a ++ nl ++ b) a.size = 10 := by unfold signV; rw [hsg]
  rw [ofR, if_pos (by omega), hN, if_pos hV, if_pos hV]
  have hp : (a ++ nl).size = a.size + 1 := by rw [ByteArray.size_append, nl_size]
  have := of_right (a ++ nl) b k hk g.1 f 0 1 1 (b.size + 1) (by omega) (by omega) (by omega)
  rw [hp, Nat.add_zero, Nat.add_comm 1 g.1] at this
  exact this

theorem tens_app (a b : ByteArray) : ∀ j, tens (a ++ b) (a.size + j) = tens (a ++ b) a.size + tens b j
  | 0 => rfl
  | j + 1 => by
    rw [← Nat.add_assoc, tens, tens_app a b j, byteN_right, tens]; omega
theorem tens_left (a b : ByteArray) : ∀ j, j ≤ a.size → tens (a ++ b) j = tens a j
  | 0, _ => rfl
  | j + 1, h => by rw [tens, tens, tens_left a b j (by omega), byteN_left a b j (by omega)]
theorem linesN_join (a b : ByteArray) : linesN (a ++ nl ++ b) = linesN a + linesN b := by
  have h1 : tens (a ++ nl ++ b) (a ++ nl ++ b).size = tens (a ++ nl) (a ++ nl).size + tens b b.size := by
    rw [ByteArray.size_append (a := a ++ nl), tens_app, tens_left _ _ _ (Nat.le_refl _)]
  have h2 : tens (a ++ nl) (a ++ nl).size = tens a a.size + 1 := by
    rw [ByteArray.size_append, tens_app, tens_left _ _ _ (Nat.le_refl _)]; rfl
  unfold linesN; omega

end Go.Proofs.Ytiifakdpacicjaa
