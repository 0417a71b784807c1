import Derived.Test.YtggfgagokbkplaaGreatDoorPlD
namespace Go.Proofs.YtggfgagokbkplaaGreatDoor
open Go.RowKit

theorem tailV_size {s : ByteArray} {i n : Nat} {v l : Int} (h : i < s.size) (hn : 1 ≤ n) : 1 ≤ (tailV s i n v l).1 ∧ (i : Int) + (tailV s i n v l).1 ≤ s.size := by
  unfold tailV
  split
  · exact ⟨by decide, by simp only; omega⟩
  · split
    · exact ⟨by decide, by simp only; omega⟩
    · split
      · exact ⟨by decide, by simp only; omega⟩
      · exact ⟨by simp only; omega, by simp only; omega⟩
theorem signF_size {s : ByteArray} {i : Nat} (h : i < s.size) : 1 ≤ (signF s i).1 ∧ (i : Int) + (signF s i).1 ≤ s.size := by
  unfold signF
  simp only
  split
  · exact ⟨by simp only; omega, by simp only; omega⟩
  split
  · exact tailV_size h (by decide)
  split
  · exact tailV_size h (by decide)
  split
  · exact tailV_size h (by decide)
  · exact ⟨by decide, by simp only; omega⟩
/-- How many bytes the sign at a place has. -/
def signN (s : ByteArray) (i : Nat) : Nat := (signF s i).1.toNat
theorem signN_size {s : ByteArray} {i : Nat} (h : i < s.size) : 1 ≤ signN s i ∧ i + signN s i ≤ s.size ∧ (signF s i).1 = signN s i := by
  have := signF_size h
  unfold signN
  omega
def signV (s : ByteArray) (i : Nat) : Int := (signF s i).2

/-- The bytes of a slice. -/
def BSl (w : World) (p : Option Addr) (s : ByteArray) : Prop := s.size = 0 ∨ ∃ b o, p = some ⟨b, o, none⟩ ∧ BytesN w b o s ∧ b < w.heap.size

theorem sign_at (p : Option Addr) (cap : Nat) (s : ByteArray) (w : World) (hb : BSl w p s) (hs : s.size ≤ 4611686018427387904) (i : Nat) (h : i < s.size) :
    Calls Tryz.prog 97 #[.slice p s.size cap, .int .i64 i] w fun e w' => e = .returned (.tuple #[.int .i64 (signN s i), .int .i64 (signV s i)]) ∧ w' = w := by
  rcases hb with h0 | ⟨b, o, rfl, hb, _⟩
  · omega
  · have hn := (signN_size h).2.2
    rw [← hn]
    exact sign_any b o cap s w hb hs i h

def wrongR (s : ByteArray) : Nat → Nat → Int
  | 0, _ => -1
  | f + 1, i => if i < s.size then (if signV s i ≤ 0 ∨ (signV s i = 65279 ∧ 0 < i) then (i : Int) else wrongR s f (i + signN s i)) else -1

set_option maxHeartbeats 800000 in
theorem refWrong_any (p : Option Addr) (cap : Nat) (s : ByteArray) (w : World) (hb : BSl w p s) (hs : s.size ≤ 4611686018427387904) :
    Calls Tryz.prog 65 #[.slice p s.size cap] w fun e w' => e = .returned (.int .i64 (wrongR s (s.size + 1) 0)) ∧ w' = w := by
  have HB := Lib.hid hb; clear hb
  go_enter Tryz.func65, Tryz.ntmps65
  go_wp2_with fail
  go_loop [3] (fun i => ∃ (f k : Nat), i = .int .i64 k ∧ s.size < f + k ∧ k ≤ s.size ∧ wrongR s (s.size + 1) 0 = wrongR s f k) (fun i => s.size - (intOf i).toNat)
  case atStart => exact ⟨s.size + 1, 0, rfl, by omega, by omega, rfl⟩
  case round =>
    obtain ⟨f, k, rfl, hf, hk, he⟩ := hrel
    obtain ⟨f, rfl⟩ : ∃ g, f = g + 1 := ⟨f - 1, by omega⟩
    have HE := Lib.hid he; clear he
    by_cases hlt : k < s.size
    · have hg : Hid (wrongR s (f + 1) k = if signV s k ≤ 0 ∨ (signV s k = 65279 ∧ 0 < k) then (k : Int) else wrongR s f (k + signN s k)) := by
        show _ = _; rw [wrongR, if_pos hlt]
      obtain ⟨n1, n2, n3⟩ := signN_size hlt
      clear n3
      go_wp2_with fail
      refine (sign_at p cap s w HB.out hs k hlt).mono ?_
      rintro e w' ⟨rfl, rfl⟩
      generalize hv : signV s k = v at hg ⊢
      generalize hn : signN s k = n at hg n1 n2 ⊢
      clear hv hn
      by_cases h1 : v ≤ 0
      · have HN : Hid (wrongR s (s.size + 1) 0 = k) := by show _ = _; rw [HE.out, hg.out, if_pos (.inl h1)]
        go_wp2_with fail
        go_ret
        exact ⟨by rw [HN.out]; rfl, rfl⟩
      by_cases h2 : v = 65279
      · have h2' : (v == 65279) = true := by simp [h2]
        by_cases h3 : 0 < k
        · have HN : Hid (wrongR s (s.size + 1) 0 = k) := by show _ = _; rw [HE.out, hg.out, if_pos (.inr ⟨h2, h3⟩)]
          have h3' : (0 : Int) < k := by omega
          clear h2
          go_wp2_with fail
          go_ret
          exact ⟨by rw [HN.out]; rfl, rfl⟩
        · have HN : Hid (wrongR s (s.size + 1) 0 = wrongR s f (k + n)) := by show _ = _; rw [HE.out, hg.out, if_neg (by omega)]
          have h3' : ¬ (0 : Int) < k := by omega
          clear h2
          go_wp2_with fail
          refine ⟨⟨f, k + n, by go_num, by omega, by omega, HN.out⟩, ?_⟩
          simp [intOf]; omega
      · have h2' : (v == 65279) = false := by simp [h2]
        have HN : Hid (wrongR s (s.size + 1) 0 = wrongR s f (k + n)) := by show _ = _; rw [HE.out, hg.out, if_neg (by omega)]
        clear h2
        go_wp2_with fail
        refine ⟨⟨f, k + n, by go_num, by omega, by omega, HN.out⟩, ?_⟩
        simp [intOf]; omega
    · have HN : Hid (wrongR s (s.size + 1) 0 = -1) := by show _ = _; rw [HE.out, wrongR, if_neg hlt]
      go_wp2_with fail
      go_ret
      exact ⟨by rw [HN.out]; rfl, rfl⟩

end Go.Proofs.YtggfgagokbkplaaGreatDoor
