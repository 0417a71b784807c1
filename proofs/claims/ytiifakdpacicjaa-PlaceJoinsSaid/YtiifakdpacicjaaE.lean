import Derived.Test.YtiifakdpacicjaaD
namespace Go.Proofs.Ytiifakdpacicjaa
open Go.RowKit

theorem tailV_size {s : ByteArray} {i n : Nat} {v l : Int} (h : i < s.size) (hn : 1 ≤ n) : 1 ≤ (tailV s i n v l).1 ∧ (i : Int) + (tailV s i n v l).1 ≤ s.size := by
  unfold tailV
  split
  · exact ⟨by decide, by simp only; omega⟩
  · split
    · exact ⟨by decide, by simp only; omega⟩
    · split
      · exact ⟨by decide, by simp only; omega⟩
      · exact ⟨by simp only; omega, by simp only; omega⟩
theorem signF_size {s : ByteArray} {i : Nat} (h : i < s.size) : 1 ≤ (signF s i).1 ∧ (i : Int) + (signF s i).1 ≤ s.size := by
  unfold signF
  simp only
  split
  · exact ⟨by simp only; omega, by simp only; omega⟩
  split
  · exact tailV_size h (by decide)
  split
  · exact tailV_size h (by decide)
  split
  · exact tailV_size h (by decide)
  · exact ⟨by decide, by simp only; omega⟩
/-- How many bytes the sign at a place has. -/
def signN (s : ByteArray) (i : Nat) : Nat := (signF s i).1.toNat
theorem signN_size {s : ByteArray} {i : Nat} (h : i < s.size) : 1 ≤ signN s i ∧ i + signN s i ≤ s.size ∧ (signF s i).1 = signN s i := by
  have := signF_size h
  unfold signN
  omega
def signV (s : ByteArray) (i : Nat) : Int := (signF s i).2

/-- The bytes of a slice. -/
def BSl (w : World) (p : Option Addr) (s : ByteArray) : Prop := s.size = 0 ∨ ∃ b o, p = some ⟨b, o, none⟩ ∧ BytesN w b o s ∧ b < w.heap.size

theorem sign_at (p : Option Addr) (cap : Nat) (s : ByteArray) (w : World) (hb : BSl w p s) (hs : s.size ≤ 4611686018427387904) (i : Nat) (h : i < s.size) :
    Calls Try.prog 18 #[.slice p s.size cap, .int .i64 i] w fun e w' => e = .returned (.tuple #[.int .i64 (signN s i), .int .i64 (signV s i)]) ∧ w' = w := by
  rcases hb with h0 | ⟨b, o, rfl, hb, _⟩
  · omega
  · have hn := (signN_size h).2.2
    rw [← hn]
    exact sign_any b o cap s w hb hs i h

def wrongR (s : ByteArray) : Nat → Nat → Int
  | 0, _ => -1
  | f + 1, i => if i < s.size then (if signV s i ≤ 0 ∨ (signV s i = 65279 ∧ 0 < i) then (i : Int) else wrongR s f (i + signN s i)) else -1

set_option maxHeartbeats 800000 in
theorem refWrong_any (p : Option Addr) (cap : Nat) (s : ByteArray) (w : World) (hb : BSl w p s) (hs : s.size ≤ 4611686018427387904) :
    Calls Try.prog 11 #[.slice p s.size cap] w fun e w' => e = .returned (.int .i64 (wrongR s (s.size + 1) 0)) ∧ w' = w := by
  have HB := Lib.hid hb; clear hb
  go_enter Try.func11, Try.ntmps11
  go_wp2_with fail
  go_loop [3] (fun i => ∃ (f k : Nat), i = .int .i64 k ∧ s.size < f + k ∧ k ≤ s.size ∧ wrongR s (s.size + 1) 0 = wrongR s f k) (fun i => s.size - (intOf i).toNat)
  case atStart => exact ⟨s.size + 1, 0, rfl, by omega, by omega, rfl⟩
  case round =>
    obtain ⟨f, k, rfl, hf, hk, he⟩ := hrel
    obtain ⟨f, rfl⟩ : ∃ g, f = g + 1 := ⟨f - 1, by omega⟩
    have HE := Lib.hid he; clear he
    by_cases hlt : k < s.size
    · have hg : Hid (wrongR s (f + 1) k = if signV s k ≤ 0 ∨ (signV s k = 65279 ∧ 0 < k) then (k : Int) else wrongR s f (k + signN s k)) := by
        show _ = _; rw [wrongR, if_pos hlt]
      obtain ⟨n1, n2, n3⟩ := signN_size hlt
      clear n3
      go_wp2_with fail
      refine (sign_at p cap s w HB.out hs k hlt).mono ?_
      rintro e w' ⟨rfl, rfl⟩
      generalize hv : signV s k = v at hg ⊢
      generalize hn : signN s k = n at hg n1 n2 ⊢
      clear hv hn
      by_cases h1 : v ≤ 0
      · have HN : Hid (wrongR s (s.size + 1) 0 = k) := by show _ = _; rw [HE.out, hg.out, if_pos (.inl h1)]
        go_wp2_with fail
        go_ret
        exact ⟨by rw [HN.out]; rfl, rfl⟩
      by_cases h2 : v = 65279
      · have h2' : (v == 65279) = true := by simp [h2]
        by_cases h3 : 0 < k
        · have HN : Hid (wrongR s (s.size + 1) 0 = k) := by show _ = _; rw [HE.out, hg.out, if_pos (.inr ⟨h2, h3⟩)]
          have h3' : (0 : Int) < k := by omega
          clear h2
          go_wp2_with fail
          go_ret
          exact ⟨by rw [HN.out]; rfl, rfl⟩
        · have HN : Hid (wrongR s (s.size + 1) 0 = wrongR s f (k + n)) := by show _ = _; rw [HE.out, hg.out, if_neg (by omega)]
          have h3' : ¬ (0 : Int) < k := by omega
          clear h2
          go_wp2_with fail
          refine ⟨⟨f, k + n, by go_num, by omega, by omega, HN.out⟩, ?_⟩
          simp [intOf]; omega
      · have h2' : (v == 65279) = false := by simp [h2]
        have HN : Hid (wrongR s (s.size + 1) 0 = wrongR s f (k + n)) := by show _ = _; rw [HE.out, hg.out, if_neg (by omega)]
        clear h2
        go_wp2_with fail
        refine ⟨⟨f, k + n, by go_num, by omega, by omega, HN.out⟩, ?_⟩
        simp [intOf]; omega
    · have HN : Hid (wrongR s (s.size + 1) 0 = -1) := by show _ = _; rw [HE.out, wrongR, if_neg hlt]
      go_wp2_with fail
      go_ret
      exact ⟨by rw [HN.out]; rfl, rfl⟩

def ofR (s : ByteArray) (at_ : Nat) : Nat → Nat → Nat → Nat → Nat × Nat
  | 0, _, line, col => (line, col)
  | f + 1, i, line, col => if i < at_ then ofR s at_ f (i + signN s i) (if signV s i = 10 then line + 1 else line) (if signV s i = 10 then 1 else col + 1) else (line, col)

set_option maxHeartbeats 800000 in
theorem refOf_no (p : Option Addr) (n cap : Nat) (at_ : Int) (w : World) (ha : at_ < 0 ∨ (n : Int) < at_) :
    Calls Try.prog 15 #[.slice p n cap, .int .i64 at_] w fun e w' => e = .returned (.tuple #[.int .i64 0, .int .i64 0]) ∧ w' = w := by
  by_cases hn : at_ < 0
  · clear ha
    go_enter Try.func15, Try.ntmps15
    go_wp2_with fail
    go_ret2
    exact ⟨rfl, rfl⟩
  · have hn' : (n : Int) < at_ := by omega
    clear ha
    go_enter Try.func15, Try.ntmps15
    go_wp2_with fail
    go_ret2
    exact ⟨rfl, rfl⟩

set_option maxHeartbeats 800000 in
theorem refOf_any (p : Option Addr) (cap : Nat) (s : ByteArray) (w : World) (hb : BSl w p s) (hs : s.size ≤ 4611686018427387904) (at_ : Nat) (ha : at_ ≤ s.size) :
    Calls Try.prog 15 #[.slice p s.size cap, .int .i64 at_] w fun e w' => e = .returned (.tuple #[.int .i64 (ofR s at_ (s.size + 1) 0 1 1).1, .int .i64 (ofR s at_ (s.size + 1) 0 1 1).2]) ∧ w' = w := by
  have HB := Lib.hid hb; clear hb
  have hn : ¬ (at_ : Int) < 0 := by omega
  have hn' : ¬ (s.size : Int) < (at_ : Int) := by omega
  go_enter Try.func15, Try.ntmps15
  go_wp2_with fail
  go_loop [6, 7, 8] (fun l c i => ∃ (f k line col : Nat), i = .int .i64 k ∧ l = .int .i64 line ∧ c = .int .i64 col ∧ s.size < f + k ∧ k ≤ s.size ∧ line ≤ k + 1 ∧ col ≤ k + 1 ∧ ofR s at_ (s.size + 1) 0 1 1 = ofR s at_ f k line col) (fun _ _ i => s.size - (intOf i).toNat)
  case atStart => exact ⟨s.size + 1, 0, 1, 1, rfl, rfl, rfl, by omega, by omega, by omega, by omega, rfl⟩
  case round =>
    obtain ⟨f, k, line, col, rfl, rfl, rfl, hf, hk, hline, hcol, he⟩ := hrel
    obtain ⟨f, rfl⟩ : ∃ g, f = g + 1 := ⟨f - 1, by omega⟩
    have HE := Lib.hid he; clear he
    by_cases hlt : k < at_
    · have hg : Hid (ofR s at_ (f + 1) k line col = ofR s at_ f (k + signN s k) (if signV s k = 10 then line + 1 else line) (if signV s k = 10 then 1 else col + 1)) := by
        show _ = _; rw [ofR, if_pos hlt]
      obtain ⟨n1, n2, n3⟩ := signN_size (s := s) (i := k) (by omega)
      clear n3
      go_wp2_with fail
      refine (sign_at p cap s w HB.out hs k (by omega)).mono ?_
      rintro e w' ⟨rfl, rfl⟩
      generalize hv : signV s k = v at hg ⊢
      generalize hn : signN s k = n at hg n1 n2 ⊢
      clear hv hn
      by_cases h2 : v = 10
      · have h2' : (v == 10) = true := by simp [h2]
        have HN : Hid (ofR s at_ (s.size + 1) 0 1 1 = ofR s at_ f (k + n) (line + 1) 1) := by show _ = _; rw [HE.out, hg.out, if_pos h2, if_pos h2]
        clear h2 hg
        go_wp2_with fail
        go_round
        case rel => exact ⟨f, k + n, line + 1, 1, by go_num, by go_num, rfl, by omega, by omega, by omega, by omega, HN.out⟩
        case measure => simp [intOf]; omega
      · have h2' : (v == 10) = false := by simp [h2]
        have HN : Hid (ofR s at_ (s.size + 1) 0 1 1 = ofR s at_ f (k + n) line (col + 1)) := by show _ = _; rw [HE.out, hg.out, if_neg h2, if_neg h2]
        clear h2 hg
        go_wp2_with fail
        go_round
        case rel => exact ⟨f, k + n, line, col + 1, by go_num, rfl, by go_num, by omega, by omega, by omega, by omega, HN.out⟩
        case measure => simp [intOf]; omega
    · have HN : Hid (ofR s at_ (s.size + 1) 0 1 1 = (line, col)) := by show _ = _; rw [HE.out, ofR, if_neg hlt]
      go_wp2_with fail
      go_ret2
      exact ⟨by rw [HN.out]; rfl, rfl⟩

/-- How many of the first k bytes are 10. -/
def tens (s : ByteArray) : Nat → Nat
  | 0 => 0
  | k + 1 => tens s k + if byteN s k = 10 then 1 else 0
theorem tens_le (s : ByteArray) : ∀ k, tens s k ≤ k
  | 0 => Nat.le_refl _
  | k + 1 => by have := tens_le s k; simp only [tens]; split <;> omega

def linesN (s : ByteArray) : Nat := tens s s.size + 1

set_option maxHeartbeats 800000 in
theorem refLines_any (p : Option Addr) (cap : Nat) (s : ByteArray) (w : World) (hb : BSl w p s) (hs : s.size ≤ 4611686018427387904) :
    Calls Try.prog 13 #[.slice p s.size cap] w fun e w' => e = .returned (.int .i64 (linesN s)) ∧ w' = w := by
  have HB := Lib.hid hb; clear hb
  go_enter Try.func13, Try.ntmps13
  go_wp2_with fail
  go_loop [3, 4] (fun n i => ∃ (k m : Nat), i = .int .i64 k ∧ n = .int .i64 m ∧ k ≤ s.size ∧ m = tens s k + 1 ∧ m ≤ k + 1) (fun _ i => s.size - (intOf i).toNat)
  case atStart => exact ⟨0, 1, rfl, rfl, by omega, rfl, by omega⟩
  case round =>
    obtain ⟨k, m, rfl, rfl, hk, he, hm⟩ := hrel
    have HE := Lib.hid he; clear he
    have hm' := hm
    by_cases hlt : k < s.size
    · rcases HB.out with h0 | ⟨b, o, rfl, hb, _⟩
      · omega
      have hc := hb k hlt
      have hl := byteN_lt s k
      have hg : tens s (k + 1) = tens s k + if byteN s k = 10 then 1 else 0 := rfl
      generalize hd : byteN s k = d at hc hl hg
      clear hd hb
      by_cases h10 : d = 10
      · have HN : Hid (m + 1 = tens s (k + 1) + 1) := by show _ = _; rw [hg, if_pos h10, HE.out]
        have h10' : ((d : Int) == 10) = true := by simp [h10]
        clear h10 hg
        go_wp2_with fail
        go_round
        case rel => exact ⟨k + 1, m + 1, by go_num, by go_num, by omega, HN.out, by omega⟩
        case measure => simp [intOf]; omega
      · have HN : Hid (m = tens s (k + 1) + 1) := by show _ = _; rw [hg, if_neg h10, HE.out]
        have h10' : ((d : Int) == 10) = false := by simp; omega
        clear h10 hg
        go_wp2_with fail
        go_round
        case rel => exact ⟨k + 1, m, by go_num, rfl, by omega, HN.out, by omega⟩
        case measure => simp [intOf]; omega
    · obtain rfl : k = s.size := by omega
      go_wp2_with fail
      go_ret
      have hm2 : m = linesN s := HE.out
      exact ⟨by rw [← hm2]; rfl, rfl⟩

theorem field0 (x y : Int) (w : World) : (Instr.field 29 (.agg #[.int .i64 x, .int .i64 y]) 0).run Try.prog w = .ok (.int .i64 x) w := by kernel_rfl
theorem field1 (x y : Int) (w : World) : (Instr.field 29 (.agg #[.int .i64 x, .int .i64 y]) 1).run Try.prog w = .ok (.int .i64 y) w := by kernel_rfl

set_option maxHeartbeats 800000 in
theorem lines_any (p : Option Addr) (cap : Nat) (s : ByteArray) (w : World) (hs : s.size ≤ 4611686018427387904)
    (hc : ∀ x y z, (convert 22 9 (.slice p s.size cap)).run Try.prog (((w.alloc x).alloc y).alloc z) = .ok (.string s) (((w.alloc x).alloc y).alloc z)) :
    Calls Try.prog 12 #[.slice p s.size cap] w fun e w' => e = .returned (.int .i64 (ofF s s.size).1) ∧ Below w.heap.size w w' := by
  have HC := Lib.hid hc; clear hc
  go_enter Try.func12, Try.ntmps12
  go_wp2_with fail
  refine (of_yes p cap s s.size w hs HC.out (Nat.le_refl _)).mono ?_
  rintro e w' ⟨rfl, hb⟩
  have HBB := Lib.hid hb; clear hb
  have hf := fun w => field0 (ofF s s.size).1 (ofF s s.size).2 w
  go_wp2_with fail
  go_ret
  exact ⟨rfl, HBB.out⟩

end Go.Proofs.Ytiifakdpacicjaa
