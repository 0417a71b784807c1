import Derived.Test.YtjgpopjnmonlkaaGreatDoorVrC
import Derived.Test.YtjgpopjnmonlkaaGreatDoorPlA
import Derived.Test.YtjgpopjnmonlkaaGreatDoorTgF
namespace Go.Proofs.YtjgpopjnmonlkaaGreatDoor
open Go.RowKit Go.Shelf
set_option linter.unusedSimpArgs false
set_option linter.unusedVariables false
set_option linter.unusedSectionVars false

/-! Layer 4: Text; what the chapter's examples say. -/
theorem dec_small (u : Nat) (h : u < 100) : Lib.decDigits u = if u < 10 then [UInt8.ofNat (48 + u)] else [UInt8.ofNat (48 + u / 10), UInt8.ofNat (48 + u % 10)] := by
  rw [Lib.decDigits]
  by_cases h1 : u < 10
  · rw [dif_pos h1, if_pos h1]
  · rw [dif_neg h1, if_neg h1, Lib.decDigits, dif_pos (by omega)]; rfl
def textF (m : Int) : ByteArray := if m < 0 ∨ 99 < m then ⟨#[]⟩ else (⟨#[49, 46]⟩ : ByteArray) ++ ⟨(Lib.decDigits m.toNat).toArray⟩
set_option maxHeartbeats 800000 in
theorem text_v (m : Int) (w : World) :
    Calls Tryz.prog 49 #[.int .i64 m] w fun e w' => e = .returned (.string (textF m)) ∧ Below w.heap.size w w' := by
  by_cases h0 : m < 0
  · have ht : textF m = ⟨#[]⟩ := by unfold textF; rw [if_pos (.inl h0)]
    have hd : decide (m < 0) = true := decide_eq_true h0
    rw [ht]; clear ht
    go_enter Tryz.func49, Tryz.ntmps49
    go_wp2_with fail
    go_ret
    exact ⟨rfl, Below.refl _ _⟩
  have hd0 : decide (m < 0) = false := decide_eq_false h0
  by_cases h1 : 99 < m
  · have ht : textF m = ⟨#[]⟩ := by unfold textF; rw [if_pos (.inr h1)]
    have hd : decide (99 < m) = true := decide_eq_true h1
    rw [ht]; clear ht
    go_enter Tryz.func49, Tryz.ntmps49
    go_wp2_with fail
    go_ret
    exact ⟨rfl, Below.refl _ _⟩
  have hd1 : decide (99 < m) = false := decide_eq_false h1
  obtain ⟨n, rfl⟩ := Int.eq_ofNat_of_zero_le (show 0 ≤ m by omega)
  have hn99 : ¬ 99 < n := by omega
  have hn98 : n ≤ 99 := by omega
  have hn97 : (n : Int) ≤ 99 := by omega
  have ht : textF n = (⟨#[49, 46]⟩ : ByteArray) ++ ⟨(Lib.decDigits n).toArray⟩ := by unfold textF; rw [if_neg (by omega), Int.toNat_natCast]
  have hi := fun w => Tryz.strconv_Itoa_small n (by omega) w
  rw [ht]
  have hits : (⟨(Lib.decDigits n).toArray⟩ : ByteArray).size ≤ 2 := by
    show (Lib.decDigits n).toArray.size ≤ 2
    rw [dec_small n (by omega)]
    split <;> simp
  generalize (⟨(Lib.decDigits n).toArray⟩ : ByteArray) = it at *
  have hits2 : ¬ 9223372036854775807 < 2 + it.size := by omega
  clear ht
  go_enter Tryz.func49, Tryz.ntmps49
  go_wp2_with (go_at_call 63; with_reducible refine Calls.mono (hi _) ?_; rintro e w2 ⟨rfl, hw2⟩; replace hw2 := hw2.symm; subst hw2)
  go_ret
  exact ⟨rfl, Below.refl _ _⟩
/-! Layer 5: the version of a tag. -/
def goB : ByteArray := ⟨#[103, 111]⟩
def relF (t : ByteArray) : Int := if hasV t goB = true ∧ minorE (leadV t goB) = 0 ∧ textF (minorI (leadV t goB)) = leadV t goB then minorI (leadV t goB) else -1
theorem minorE_cases (s : ByteArray) : minorE s = 0 ∨ minorE s = 6 := by
  unfold minorE
  cases minorW s
  · exact .inr rfl
  · exact .inl rfl
theorem eq_list (a b : ByteArray) : (a.toList == b.toList) = decide (a = b) := by
  by_cases h : a = b
  · subst h; simp
  · rw [decide_eq_false h, beq_eq_false_iff_ne, Lib.toList_data, Lib.toList_data]
    intro h2
    apply h
    apply ByteArray.ext
    apply Array.toList_inj.1
    exact h2
set_option maxHeartbeats 1600000 in
theorem release_v (t : ByteArray) (w : World) (hs : t.size ≤ 2000000) (hE : EnvV w) :
    Calls Tryz.prog 34 #[.string t] w fun e w' => e = .returned (.int .i64 (relF t)) ∧ Below w.heap.size w w' := by
  have hC := fun w => cutp t goB w
  have hM := minor_v (leadV t goB) w (by have := lead_size t goB; omega) hE
  have hT := fun w => text_v (minorI (leadV t goB)) w
  have hec := minorE_cases (leadV t goB)
  have hel := eq_list (textF (minorI (leadV t goB))) (leadV t goB)
  have HC := Lib.hid hC
  have HM := Lib.hid hM
  have HT := Lib.hid hT
  unfold relF
  clear hC hM hT hE hs
  unfold goB at *
  generalize hasV t ⟨#[103, 111]⟩ = h at *
  generalize leadV t ⟨#[103, 111]⟩ = v at *
  generalize textF (minorI v) = x at *
  generalize minorI v = m at *
  generalize minorE v = e at *
  cases h with
  | false =>
    rw [if_neg (fun hh => (by cases hh.1))]
    go_enter Tryz.func34, Tryz.ntmps34
    go_wp2_with (first
      | (go_at_call 47; with_reducible refine Calls.mono (HC.out _) ?_; rintro e w1 ⟨rfl, hw1⟩; replace hw1 := hw1.symm; subst hw1)
      | (go_at_call 48; with_reducible refine Calls.mono HM.out ?_; rintro e w2 ⟨rfl, hb2⟩; have HB := Lib.hid hb2; clear hb2))
    go_ret
    exact ⟨by first | rfl | simp, HB.out⟩
  | true =>
    rcases hec with rfl | rfl
    · by_cases hx : x = v
      · rw [if_pos ⟨rfl, rfl, hx⟩]
        rw [decide_eq_true hx] at hel
        have hbn : (x.toList != v.toList) = false := by rw [bne, hel]; rfl
        clear hx
        go_enter Tryz.func34, Tryz.ntmps34
        go_wp2_with (first
          | (go_at_call 47; with_reducible refine Calls.mono (HC.out _) ?_; rintro e w1 ⟨rfl, hw1⟩; replace hw1 := hw1.symm; subst hw1)
          | (go_at_call 48; with_reducible refine Calls.mono HM.out ?_; rintro e w2 ⟨rfl, hb2⟩; have HB := Lib.hid hb2; clear hb2)
          | (go_at_call 49; with_reducible refine Calls.mono (HT.out _) ?_; rintro e w3 ⟨rfl, hb3⟩; have HB3 := Lib.hid (HB.out.trans (hb3.mono HB.out.size)); clear hb3))
        go_ret
        exact ⟨by first | rfl | simp, HB3.out⟩
      · rw [if_neg (fun hh => hx hh.2.2)]
        rw [decide_eq_false hx] at hel
        have hbn : (x.toList != v.toList) = true := by rw [bne, hel]; rfl
        clear hx
        go_enter Tryz.func34, Tryz.ntmps34
        go_wp2_with (first
          | (go_at_call 47; with_reducible refine Calls.mono (HC.out _) ?_; rintro e w1 ⟨rfl, hw1⟩; replace hw1 := hw1.symm; subst hw1)
          | (go_at_call 48; with_reducible refine Calls.mono HM.out ?_; rintro e w2 ⟨rfl, hb2⟩; have HB := Lib.hid hb2; clear hb2)
          | (go_at_call 49; with_reducible refine Calls.mono (HT.out _) ?_; rintro e w3 ⟨rfl, hb3⟩; have HB3 := Lib.hid (HB.out.trans (hb3.mono HB.out.size)); clear hb3))
        go_ret
        exact ⟨by first | rfl | simp, HB3.out⟩
    · rw [if_neg (fun hh => by have := hh.2.1; omega)]
      go_enter Tryz.func34, Tryz.ntmps34
      go_wp2_with (first
        | (go_at_call 47; with_reducible refine Calls.mono (HC.out _) ?_; rintro e w1 ⟨rfl, hw1⟩; replace hw1 := hw1.symm; subst hw1)
        | (go_at_call 48; with_reducible refine Calls.mono HM.out ?_; rintro e w2 ⟨rfl, hb2⟩; have HB := Lib.hid hb2; clear hb2))
      go_ret
      exact ⟨by first | rfl | simp, HB.out⟩
end Go.Proofs.YtjgpopjnmonlkaaGreatDoor
