import Derived.Test.YtppnjliamfnlkaaLtK
import Derived.Test.YtppnjliamfnlkaaLtJ
import Derived.Test.YtppnjliamfnlkaaShelf
import Derived.Test.YtppnjliamfnlkaaKit
namespace Go.Proofs.Ytppnjliamfnlkaa
open Go.RowKit
set_option linter.unusedSimpArgs false
set_option linter.unusedVariables false
set_option linter.unusedSectionVars false

/-! Layer 3: one byte, one sign behind a backslash. -/
/-- A meaning in block b: its bytes so far lie in blocks of their own, from B on. -/
def Mg (B b : Nat) (out : List Nat) (mv : Value) (w : World) : Prop :=
  b < B ∧ B ≤ w.heap.size ∧ ∃ vt, w.heap[b]? = some (.cells #[vt, mv] 67) ∧ w.ownsRow B 5 1 vt out.length (u8s out)
def MS (B b : Nat) : Nat → Prop := fun k => k = b ∨ B ≤ k
theorem Mg.below {B b : Nat} {out : List Nat} {mv : Value} {w w' : World} (h : Mg B b out mv w) (hb : Below w.heap.size w w') : Mg B b out mv w' := by
  obtain ⟨h0, h1, vt, h2, h3⟩ := h
  refine ⟨h0, Nat.le_trans h1 hb.size, vt, ?_, row_over h3 hb⟩
  rw [hb.block b (by omega)]; exact h2
theorem mg_kept {B b : Nat} {mv : Value} {vt : Value} {n : Nat} {xs : List Value} {w w1 : World} {o : Obj} (hb : b < B) (hB : B ≤ w.heap.size) (H1 : w.heap[b]? = some (.cells #[vt, mv] 67))
    (H2 : w.ownsRow B 5 1 vt n xs) (hg : (w.alloc o).grownBy w1 vt.ownBlock) : w1.heap[b]? = some (.cells #[vt, mv] 67) ∧ Keeps (MS B b) w w1 ∧ B ≤ w1.heap.size := by
  have hs := hg.size
  have hs2 : (w.alloc o).heap.size = w.heap.size + 1 := by simp
  refine ⟨?_, ⟨hg.os, hg.tape, hg.output, by omega, ?_⟩, by omega⟩
  · rw [hg.block b (by omega) (fun e => by have := (H2.lt b e.symm).1; omega), Below.heap_alloc _ _ _ (by omega)]; exact H1
  · intro k hk hS
    rw [hg.block k (by omega) (fun e => hS (.inr (H2.lt k e.symm).1)), Below.heap_alloc _ _ _ hk]
theorem mg_push {B b : Nat} {mv vt v' : Value} {w w1 : World} {l : List Nat} (hb : b < B) (hB : B ≤ w1.heap.size) (H1 : w1.heap[b]? = some (.cells #[vt, mv] 67)) (hK : Keeps (MS B b) w w1)
    {n : Nat} {xs : List Value} (hown : w1.ownsRow B 5 1 v' n xs) (hn : n = l.length) (hxs : xs = u8s l) : Mg B b l mv (w1.setCell ⟨b, 0, none⟩ v') ∧ Keeps (MS B b) w (w1.setCell ⟨b, 0, none⟩ v') := by
  subst hn hxs
  refine ⟨⟨hb, by simpa using hB, v', by simpa using heap_setCell H1 (i := 0) v', ?_⟩, hK.setCell (p := ⟨b, 0, none⟩) (.inl (.inl rfl)) _⟩
  exact ownsRow_setCell_other hown (fun e => by have := (hown.lt b e).1; omega) _

def PartP (B b : Nat) (out : List Nat) (mv : Value) (w : World) (rest : ByteArray) : Option (List Nat) → Ending → World → Prop
  | some l, e, w' => e = .returned (.string rest) ∧ Mg B b (out ++ l) mv w' ∧ Keeps (MS B b) w w'
  | none, e, w' => e = .panicked [{ v := .iface 22 (.int .i64 4), recovered := false }] ∧ Keeps (MS B b) w w'

def byteR (s : ByteArray) (n base : Nat) : Option (List Nat) := match reckR s n base with | none => none | some v => if v ≤ 255 then some [v] else none
def runeN (r : Nat) : List Nat := (Lib.encodeRuneZ r).map Int.toNat
def signR (s : ByteArray) (n : Nat) : Option (List Nat) := match reckR s n 16 with | none => none | some v => if v ≤ 1114111 ∧ Lib.validRune v = true then some (runeN v) else none
theorem runeN_cells (r : Nat) : Lib.runeCells r = u8s (runeN r) := by
  have h : ∀ x ∈ Lib.encodeRuneZ r, 0 ≤ x := by
    intro x hx
    unfold Lib.encodeRuneZ at hx
    repeat' split at hx
    all_goals (simp only [List.mem_cons, List.not_mem_nil, or_false] at hx; omega)
  simp only [Lib.runeCells, u8s, runeN, List.map_map]
  apply List.map_congr_left
  intro x hx
  have := h x hx
  simp only [Function.comp]
  congr 1
  omega

set_option maxHeartbeats 3200000 in
theorem oneByte_any (B b : Nat) (out : List Nat) (mv : Value) (s : ByteArray) (n base : Nat) (w : World) (hM : Mg B b out mv w) (hs2 : s.size ≤ 100000000) (hn : n ≤ 100) (hb2 : 2 ≤ base) (hb : base ≤ 16) (hp : base ^ n ≤ 4294967296) (hl : out.length ≤ 100000000) :
    Calls Try.prog 54 #[.pointer (some ⟨b, 0, none⟩), .string s, .int .i64 n, .int .u32 base] w (PartP B b out mv w (s.extract n s.size) (byteR s n base)) := by
  obtain ⟨i0, hi0, hz0, hz1, hz2⟩ := info_parts info8
  have hrk := reckon_any s n base w hs2 hn hb2 hb hp
  have hbyte : byteR s n base = match reckR s n base with | none => none | some v => if v ≤ 255 then some [v] else none := rfl
  have hlen : ∀ v, reckR s n base = some v → n ≤ s.size := by
    intro v hv
    unfold reckR at hv
    split at hv
    · simp at hv
    · omega
  clear hp
  generalize byteR s n base = R at *
  cases hr : reckR s n base with
  | none =>
    rw [hr] at hrk hbyte
    simp only at hbyte
    simp only [RecP] at hrk
    subst hbyte
    have HM := Lib.hid hM
    clear hM hlen hr
    go_enter Try.func54, Try.ntmps54
    go_wp2_with (go_at_call 64; with_reducible refine Calls.mono hrk ?_; rintro e w2 ⟨rfl, hb⟩)
    exact ⟨rfl, rfl, Keeps.of_below (by assumption) _⟩
  | some v =>
    rw [hr] at hrk hbyte
    simp only at hbyte
    simp only [RecP] at hrk
    have hnl := hlen v hr
    clear hlen hr
    by_cases h255 : v ≤ 255
    · rw [if_pos h255] at hbyte
      subst hbyte
      have hd : decide ((v : Int) ≤ 255) = true := by simp; omega
      have HM := Lib.hid hM
      clear hM
      go_enter Try.func54, Try.ntmps54
      go_wp2_with (first
        | (go_at_call 64; with_reducible refine Calls.mono hrk ?_; rintro e w2 ⟨rfl, hb⟩
           have hM2 := HM.out.below hb
           obtain ⟨q0, q1, vt, q2, q3⟩ := hM2
           have HB2 := Lib.hid hb
           have c0 := cell_of q2 0
           have f0 := free_of q2 0
           have H2 := Lib.hid q2
           have H3 := Lib.hid q3
           clear q2 q3 hb hrk)
        | (go_at_call 19; with_reducible refine Calls.mono (need_yes _ _) ?_; rintro e w3 ⟨rfl, hw3⟩; replace hw3 := hw3.symm; subst hw3)
        | (at_builtin; refine wpList_append_own _ rfl _ _ 32 rfl B 5 i0 (.int .u8 0) 1 1 Try.underlying32 hi0 hz0 hz1 hz2 rfl (by decide) _ _ _ rfl (H3.out.alloc _) ⟨w2.heap.size, 0, none⟩ 1 1 [.int .u8 (v : Int)] rfl rfl newsN ?c2 ?c3 ?c4 ?c5 ?_))
      case c2 => intro u hu; simp at hu; subst hu; rfl
      case c3 => unfold maxLen; omega
      case c4 => omega
      case c5 => simp; omega
      intro v' w1 hown' hgrow _
      obtain ⟨aa, cc, rfl⟩ := row_slice hown'
      obtain ⟨g1, g2, g3⟩ := mg_kept q0 q1 H2.out H3.out hgrow
      have p0 := cell_of g1 0
      have p1 := free_of g1 0
      have HG1 := Lib.hid g1
      have HG2 := Lib.hid g2
      have HO := Lib.hid hown'
      clear g1 g2 hown' hgrow c0 f0
      go_wp2_with fail
      go_ret
      have hp := mg_push (l := out ++ [v]) q0 g3 HG1.out HG2.out HO.out (by simp) (by simp [u8s])
      exact ⟨rfl, hp.1, (Keeps.of_below HB2.out _).trans hp.2⟩
    · rw [if_neg h255] at hbyte
      subst hbyte
      have hd : decide (v ≤ 255) = false := by simp; omega
      have hd' : decide ((v : Int) ≤ 255) = false := by simp; omega
      have HM := Lib.hid hM
      clear hM
      go_enter Try.func54, Try.ntmps54
      go_wp2_with (first
        | (go_at_call 64; with_reducible refine Calls.mono hrk ?_; rintro e w2 ⟨rfl, hb⟩)
        | (go_at_call 19; with_reducible refine Calls.mono (need_no _ _) ?_; rintro e w3 ⟨rfl, hw3⟩; replace hw3 := hw3.symm; subst hw3))
      exact ⟨rfl, rfl, Keeps.of_below (by assumption) _⟩

set_option maxHeartbeats 3200000 in
theorem oneSign_any (B b : Nat) (out : List Nat) (mv : Value) (s : ByteArray) (n : Nat) (w : World) (hM : Mg B b out mv w) (hs2 : s.size ≤ 100000000) (hn : n ≤ 8) (hl : out.length ≤ 100000000) :
    Calls Try.prog 55 #[.pointer (some ⟨b, 0, none⟩), .string s, .int .i64 n] w (PartP B b out mv w (s.extract n s.size) (signR s n)) := by
  have hp : 16 ^ n ≤ 4294967296 := Nat.le_trans (Nat.pow_le_pow_right (by omega) hn) (by decide)
  have hrk := reckon_any s n 16 w hs2 (by omega) (by omega) (by omega) hp
  have hbyte : signR s n = match reckR s n 16 with | none => none | some v => if v ≤ 1114111 ∧ Lib.validRune v = true then some (runeN v) else none := rfl
  have hlen : ∀ v, reckR s n 16 = some v → n ≤ s.size := by
    intro v hv
    unfold reckR at hv
    split at hv
    · simp at hv
    · omega
  clear hp
  generalize signR s n = R at *
  cases hr : reckR s n 16 with
  | none =>
    rw [hr] at hrk hbyte
    simp only at hbyte
    simp only [RecP] at hrk
    subst hbyte
    have HM := Lib.hid hM
    clear hM hlen hr
    go_enter Try.func55, Try.ntmps55
    go_wp2_with (go_at_call 64; with_reducible refine Calls.mono hrk ?_; rintro e w2 ⟨rfl, hb⟩)
    exact ⟨rfl, rfl, Keeps.of_below (by assumption) _⟩
  | some v =>
    rw [hr] at hrk hbyte
    simp only at hbyte
    simp only [RecP] at hrk
    have hnl := hlen v hr
    clear hlen hr
    have HM := Lib.hid hM
    clear hM
    by_cases hmax : v ≤ 1114111
    · have hd : decide (v ≤ 1114111) = true := by simp; omega
      have hd' : decide ((v : Int) ≤ 1114111) = true := by simp; omega
      cases hv : Lib.validRune v with
      | true =>
        rw [if_pos ⟨hmax, hv⟩] at hbyte
        subst hbyte
        have hrc := runeN_cells v
        have hvr := fun w => Try.utf8_ValidRune (v : Int) w
        rw [hv] at hvr
        clear hv
        have hlr : (runeN v).length ≤ 4 := by
          have : (Lib.runeCells (v : Int)).length ≤ 4 := by
            unfold Lib.runeCells Lib.encodeRuneZ
            repeat' split
            all_goals simp
          rw [hrc] at this; simpa [u8s_len] using this
        go_enter Try.func55, Try.ntmps55
        go_wp2_with (first
          | (go_at_call 64; with_reducible refine Calls.mono hrk ?_; rintro e w2 ⟨rfl, hb⟩
             have hM2 := HM.out.below hb
             obtain ⟨q0, q1, vt, q2, q3⟩ := hM2
             have HB2 := Lib.hid hb
             have c0 := cell_of q2 0
             have f0 := free_of q2 0
             have H2 := Lib.hid q2
             have har := Try.utf8_AppendRune_plain B vt out.length (u8s out) (v : Int) (by omega) (by omega) w2 q3 (by omega) q1
             have H3 := Lib.hid q3
             clear q2 q3 hb hrk)
          | (go_at_call 65; with_reducible refine Calls.mono (hvr _) ?_; rintro e w3 ⟨rfl, hw3⟩; replace hw3 := hw3.symm; subst hw3)
          | (go_at_call 19; with_reducible refine Calls.mono (need_yes _ _) ?_; rintro e w3 ⟨rfl, hw3⟩; replace hw3 := hw3.symm; subst hw3)
          | (go_at_call 66; with_reducible refine Calls.mono har ?_; rintro e w1 ⟨v', rfl, hown', o, hgrow⟩
             obtain ⟨aa, cc, rfl⟩ := row_slice hown'
             obtain ⟨g1, g2, g3⟩ := mg_kept q0 q1 H2.out H3.out hgrow
             have p0 := cell_of g1 0
             have p1 := free_of g1 0
             have HG1 := Lib.hid g1
             have HG2 := Lib.hid g2
             have HO := Lib.hid hown'
             clear g1 g2 hown' hgrow c0 f0 har))
        go_ret
        have hown := HO.out
        rw [hrc] at hown
        have hp := mg_push (l := out ++ runeN v) q0 g3 HG1.out HG2.out hown (by simp [u8s_len]) (by rw [u8s_app])
        exact ⟨rfl, hp.1, (Keeps.of_below HB2.out _).trans hp.2⟩
      | false =>
        rw [if_neg (by rw [hv]; simp)] at hbyte
        subst hbyte
        have hvr := fun w => Try.utf8_ValidRune (v : Int) w
        rw [hv] at hvr
        clear hv
        go_enter Try.func55, Try.ntmps55
        go_wp2_with (first
          | (go_at_call 64; with_reducible refine Calls.mono hrk ?_; rintro e w2 ⟨rfl, hb⟩)
          | (go_at_call 65; with_reducible refine Calls.mono (hvr _) ?_; rintro e w3 ⟨rfl, hw3⟩; replace hw3 := hw3.symm; subst hw3)
          | (go_at_call 19; with_reducible refine Calls.mono (need_no _ _) ?_; rintro e w3 ⟨rfl, hw3⟩; replace hw3 := hw3.symm; subst hw3))
        exact ⟨rfl, rfl, Keeps.of_below (by assumption) _⟩
    · rw [if_neg (by omega)] at hbyte
      subst hbyte
      have hd : decide (v ≤ 1114111) = false := by simp; omega
      have hd' : decide ((v : Int) ≤ 1114111) = false := by simp; omega
      go_enter Try.func55, Try.ntmps55
      go_wp2_with (first
        | (go_at_call 64; with_reducible refine Calls.mono hrk ?_; rintro e w2 ⟨rfl, hb⟩)
        | (go_at_call 19; with_reducible refine Calls.mono (need_no _ _) ?_; rintro e w3 ⟨rfl, hw3⟩; replace hw3 := hw3.symm; subst hw3))
      exact ⟨rfl, rfl, Keeps.of_below (by assumption) _⟩
end Go.Proofs.Ytppnjliamfnlkaa
