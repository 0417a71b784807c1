import Derived.Test.YtlddbelpbgmljaaDoorMd
import Derived.Test.YtlddbelpbgmljaaDoorShelf
import Derived.Test.YtlddbelpbgmljaaDoorMa
import Derived.MapKept
import Derived.Laws.IdiomStrings
namespace Go.Proofs.YtlddbelpbgmljaaDoor
open Go.RowKit
set_option linter.unusedSimpArgs false
set_option linter.unusedVariables false
set_option linter.unusedSectionVars false

/-! Layer 3: one byte, one sign behind a backslash. -/
/-- A meaning in block b: its bytes so far lie in blocks of their own, from B on. -/
def Mg (B b : Nat) (out : List Nat) (mv : Value) (w : World) : Prop :=
  b < B ∧ B ≤ w.heap.size ∧ ∃ vt, w.heap[b]? = some (.cells #[vt, mv] 64) ∧ w.ownsRow B 5 1 vt out.length (u8s out)
def MS (B b : Nat) : Nat → Prop := fun k => k = b ∨ B ≤ k
theorem Mg.below {B b : Nat} {out : List Nat} {mv : Value} {w w' : World} (h : Mg B b out mv w) (hb : Below w.heap.size w w') : Mg B b out mv w' := by
  obtain ⟨h0, h1, vt, h2, h3⟩ := h
  refine ⟨h0, Nat.le_trans h1 hb.size, vt, ?_, row_over h3 hb⟩
  rw [hb.block b (by omega)]; exact h2
theorem mg_kept {B b : Nat} {mv : Value} {vt : Value} {n : Nat} {xs : List Value} {w w1 : World} {o : Obj} (hb : b < B) (hB : B ≤ w.heap.size) (H1 : w.heap[b]? = some (.cells #[vt, mv] 64))
    (H2 : w.ownsRow B 5 1 vt n xs) (hg : (w.alloc o).grownBy w1 vt.ownBlock) : w1.heap[b]? = some (.cells #[vt, mv] 64) ∧ Keeps (MS B b) w w1 ∧ B ≤ w1.heap.size := by
  have hs := hg.size
  have hs2 : (w.alloc o).heap.size = w.heap.size + 1 := by simp
  refine ⟨?_, ⟨hg.os, hg.tape, hg.output, by omega, ?_⟩, by omega⟩
  · rw [hg.block b (by omega) (fun e => by have := (H2.lt b e.symm).1; omega), Below.heap_alloc _ _ _ (by omega)]; exact H1
  · intro k hk hS
    rw [hg.block k (by omega) (fun e => hS (.inr (H2.lt k e.symm).1)), Below.heap_alloc _ _ _ hk]
theorem mg_push {B b : Nat} {mv vt v' : Value} {w w1 : World} {l : List Nat} (hb : b < B) (hB : B ≤ w1.heap.size) (H1 : w1.heap[b]? = some (.cells #[vt, mv] 64)) (hK : Keeps (MS B b) w w1)
    {n : Nat} {xs : List Value} (hown : w1.ownsRow B 5 1 v' n xs) (hn : n = l.length) (hxs : xs = u8s l) : Mg B b l mv (w1.setCell ⟨b, 0, none⟩ v') ∧ Keeps (MS B b) w (w1.setCell ⟨b, 0, none⟩ v') := by
  subst hn hxs
  refine ⟨⟨hb, by simpa using hB, v', by simpa using heap_setCell H1 (i := 0) v', ?_⟩, hK.setCell (p := ⟨b, 0, none⟩) (.inl (.inl rfl)) _⟩
  exact ownsRow_setCell_other hown (fun e => by have := (hown.lt b e).1; omega) _

def PartP (B b : Nat) (out : List Nat) (mv : Value) (w : World) (rest : ByteArray) : Option (List Nat) → Ending → World → Prop
  | some l, e, w' => e = .returned (.string rest) ∧ Mg B b (out ++ l) mv w' ∧ Keeps (MS B b) w w'
  | none, e, w' => e = .panicked [{ v := .iface 23 (.int .i64 4), recovered := false }] ∧ Keeps (MS B b) w w'

def byteR (s : ByteArray) (n base : Nat) : Option (List Nat) := match reckR s n base with | none => none | some v => if v ≤ 255 then some [v] else none
def runeN (r : Nat) : List Nat := (Lib.encodeRuneZ r).map Int.toNat
def signR (s : ByteArray) (n : Nat) : Option (List Nat) := match reckR s n 16 with | none => none | some v => if v ≤ 1114111 ∧ Lib.validRune v = true then some (runeN v) else none
theorem runeN_cells (r : Nat) : Lib.runeCells r = u8s (runeN r) := by
  have h : ∀ x ∈ Lib.encodeRuneZ r, 0 ≤ x := by
    intro x hx
    unfold Lib.encodeRuneZ at hx
    repeat' split at hx
    all_goals (simp only [List.mem_cons, List.not_mem_nil, or_false] at hx; omega)
  simp only [Lib.runeCells, u8s, runeN, List.map_map]
  apply List.map_congr_left
  intro x hx
  have := h x hx
  simp only [Function.comp]
  congr 1
  omega

set_option maxHeartbeats 3200000 in
theorem oneByte_any (B b : Nat) (out : List Nat) (mv : Value) (s : ByteArray) (n base : Nat) (w : World) (hM : Mg B b out mv w) (hs2 : s.size ≤ 100000000) (hn : n ≤ 100) (hb2 : 2 ≤ base) (hb : base ≤ 16) (hp : base ^ n ≤ 4294967296) (hl : out.length ≤ 100000000) :
    Calls Tryd.prog 45 #[.pointer (some ⟨b, 0, none⟩), .string s, .int .i64 n, .int .u32 base] w (PartP B b out mv w (s.extract n s.size) (byteR s n base)) := by
  obtain ⟨i0, hi0, hz0, hz1, hz2⟩ := info_parts info8
  have hrk := reckon_any s n base w hs2 hn hb2 hb hp
  have hbyte : byteR s n base = match reckR s n base with | none => none | some v => if v ≤ 255 then some [v] else none := rfl
  have hlen : ∀ v, reckR s n base = some v → n ≤ s.size := by
    intro v hv
    unfold reckR at hv
    split at hv
    · simp at hv
    · omega
  clear hp
  generalize byteR s n base = R at *
  cases hr : reckR s n base with
  | none =>
    rw [hr] at hrk hbyte
    simp only at hbyte
    simp only [RecP] at hrk
    subst hbyte
    have HM := Lib.hid hM
    clear hM hlen hr
    go_enter Tryd.func45, Tryd.ntmps45
    go_wp2_with (go_at_call 70; with_reducible refine Calls.mono hrk ?_; rintro e w2 ⟨rfl, hb⟩)
    exact ⟨rfl, rfl, Keeps.of_below (by assumption) _⟩
  | some v =>
    rw [hr] at hrk hbyte
    simp only at hbyte
    simp only [RecP] at hrk
    have hnl := hlen v hr
    clear hlen hr
    by_cases h255 : v ≤ 255
    · rw [if_pos h255] at hbyte
      subst hbyte
      have hd : decide ((v : Int) ≤ 255) = true := by simp; omega
      have HM := Lib.hid hM
      clear hM
      go_enter Tryd.func45, Tryd.ntmps45
      go_wp2_with (first
        | (go_at_call 70; with_reducible refine Calls.mono hrk ?_; rintro e w2 ⟨rfl, hb⟩
           have hM2 := HM.out.below hb
           obtain ⟨q0, q1, vt, q2, q3⟩ := hM2
           have HB2 := Lib.hid hb
           have c0 := cell_of q2 0
           have f0 := free_of q2 0
           have H2 := Lib.hid q2
           have H3 := Lib.hid q3
           clear q2 q3 hb hrk)
        | (go_at_call 13; with_reducible refine Calls.mono (need_yes _ _) ?_; rintro e w3 ⟨rfl, hw3⟩; replace hw3 := hw3.symm; subst hw3)
        | (at_builtin; refine wpList_append_own _ rfl _ _ 29 rfl B 5 i0 (.int .u8 0) 1 1 Tryd.underlying29 hi0 hz0 hz1 hz2 rfl (by decide) _ _ _ rfl (H3.out.alloc _) ⟨w2.heap.size, 0, none⟩ 1 1 [.int .u8 (v : Int)] rfl rfl newsN ?c2 ?c3 ?c4 ?c5 ?_))
      case c2 => intro u hu; simp at hu; subst hu; rfl
      case c3 => unfold maxLen; omega
      case c4 => omega
      case c5 => simp; omega
      intro v' w1 hown' hgrow _
      obtain ⟨aa, cc, rfl⟩ := row_slice hown'
      obtain ⟨g1, g2, g3⟩ := mg_kept q0 q1 H2.out H3.out hgrow
      have p0 := cell_of g1 0
      have p1 := free_of g1 0
      have HG1 := Lib.hid g1
      have HG2 := Lib.hid g2
      have HO := Lib.hid hown'
      clear g1 g2 hown' hgrow c0 f0
      go_wp2_with fail
      go_ret
      have hp := mg_push (l := out ++ [v]) q0 g3 HG1.out HG2.out HO.out (by simp) (by simp [u8s])
      exact ⟨rfl, hp.1, (Keeps.of_below HB2.out _).trans hp.2⟩
    · rw [if_neg h255] at hbyte
      subst hbyte
      have hd : decide (v ≤ 255) = false := by simp; omega
      have hd' : decide ((v : Int) ≤ 255) = false := by simp; omega
      have HM := Lib.hid hM
      clear hM
      go_enter Tryd.func45, Tryd.ntmps45
      go_wp2_with (first
        | (go_at_call 70; with_reducible refine Calls.mono hrk ?_; rintro e w2 ⟨rfl, hb⟩)
        | (go_at_call 13; with_reducible refine Calls.mono (need_no _ _) ?_; rintro e w3 ⟨rfl, hw3⟩; replace hw3 := hw3.symm; subst hw3))
      exact ⟨rfl, rfl, Keeps.of_below (by assumption) _⟩

set_option maxHeartbeats 3200000 in
theorem oneSign_any (B b : Nat) (out : List Nat) (mv : Value) (s : ByteArray) (n : Nat) (w : World) (hM : Mg B b out mv w) (hs2 : s.size ≤ 100000000) (hn : n ≤ 8) (hl : out.length ≤ 100000000) :
    Calls Tryd.prog 46 #[.pointer (some ⟨b, 0, none⟩), .string s, .int .i64 n] w (PartP B b out mv w (s.extract n s.size) (signR s n)) := by
  have hp : 16 ^ n ≤ 4294967296 := Nat.le_trans (Nat.pow_le_pow_right (by omega) hn) (by decide)
  have hrk := reckon_any s n 16 w hs2 (by omega) (by omega) (by omega) hp
  have hbyte : signR s n = match reckR s n 16 with | none => none | some v => if v ≤ 1114111 ∧ Lib.validRune v = true then some (runeN v) else none := rfl
  have hlen : ∀ v, reckR s n 16 = some v → n ≤ s.size := by
    intro v hv
    unfold reckR at hv
    split at hv
    · simp at hv
    · omega
  clear hp
  generalize signR s n = R at *
  cases hr : reckR s n 16 with
  | none =>
    rw [hr] at hrk hbyte
    simp only at hbyte
    simp only [RecP] at hrk
    subst hbyte
    have HM := Lib.hid hM
    clear hM hlen hr
    go_enter Tryd.func46, Tryd.ntmps46
    go_wp2_with (go_at_call 70; with_reducible refine Calls.mono hrk ?_; rintro e w2 ⟨rfl, hb⟩)
    exact ⟨rfl, rfl, Keeps.of_below (by assumption) _⟩
  | some v =>
    rw [hr] at hrk hbyte
    simp only at hbyte
    simp only [RecP] at hrk
    have hnl := hlen v hr
    clear hlen hr
    have HM := Lib.hid hM
    clear hM
    by_cases hmax : v ≤ 1114111
    · have hd : decide (v ≤ 1114111) = true := by simp; omega
      have hd' : decide ((v : Int) ≤ 1114111) = true := by simp; omega
      cases hv : Lib.validRune v with
      | true =>
        rw [if_pos ⟨hmax, hv⟩] at hbyte
        subst hbyte
        have hrc := runeN_cells v
        have hvr := fun w => Tryd.utf8_ValidRune (v : Int) w
        rw [hv] at hvr
        clear hv
        have hlr : (runeN v).length ≤ 4 := by
          have : (Lib.runeCells (v : Int)).length ≤ 4 := by
            unfold Lib.runeCells Lib.encodeRuneZ
            repeat' split
            all_goals simp
          rw [hrc] at this; simpa [u8s_len] using this
        go_enter Tryd.func46, Tryd.ntmps46
        go_wp2_with (first
          | (go_at_call 70; with_reducible refine Calls.mono hrk ?_; rintro e w2 ⟨rfl, hb⟩
             have hM2 := HM.out.below hb
             obtain ⟨q0, q1, vt, q2, q3⟩ := hM2
             have HB2 := Lib.hid hb
             have c0 := cell_of q2 0
             have f0 := free_of q2 0
             have H2 := Lib.hid q2
             have har := Tryd.utf8_AppendRune_plain B vt out.length (u8s out) (v : Int) (by omega) (by omega) w2 q3 (by omega) q1
             have H3 := Lib.hid q3
             clear q2 q3 hb hrk)
          | (go_at_call 71; with_reducible refine Calls.mono (hvr _) ?_; rintro e w3 ⟨rfl, hw3⟩; replace hw3 := hw3.symm; subst hw3)
          | (go_at_call 13; with_reducible refine Calls.mono (need_yes _ _) ?_; rintro e w3 ⟨rfl, hw3⟩; replace hw3 := hw3.symm; subst hw3)
          | (go_at_call 72; with_reducible refine Calls.mono har ?_; rintro e w1 ⟨v', rfl, hown', o, hgrow⟩
             obtain ⟨aa, cc, rfl⟩ := row_slice hown'
             obtain ⟨g1, g2, g3⟩ := mg_kept q0 q1 H2.out H3.out hgrow
             have p0 := cell_of g1 0
             have p1 := free_of g1 0
             have HG1 := Lib.hid g1
             have HG2 := Lib.hid g2
             have HO := Lib.hid hown'
             clear g1 g2 hown' hgrow c0 f0 har))
        go_ret
        have hown := HO.out
        rw [hrc] at hown
        have hp := mg_push (l := out ++ runeN v) q0 g3 HG1.out HG2.out hown (by simp [u8s_len]) (by rw [u8s_app])
        exact ⟨rfl, hp.1, (Keeps.of_below HB2.out _).trans hp.2⟩
      | false =>
        rw [if_neg (by rw [hv]; simp)] at hbyte
        subst hbyte
        have hvr := fun w => Tryd.utf8_ValidRune (v : Int) w
        rw [hv] at hvr
        clear hv
        go_enter Tryd.func46, Tryd.ntmps46
        go_wp2_with (first
          | (go_at_call 70; with_reducible refine Calls.mono hrk ?_; rintro e w2 ⟨rfl, hb⟩)
          | (go_at_call 71; with_reducible refine Calls.mono (hvr _) ?_; rintro e w3 ⟨rfl, hw3⟩; replace hw3 := hw3.symm; subst hw3)
          | (go_at_call 13; with_reducible refine Calls.mono (need_no _ _) ?_; rintro e w3 ⟨rfl, hw3⟩; replace hw3 := hw3.symm; subst hw3))
        exact ⟨rfl, rfl, Keeps.of_below (by assumption) _⟩
    · rw [if_neg (by omega)] at hbyte
      subst hbyte
      have hd : decide (v ≤ 1114111) = false := by simp; omega
      have hd' : decide ((v : Int) ≤ 1114111) = false := by simp; omega
      go_enter Tryd.func46, Tryd.ntmps46
      go_wp2_with (first
        | (go_at_call 70; with_reducible refine Calls.mono hrk ?_; rintro e w2 ⟨rfl, hb⟩)
        | (go_at_call 13; with_reducible refine Calls.mono (need_no _ _) ?_; rintro e w3 ⟨rfl, hw3⟩; replace hw3 := hw3.symm; subst hw3))
      exact ⟨rfl, rfl, Keeps.of_below (by assumption) _⟩
end Go.Proofs.YtlddbelpbgmljaaDoor
namespace Go.Proofs.YtlddbelpbgmljaaDoor
open Go.RowKit
set_option linter.unusedSimpArgs false
set_option linter.unusedVariables false
set_option linter.unusedSectionVars false

/-! Layer 3: the map of the signs behind a backslash. -/
def ent (k v n : Nat) : MapEntry := { key := .int .u8 (k : Int), val := .int .u8 (v : Int), born := n }
theorem push_set (h : Array Obj) (a b : Obj) : (h.push a).setIfInBounds h.size b = h.push b := by
  apply Array.ext_getElem?
  intro j
  rw [Array.getElem?_setIfInBounds, Array.getElem?_push, Array.getElem?_push]
  by_cases hj : j = h.size
  · subst hj; simp
  · rw [if_neg (fun e => hj e.symm), if_neg hj, if_neg hj]
theorem alloc_set (w : World) (a b : Obj) (w' : World) (h : w' = { w.alloc a with heap := (w.alloc a).heap.setIfInBounds w.heap.size b }) : w' = w.alloc b := by
  subst h
  have : (w.alloc a).heap.setIfInBounds w.heap.size b = (w.alloc b).heap := push_set _ _ _
  rw [this]
  rfl
theorem ins_new (w : World) (es : List MapEntry) (n : Nat) (k v : Int) (hf : Instr.findNow (.int .u8) (.int .u8 k) es 0 = some none) :
    (Instr.mapUpdate 62 (.map (some w.heap.size)) (.int .u8 k) (.int .u8 v)).run Tryd.prog (w.alloc (.map es.toArray n)) = .ok () (w.alloc (.map (es ++ [({ key := .int .u8 k, val := .int .u8 v, born := n } : MapEntry)]).toArray (n + 1))) := by
  have hb : (w.alloc (.map es.toArray n)).heap[w.heap.size]? = some (.map es.toArray n) := heap_alloc_new w _
  have hk : Tryd.prog.underlying 5 = some (.int .u8) := Tryd.underlying5
  have hc : (Instr.checkKey false 10000 5 (.int .u8 k)).run Tryd.prog (w.alloc (.map es.toArray n)) = .ok () (w.alloc (.map es.toArray n)) := MapKept.run_checkKey (k := .int .u8 k) hk (by simp [MapKept.IsKey]) false 9999
  have hm : Tryd.prog.underlying 62 = some (.map 5 5) := Tryd.underlying62
  simp [Instr.mapUpdate, run_underlying hm, MapKept.run_getObj_map hb, hc, MapKept.run_findKey hk hf, MapKept.run_setObj_map _ hb, Result.andThen]
  exact alloc_set w _ _ _ rfl
def E9 : List MapEntry := [ent 97 7 0, ent 98 8 1, ent 102 12 2, ent 110 10 3, ent 114 13 4, ent 116 9 5, ent 118 11 6, ent 92 92 7, ent 34 34 8]
/-- What stands alone behind a backslash. -/
def singleF (c : Nat) : Option Nat :=
  if c = 97 then some 7 else if c = 98 then some 8 else if c = 102 then some 12 else if c = 110 then some 10 else if c = 114 then some 13 else if c = 116 then some 9 else if c = 118 then some 11 else if c = 92 then some 92 else if c = 34 then some 34 else none
theorem find_c (c : Nat) : Instr.findNow (.int .u8) (.int .u8 (c : Int)) E9 0 = some ((singleF c).map fun v => (if c = 97 then 0 else if c = 98 then 1 else if c = 102 then 2 else if c = 110 then 3 else if c = 114 then 4 else if c = 116 then 5 else if c = 118 then 6 else if c = 92 then 7 else 8, .int .u8 (v : Int))) := by
  unfold singleF
  by_cases h0 : c = 97
  · subst h0; rfl
  by_cases h1 : c = 98
  · subst h1; rfl
  by_cases h2 : c = 102
  · subst h2; rfl
  by_cases h3 : c = 110
  · subst h3; rfl
  by_cases h4 : c = 114
  · subst h4; rfl
  by_cases h5 : c = 116
  · subst h5; rfl
  by_cases h6 : c = 118
  · subst h6; rfl
  by_cases h7 : c = 92
  · subst h7; rfl
  by_cases h8 : c = 34
  · subst h8; rfl
  simp only [h0, h1, h2, h3, h4, h5, h6, h7, h8, if_false, Option.map_none]
  rcases MapKept.findNow_spec (d := .int .u8) (k := .int .u8 (c : Int)) (by simp [MapKept.IsKey]) E9 0 (by simp [E9, ent, MapKept.IsKey]) with ⟨h, _⟩ | ⟨j, e, _, hj, he⟩
  · exact h
  · have hm := List.mem_of_getElem? hj
    simp only [E9, List.mem_cons, List.not_mem_nil, or_false] at hm
    exfalso
    rcases hm with rfl | rfl | rfl | rfl | rfl | rfl | rfl | rfl | rfl <;> (simp only [ent, Value.int.injEq, true_and] at he; omega)
theorem look9 (r c : Nat) (w : World) (hb : w.heap[r]? = some (.map E9.toArray 9)) :
    (Instr.lookup 62 (.map (some r)) (.int .u8 (c : Int)) true).run Tryd.prog w = .ok (.tuple #[.int .u8 (((singleF c).getD 0 : Nat) : Int), .bool (singleF c).isSome]) w := by
  have hk : Tryd.prog.underlying 5 = some (.int .u8) := Tryd.underlying5
  have hc : (Instr.checkKey false 10000 5 (.int .u8 (c : Int))).run Tryd.prog w = .ok () w := MapKept.run_checkKey (k := .int .u8 (c : Int)) hk (by simp [MapKept.IsKey]) false 9999
  have hm : Tryd.prog.underlying 62 = some (.map 5 5) := Tryd.underlying62
  have hz : (zeroValue 5).run Tryd.prog w = .ok (.int .u8 0) w := by kernel_rfl
  have hf := find_c c
  have hE : E9.isEmpty = false := rfl
  cases hs : singleF c with
  | none =>
    rw [hs] at hf
    simp [Instr.lookup, run_underlying hm, MapKept.run_getObj_map hb, hc, MapKept.run_findKey hk hf, hz, hE, Result.andThen]
  | some v =>
    rw [hs] at hf
    simp [Instr.lookup, run_underlying hm, MapKept.run_getObj_map hb, hc, MapKept.run_findKey hk hf, hz, hE, Result.andThen]

/-- What stands behind a backslash, and what is left. -/
def behindR (s : ByteArray) : Option (List Nat × ByteArray) :=
  if s.size = 0 then none
  else match singleF (byteN s 0) with
    | some v => some ([v], s.extract 1 s.size)
    | none =>
      if byteN s 0 = 120 then (byteR (s.extract 1 s.size) 2 16).map (fun l => (l, (s.extract 1 s.size).extract 2 (s.size - 1)))
      else if byteN s 0 = 117 then (signR (s.extract 1 s.size) 4).map (fun l => (l, (s.extract 1 s.size).extract 4 (s.size - 1)))
      else if byteN s 0 = 85 then (signR (s.extract 1 s.size) 8).map (fun l => (l, (s.extract 1 s.size).extract 8 (s.size - 1)))
      else (byteR s 3 8).map (fun l => (l, s.extract 3 s.size))
def PartQ (B b : Nat) (out : List Nat) (mv : Value) (w : World) : Option (List Nat × ByteArray) → Ending → World → Prop
  | some (l, rest), e, w' => e = .returned (.string rest) ∧ Mg B b (out ++ l) mv w' ∧ Keeps (MS B b) w w'
  | none, e, w' => e = .panicked [{ v := .iface 23 (.int .i64 4), recovered := false }] ∧ Keeps (MS B b) w w'
theorem partP_none {B b : Nat} {out : List Nat} {mv : Value} {w : World} {rest : ByteArray} {e : Ending} {w' : World} (h : PartP B b out mv w rest none e w') :
    e = .panicked [{ v := .iface 23 (.int .i64 4), recovered := false }] ∧ Keeps (MS B b) w w' := h
theorem partP_some {B b : Nat} {out : List Nat} {mv : Value} {w : World} {rest : ByteArray} {l : List Nat} {e : Ending} {w' : World} (h : PartP B b out mv w rest (some l) e w') :
    e = .returned (.string rest) ∧ Mg B b (out ++ l) mv w' ∧ Keeps (MS B b) w w' := h
theorem part_map {B b : Nat} {out : List Nat} {mv : Value} {w : World} {rest : ByteArray} {R : Option (List Nat)} {e : Ending} {w' : World} (h : PartP B b out mv w rest R e w') : PartQ B b out mv w (R.map (fun l => (l, rest))) e w' := by
  cases R <;> exact h
theorem partQ_none {B b : Nat} {out : List Nat} {mv : Value} {w w' : World} (h : Keeps (MS B b) w.drew w') : PartQ B b out mv w none (.panicked [{ v := .iface 23 (.int .i64 4), recovered := false }]) w' :=
  ⟨rfl, (Keeps.refl _ w).drew.trans h⟩
theorem partQ_some {B b : Nat} {out l : List Nat} {mv : Value} {rest : ByteArray} {w w' : World} (hm : Mg B b (out ++ l) mv w') (h : Keeps (MS B b) w.drew w') : PartQ B b out mv w (some (l, rest)) (.returned (.string rest)) w' :=
  ⟨rfl, hm, (Keeps.refl _ w).drew.trans h⟩
theorem Mg.drew {B b : Nat} {out : List Nat} {mv : Value} {w : World} (h : Mg B b out mv w) : Mg B b out mv w.drew := by
  obtain ⟨h0, h1, vt, h2, h3⟩ := h
  exact ⟨h0, h1, vt, h2, row_kept' h3⟩

set_option maxHeartbeats 6400000 in
theorem behind_in (B b mb : Nat) (out : List Nat) (s : ByteArray) (w : World) (hM : Mg B b out (.map (some mb)) w) (hmap : w.heap[mb]? = some (.map E9.toArray 9)) (h0 : 0 < s.size) (hs2 : s.size ≤ 100000000) (hl : out.length ≤ 100000000) :
    Calls Tryd.prog 37 #[.pointer (some ⟨b, 0, none⟩), .string s] w (PartQ B b out (.map (some mb)) w (behindR s)) := by
  obtain ⟨i0, hi0, hz0, hz1, hz2⟩ := info_parts info8
  have hx := str_byte s 0 h0
  have hc := byteN_lt s 0
  have hR : behindR s = match singleF (byteN s 0) with
    | some v => some ([v], s.extract 1 s.size)
    | none =>
      if byteN s 0 = 120 then (byteR (s.extract 1 s.size) 2 16).map (fun l => (l, (s.extract 1 s.size).extract 2 (s.size - 1)))
      else if byteN s 0 = 117 then (signR (s.extract 1 s.size) 4).map (fun l => (l, (s.extract 1 s.size).extract 4 (s.size - 1)))
      else if byteN s 0 = 85 then (signR (s.extract 1 s.size) 8).map (fun l => (l, (s.extract 1 s.size).extract 8 (s.size - 1)))
      else (byteR s 3 8).map (fun l => (l, s.extract 3 s.size)) := by rw [behindR, if_neg (show ¬ s.size = 0 by omega)]
  have hlk := look9 mb (byteN s 0) w.drew hmap
  have hl0 : ¬ s.toList = [] := by
    intro h
    rw [Lib.toList_data] at h
    have := congrArg List.length h
    have h2 : s.size = 0 := by simpa using this
    omega
  have hem : s.toList.isEmpty = false := by simp [hl0]
  have hM0 := hM
  obtain ⟨q0, q1, vt, q2, q3⟩ := hM
  have c0 := cell_of q2 0
  have c1 := cell_of q2 1
  have f0 := free_of q2 0
  have H2 := Lib.hid q2
  have H3 := Lib.hid q3
  have HM := Lib.hid hM0
  have hal := World.block_lt_of_cell? _ _ c0
  clear q2 q3 hM0 hmap
  generalize behindR s = R at *
  generalize byteN s 0 = c at *
  cases hs : singleF c with
  | some v =>
    rw [hs] at hlk hR
    simp only at hR
    subst hR
    simp only [Option.getD_some, Option.isSome_some] at hlk
    clear hs
    go_enter Tryd.func37, Tryd.ntmps37
    go_wp2_with (first
        | (go_at_call 13; with_reducible refine Calls.mono (need_yes _ _) ?_; rintro e w3 ⟨rfl, hw3⟩; replace hw3 := hw3.symm; subst hw3))
    go_region
    have H3' : Hid (w.drew.ownsRow B 5 1 vt out.length (u8s out)) := Lib.hid (row_kept' H3.out)
    all_goals
      go_wp2_with (first
        | (at_builtin; refine wpList_append_own _ rfl _ _ 29 rfl B 5 i0 (.int .u8 0) 1 1 Tryd.underlying29 hi0 hz0 hz1 hz2 rfl (by decide) _ _ _ rfl (H3'.out.alloc _) ⟨w.heap.size, 0, none⟩ 1 1 [.int .u8 (v : Int)] rfl rfl (newsN (w := w.drew)) ?c2 ?c3 ?c4 ?c5 ?_))
    case c2 => intro u hu; simp at hu; subst hu; rfl
    case c3 => unfold maxLen; omega
    case c4 => omega
    case c5 => simp; omega
    intro v' w1 hown' hgrow _
    obtain ⟨aa, cc, rfl⟩ := row_slice hown'
    obtain ⟨g1, g2, g3⟩ := mg_kept (w := w.drew) q0 q1 H2.out H3'.out hgrow
    have p0 := cell_of g1 0
    have p1 := free_of g1 0
    have HG1 := Lib.hid g1
    have HG2 := Lib.hid g2
    have HO := Lib.hid hown'
    have hs1 : 1 ≤ s.size := by omega
    clear g1 g2 hown' hgrow c0 f0 hlk c1
    go_wp2_with fail
    go_ret
    have hp := mg_push (l := out ++ [v]) q0 g3 HG1.out HG2.out HO.out (by simp) (by simp [u8s])
    exact ⟨rfl, hp.1, (Keeps.refl _ w).drew.trans hp.2⟩
  | none =>
    rw [hs] at hlk hR
    simp only at hR
    simp only [Option.getD_none, Option.isSome_none] at hlk
    clear hs
    have hs1 : 1 ≤ s.size := by omega
    by_cases k1 : c = 120
    · rw [if_pos k1] at hR
      subst hR
      subst k1
      rw [show ((120 : Nat) : Int) = 120 from rfl] at hlk
      have hcall := oneByte_any B b out (.map (some mb)) (s.extract 1 s.size) 2 16 w.drew HM.out.drew (by simp; omega) (by omega) (by omega) (by omega) (by decide) hl
      rw [show (s.extract 1 s.size).size = s.size - 1 from by simp] at hcall
      rw [show ((2 : Nat) : Int) = 2 from rfl, show ((16 : Nat) : Int) = 16 from rfl] at hcall
      generalize byteR (s.extract 1 s.size) 2 16 = Q at *
      cases Q with
      | none =>
        simp only [Option.map_none]
        go_enter Tryd.func37, Tryd.ntmps37
        go_wp2_with (first
          | (go_at_call 13; with_reducible refine Calls.mono (need_yes _ _) ?_; rintro e w3 ⟨rfl, hw3⟩; replace hw3 := hw3.symm; subst hw3))
        go_region
        all_goals
          go_wp2_with (go_at_call 45; with_reducible refine Calls.mono hcall ?_; intro e w2 h; obtain ⟨rfl, hk⟩ := partP_none h)
          exact ⟨rfl, partQ_none hk⟩
      | some l =>
        simp only [Option.map_some]
        go_enter Tryd.func37, Tryd.ntmps37
        go_wp2_with (first
          | (go_at_call 13; with_reducible refine Calls.mono (need_yes _ _) ?_; rintro e w3 ⟨rfl, hw3⟩; replace hw3 := hw3.symm; subst hw3))
        go_region
        all_goals
          go_wp2_with (go_at_call 45; with_reducible refine Calls.mono hcall ?_; intro e w2 h; obtain ⟨rfl, hm2, hk⟩ := partP_some h; have HM2 := Lib.hid hm2; have HK := Lib.hid hk; clear hm2 hk h)
          go_ret
          exact partQ_some HM2.out HK.out
    rw [if_neg k1] at hR
    have m1 : ((c : Int) == 120) = false := by simp; omega
    by_cases k2 : c = 117
    · rw [if_pos k2] at hR
      subst hR
      subst k2
      rw [show ((117 : Nat) : Int) = 117 from rfl] at hlk
      have hcall := oneSign_any B b out (.map (some mb)) (s.extract 1 s.size) 4 w.drew HM.out.drew (by simp; omega) (by omega) hl
      rw [show (s.extract 1 s.size).size = s.size - 1 from by simp] at hcall
      rw [show ((4 : Nat) : Int) = 4 from rfl] at hcall
      generalize signR (s.extract 1 s.size) 4 = Q at *
      cases Q with
      | none =>
        simp only [Option.map_none]
        go_enter Tryd.func37, Tryd.ntmps37
        go_wp2_with (first
          | (go_at_call 13; with_reducible refine Calls.mono (need_yes _ _) ?_; rintro e w3 ⟨rfl, hw3⟩; replace hw3 := hw3.symm; subst hw3))
        go_region
        all_goals
          go_wp2_with (go_at_call 46; with_reducible refine Calls.mono hcall ?_; intro e w2 h; obtain ⟨rfl, hk⟩ := partP_none h)
          exact ⟨rfl, partQ_none hk⟩
      | some l =>
        simp only [Option.map_some]
        go_enter Tryd.func37, Tryd.ntmps37
        go_wp2_with (first
          | (go_at_call 13; with_reducible refine Calls.mono (need_yes _ _) ?_; rintro e w3 ⟨rfl, hw3⟩; replace hw3 := hw3.symm; subst hw3))
        go_region
        all_goals
          go_wp2_with (go_at_call 46; with_reducible refine Calls.mono hcall ?_; intro e w2 h; obtain ⟨rfl, hm2, hk⟩ := partP_some h; have HM2 := Lib.hid hm2; have HK := Lib.hid hk; clear hm2 hk h)
          go_ret
          exact partQ_some HM2.out HK.out
    rw [if_neg k2] at hR
    have m2 : ((c : Int) == 117) = false := by simp; omega
    by_cases k3 : c = 85
    · rw [if_pos k3] at hR
      subst hR
      subst k3
      rw [show ((85 : Nat) : Int) = 85 from rfl] at hlk
      have hcall := oneSign_any B b out (.map (some mb)) (s.extract 1 s.size) 8 w.drew HM.out.drew (by simp; omega) (by omega) hl
      rw [show (s.extract 1 s.size).size = s.size - 1 from by simp] at hcall
      rw [show ((8 : Nat) : Int) = 8 from rfl] at hcall
      generalize signR (s.extract 1 s.size) 8 = Q at *
      cases Q with
      | none =>
        simp only [Option.map_none]
        go_enter Tryd.func37, Tryd.ntmps37
        go_wp2_with (first
          | (go_at_call 13; with_reducible refine Calls.mono (need_yes _ _) ?_; rintro e w3 ⟨rfl, hw3⟩; replace hw3 := hw3.symm; subst hw3))
        go_region
        all_goals
          go_wp2_with (go_at_call 46; with_reducible refine Calls.mono hcall ?_; intro e w2 h; obtain ⟨rfl, hk⟩ := partP_none h)
          exact ⟨rfl, partQ_none hk⟩
      | some l =>
        simp only [Option.map_some]
        go_enter Tryd.func37, Tryd.ntmps37
        go_wp2_with (first
          | (go_at_call 13; with_reducible refine Calls.mono (need_yes _ _) ?_; rintro e w3 ⟨rfl, hw3⟩; replace hw3 := hw3.symm; subst hw3))
        go_region
        all_goals
          go_wp2_with (go_at_call 46; with_reducible refine Calls.mono hcall ?_; intro e w2 h; obtain ⟨rfl, hm2, hk⟩ := partP_some h; have HM2 := Lib.hid hm2; have HK := Lib.hid hk; clear hm2 hk h)
          go_ret
          exact partQ_some HM2.out HK.out
    rw [if_neg k3] at hR
    have m3 : ((c : Int) == 85) = false := by simp; omega
    · subst hR
      have hcall := oneByte_any B b out (.map (some mb)) s 3 8 w.drew HM.out.drew hs2 (by omega) (by omega) (by omega) (by decide) hl
      rw [show ((3 : Nat) : Int) = 3 from rfl, show ((8 : Nat) : Int) = 8 from rfl] at hcall
      generalize byteR s 3 8 = Q at *
      cases Q with
      | none =>
        simp only [Option.map_none]
        go_enter Tryd.func37, Tryd.ntmps37
        go_wp2_with (first
          | (go_at_call 13; with_reducible refine Calls.mono (need_yes _ _) ?_; rintro e w3 ⟨rfl, hw3⟩; replace hw3 := hw3.symm; subst hw3))
        go_region
        all_goals
          go_wp2_with (go_at_call 45; with_reducible refine Calls.mono hcall ?_; intro e w2 h; obtain ⟨rfl, hk⟩ := partP_none h)
          exact ⟨rfl, partQ_none hk⟩
      | some l =>
        simp only [Option.map_some]
        go_enter Tryd.func37, Tryd.ntmps37
        go_wp2_with (first
          | (go_at_call 13; with_reducible refine Calls.mono (need_yes _ _) ?_; rintro e w3 ⟨rfl, hw3⟩; replace hw3 := hw3.symm; subst hw3))
        go_region
        all_goals
          go_wp2_with (go_at_call 45; with_reducible refine Calls.mono hcall ?_; intro e w2 h; obtain ⟨rfl, hm2, hk⟩ := partP_some h; have HM2 := Lib.hid hm2; have HK := Lib.hid hk; clear hm2 hk h)
          go_ret
          exact partQ_some HM2.out HK.out

theorem behind_no (b : Nat) (s : ByteArray) (w : World) (h0 : s.size = 0) :
    Calls Tryd.prog 37 #[.pointer (some ⟨b, 0, none⟩), .string s] w fun e w' => e = .panicked [{ v := .iface 23 (.int .i64 4), recovered := false }] ∧ w' = w := by
  have hl : s.toList = [] := by
    rw [Lib.toList_data]; exact List.eq_nil_of_length_eq_zero (by simpa using h0)
  have hem : s.toList.isEmpty = true := by simp [hl]
  go_enter Tryd.func37, Tryd.ntmps37
  go_wp2_with (first
        | (go_at_call 13; with_reducible refine Calls.mono (need_no _ _) ?_; rintro e w3 ⟨rfl, hw3⟩; replace hw3 := hw3.symm; subst hw3))
  exact ⟨rfl, rfl, rfl⟩
theorem behind_any (B b mb : Nat) (out : List Nat) (s : ByteArray) (w : World) (hM : Mg B b out (.map (some mb)) w) (hmap : w.heap[mb]? = some (.map E9.toArray 9)) (hs2 : s.size ≤ 100000000) (hl : out.length ≤ 100000000) :
    Calls Tryd.prog 37 #[.pointer (some ⟨b, 0, none⟩), .string s] w (PartQ B b out (.map (some mb)) w (behindR s)) := by
  by_cases h0 : s.size = 0
  · rw [behindR, if_pos h0]
    refine (behind_no b s w h0).mono ?_
    rintro e w' ⟨rfl, rfl⟩
    exact ⟨rfl, Keeps.refl _ _⟩
  · exact behind_in B b mb out s w hM hmap (by omega) hs2 hl
end Go.Proofs.YtlddbelpbgmljaaDoor
namespace Go.Proofs.YtlddbelpbgmljaaDoor
open Go.RowKit
set_option linter.unusedSimpArgs false
set_option linter.unusedVariables false
set_option linter.unusedSectionVars false

/-! Layer 3: strings.Cut at a backslash. -/
def bsl : ByteArray := ⟨#[92]⟩
theorem ix_lt {l : List UInt8} {c : UInt8} {k : Nat} (h : Lib.indexByte l c = k) : k < l.length := by
  have := (Lib.indexByte_some h).1
  exact (List.getElem?_eq_some_iff.1 this).1

set_option maxHeartbeats 1600000 in
theorem cutin_yes (s : ByteArray) (k : Nat) (w : World) (h : Lib.indexByte s.data.toList 92 = k) (hs : s.size ≤ 100000000) :
    Calls Tryd.prog 43 #[.string s, .string ⟨#[92]⟩] w fun e w' => e = .returned (.tuple #[.string (s.extract 0 k), .string (s.extract (k + 1) s.size), .bool true]) ∧ Below w.heap.size w w' := by
  have hk : k < s.size := by simpa using ix_lt h
  have hix := Tryd.stringslite_Index_one s 92 w
  rw [h] at hix
  have hk2 : k ≤ s.size := by omega
  have hk3 : (k : Int) ≤ s.size := by omega
  have hk4 : (k : Int) + 1 ≤ s.size := by omega
  have hk5 : k + 1 ≤ s.size := by omega
  clear h
  go_enter Tryd.func43, Tryd.ntmps43
  go_wp2_with (go_at_call 42; with_reducible refine Calls.mono hix ?_; rintro e w2 ⟨rfl, hw2⟩; replace hw2 := hw2.symm; subst hw2)
  go_region
  all_goals
    go_wp2_with fail
    refine bodyPost_ret (v := .tuple #[.string (s.extract 0 k), .string (s.extract (k + 1) s.size), .bool true]) ?_ rfl ⟨rfl, (Below.refl _ _).drew⟩
    simp [results, Tryd.results43, go_sem]
set_option maxHeartbeats 1600000 in
theorem cutin_no (s : ByteArray) (w : World) (h : Lib.indexByte s.data.toList 92 = -1) :
    Calls Tryd.prog 43 #[.string s, .string ⟨#[92]⟩] w fun e w' => e = .returned (.tuple #[.string s, .string ⟨#[]⟩, .bool false]) ∧ Below w.heap.size w w' := by
  have hix := Tryd.stringslite_Index_one s 92 w
  rw [h] at hix
  clear h
  go_enter Tryd.func43, Tryd.ntmps43
  go_wp2_with (go_at_call 42; with_reducible refine Calls.mono hix ?_; rintro e w2 ⟨rfl, hw2⟩; replace hw2 := hw2.symm; subst hw2)
  refine bodyPost_ret (v := .tuple #[.string s, .string ⟨#[]⟩, .bool false]) ?_ rfl ⟨rfl, Below.refl _ _⟩
  simp [results, Tryd.results43, go_sem]

def cutR (s : ByteArray) : ByteArray × ByteArray × Bool :=
  if Lib.indexByte s.data.toList 92 = -1 then (s, ⟨#[]⟩, false) else (s.extract 0 (Lib.indexByte s.data.toList 92).toNat, s.extract ((Lib.indexByte s.data.toList 92).toNat + 1) s.size, true)
theorem cutR_sizes (s : ByteArray) : (cutR s).1.size + (cutR s).2.1.size ≤ s.size ∧ ((cutR s).2.2 = true → (cutR s).1.size + (cutR s).2.1.size + 1 = s.size) := by
  unfold cutR
  split
  · refine ⟨?_, by simp⟩
    show s.size + 0 ≤ s.size
    omega
  · rename_i h
    have hge := Lib.indexByte_ge s.data.toList 92
    obtain ⟨k, hk⟩ : ∃ k : Nat, Lib.indexByte s.data.toList 92 = k := ⟨(Lib.indexByte s.data.toList 92).toNat, by omega⟩
    have hlt : k < s.size := by simpa using ix_lt hk
    rw [hk]
    simp only [Int.toNat_natCast, ByteArray.size_extract]
    omega
theorem cut_any (s : ByteArray) (w : World) (hs : s.size ≤ 100000000) :
    Calls Tryd.prog 35 #[.string s, .string ⟨#[92]⟩] w fun e w' => e = .returned (.tuple #[.string (cutR s).1, .string (cutR s).2.1, .bool (cutR s).2.2]) ∧ Below w.heap.size w w' := by
  have hin : Calls Tryd.prog 43 #[.string s, .string ⟨#[92]⟩] w fun e w' => e = .returned (.tuple #[.string (cutR s).1, .string (cutR s).2.1, .bool (cutR s).2.2]) ∧ Below w.heap.size w w' := by
    unfold cutR
    split
    · rename_i h
      exact cutin_no s w h
    · rename_i h
      have hge := Lib.indexByte_ge s.data.toList 92
      obtain ⟨k, hk⟩ : ∃ k : Nat, Lib.indexByte s.data.toList 92 = k := ⟨(Lib.indexByte s.data.toList 92).toNat, by omega⟩
      have := cutin_yes s k w hk hs
      rw [hk]
      exact this
  generalize cutR s = R at *
  go_enter Tryd.func35, Tryd.ntmps35
  go_wp2_with (go_at_call 43; with_reducible refine Calls.mono hin ?_; rintro e w2 ⟨rfl, hb2⟩)
  refine bodyPost_ret (v := .tuple #[.string R.1, .string R.2.1, .bool R.2.2]) ?_ rfl ⟨rfl, by assumption⟩
  simp [results, Tryd.results35, go_sem]
end Go.Proofs.YtlddbelpbgmljaaDoor
namespace Go.Proofs.YtlddbelpbgmljaaDoor
open Go.RowKit
set_option linter.unusedSimpArgs false
set_option linter.unusedVariables false
set_option linter.unusedSectionVars false

/-! Layer 3: parts. -/
def plainB (p : ByteArray) : Bool := Lib.containsAny p.data.toList [34, 10]
def bytesL (s : ByteArray) : List Nat := s.data.toList.map UInt8.toNat
theorem bytesL_len (s : ByteArray) : (bytesL s).length = s.size := by simp [bytesL]
theorem bytesL_lt (s : ByteArray) : ∀ x ∈ bytesL s, x < 256 := by
  intro x hx
  simp only [bytesL, List.mem_map] at hx
  obtain ⟨c, _, rfl⟩ := hx
  exact UInt8.toNat_lt c
theorem strCells_L (s : ByteArray) : Lib.strCells s = u8s (bytesL s) := strCells_u8 s
/-- What parts mean; none: they mean nothing. -/
def partsF : Nat → ByteArray → List Nat → Option (List Nat)
  | 0, _, _ => none
  | f + 1, t, out =>
    if plainB (cutR t).1 then none
    else if (cutR t).2.2 then (match behindR (cutR t).2.1 with | none => none | some (l, rest) => partsF f rest (out ++ bytesL (cutR t).1 ++ l))
    else some (out ++ bytesL (cutR t).1)
def PartsP : Option (List Nat) → Ending → Prop
  | some l, e => e = .returned (.string (bytesOf l))
  | none, e => e = .panicked [{ v := .iface 23 (.int .i64 4), recovered := false }]
theorem reck_size {s : ByteArray} {n base v : Nat} (h : reckR s n base = some v) : n ≤ s.size := by
  unfold reckR at h
  split at h
  · simp at h
  · omega
theorem byteR_some {s : ByteArray} {n base : Nat} {l : List Nat} (h : byteR s n base = some l) : l.length = 1 ∧ n ≤ s.size ∧ ∀ x ∈ l, x < 256 := by
  unfold byteR at h
  split at h
  · simp at h
  · rename_i v hv
    split at h
    · simp only [Option.some.injEq] at h
      subst h
      exact ⟨rfl, reck_size hv, by intro x hx; simp at hx; omega⟩
    · simp at h
theorem runeN_all (v : Nat) : (runeN v).length ≤ 4 ∧ ∀ x ∈ runeN v, x < 256 := by
  unfold runeN Lib.encodeRuneZ
  repeat' split
  all_goals (refine ⟨by simp, ?_⟩; intro x hx; simp only [List.map_cons, List.map_nil, List.mem_cons, List.not_mem_nil, or_false] at hx; omega)
theorem signR_some {s : ByteArray} {n : Nat} {l : List Nat} (h : signR s n = some l) : l.length ≤ 4 ∧ n ≤ s.size ∧ ∀ x ∈ l, x < 256 := by
  unfold signR at h
  split at h
  · simp at h
  · rename_i v hv
    split at h
    · simp only [Option.some.injEq] at h
      subst h
      exact ⟨(runeN_all v).1, reck_size hv, (runeN_all v).2⟩
    · simp at h
theorem single_lt {c v : Nat} (h : singleF c = some v) : v < 256 := by
  unfold singleF at h
  repeat' split at h
  all_goals (simp only [Option.some.injEq, reduceCtorEq] at h; try omega)
theorem behindR_some {s rest : ByteArray} {l : List Nat} (h : behindR s = some (l, rest)) : l.length + rest.size ≤ s.size ∧ (∀ x ∈ l, x < 256) ∧ ((∃ a b, rest = s.extract a b) ∨ ∃ a b c d, rest = (s.extract a b).extract c d) := by
  unfold behindR at h
  split at h
  · simp at h
  · rename_i h0
    split at h
    · rename_i v hv
      simp only [Option.some.injEq, Prod.mk.injEq] at h
      obtain ⟨rfl, rfl⟩ := h
      refine ⟨by simp; omega, ?_, .inl ⟨_, _, rfl⟩⟩
      intro x hx
      simp only [List.mem_cons, List.not_mem_nil, or_false] at hx
      subst hx
      exact single_lt hv
    · repeat' split at h
      · simp only [Option.map_eq_some_iff, Prod.mk.injEq] at h
        obtain ⟨l', hl, rfl, rfl⟩ := h
        have := byteR_some hl
        simp only [ByteArray.size_extract] at *
        exact ⟨by omega, this.2.2, .inr ⟨_, _, _, _, rfl⟩⟩
      · simp only [Option.map_eq_some_iff, Prod.mk.injEq] at h
        obtain ⟨l', hl, rfl, rfl⟩ := h
        have := signR_some hl
        simp only [ByteArray.size_extract] at *
        exact ⟨by omega, this.2.2, .inr ⟨_, _, _, _, rfl⟩⟩
      · simp only [Option.map_eq_some_iff, Prod.mk.injEq] at h
        obtain ⟨l', hl, rfl, rfl⟩ := h
        have := signR_some hl
        simp only [ByteArray.size_extract] at *
        exact ⟨by omega, this.2.2, .inr ⟨_, _, _, _, rfl⟩⟩
      · simp only [Option.map_eq_some_iff, Prod.mk.injEq] at h
        obtain ⟨l', hl, rfl, rfl⟩ := h
        have := byteR_some hl
        simp only [ByteArray.size_extract] at *
        exact ⟨by omega, this.2.2, .inl ⟨_, _, rfl⟩⟩

def measV (s m : Value) : Nat := match s, m with | .string t, .bool true => t.size + 1 | _, _ => 0
structure OkS (Ok : ByteArray → Prop) : Prop where
  ext : ∀ t a b, Ok t → Ok (t.extract a b)
  nil : Ok ⟨#[]⟩
theorem OkS.cut {Ok : ByteArray → Prop} (h : OkS Ok) {t : ByteArray} (ht : Ok t) : Ok (cutR t).1 ∧ Ok (cutR t).2.1 := by
  unfold cutR
  split
  · exact ⟨ht, h.nil⟩
  · exact ⟨h.ext _ _ _ ht, h.ext _ _ _ ht⟩
theorem OkS.behind {Ok : ByteArray → Prop} (h : OkS Ok) {t rest : ByteArray} {l : List Nat} (ht : Ok t) (hb : behindR t = some (l, rest)) : Ok rest := by
  rcases (behindR_some hb).2.2 with ⟨a, b, rfl⟩ | ⟨a, b, c, d, rfl⟩
  · exact h.ext _ _ _ ht
  · exact h.ext _ _ _ (h.ext _ _ _ ht)

theorem mg_kept0 {B b : Nat} {mv : Value} {vt : Value} {n : Nat} {xs : List Value} {w w1 : World} (hb : b < B) (hB : B ≤ w.heap.size) (H1 : w.heap[b]? = some (.cells #[vt, mv] 64))
    (H2 : w.ownsRow B 5 1 vt n xs) (hg : w.grownBy w1 vt.ownBlock) : w1.heap[b]? = some (.cells #[vt, mv] 64) ∧ Keeps (MS B b) w w1 ∧ B ≤ w1.heap.size := by
  have hs := hg.size
  refine ⟨?_, ⟨hg.os, hg.tape, hg.output, by omega, ?_⟩, by omega⟩
  · rw [hg.block b (by omega) (fun e => by have := (H2.lt b e.symm).1; omega)]; exact H1
  · intro k hk hS
    exact hg.block k hk (fun e => hS (.inr (H2.lt k e.symm).1))
theorem partQ_none' {B b : Nat} {out : List Nat} {mv : Value} {w : World} {e : Ending} {w' : World} (h : PartQ B b out mv w none e w') :
    e = .panicked [{ v := .iface 23 (.int .i64 4), recovered := false }] ∧ Keeps (MS B b) w w' := h
theorem partQ_some' {B b : Nat} {out : List Nat} {mv : Value} {w : World} {rest : ByteArray} {l : List Nat} {e : Ending} {w' : World} (h : PartQ B b out mv w (some (l, rest)) e w') :
    e = .returned (.string rest) ∧ Mg B b (out ++ l) mv w' ∧ Keeps (MS B b) w w' := h
theorem World.block_lt_map {w : World} {k : Nat} {o : Obj} (h : w.heap[k]? = some o) : k < w.heap.size := by
  rw [Array.getElem?_eq_some_iff] at h
  exact h.1

set_option maxHeartbeats 6400000 in
theorem parts_any (Ok : ByteArray → Prop) (hOk : OkS Ok)
    (hCA : ∀ p w, Ok p → p.size ≤ 100000000 → Calls Tryd.prog 36 #[.string p, .string ⟨#[34, 10]⟩] w fun e w' => e = .returned (.bool (plainB p)) ∧ Below w.heap.size w w')
    (s : ByteArray) (w : World) (hs : Ok s) (hs2 : s.size ≤ 1000000) :
    Calls Tryd.prog 23 #[.string s] w fun e w' => PartsP (partsF (s.size + 1) s []) e ∧ Below w.heap.size w w' := by
  have hmm := @run_makeMap Tryd.prog
  have i0 : (Instr.mapUpdate 62 (.map (some w.heap.size)) (.int .u8 97) (.int .u8 7)).run Tryd.prog (w.alloc (.map #[] 0)) = .ok () (w.alloc (.map #[ent 97 7 0] 1)) := ins_new w [] 0 97 7 rfl
  have i1 : (Instr.mapUpdate 62 (.map (some w.heap.size)) (.int .u8 98) (.int .u8 8)).run Tryd.prog (w.alloc (.map #[ent 97 7 0] 1)) = .ok () (w.alloc (.map #[ent 97 7 0, ent 98 8 1] 2)) := ins_new w [ent 97 7 0] 1 98 8 rfl
  have i2 : (Instr.mapUpdate 62 (.map (some w.heap.size)) (.int .u8 102) (.int .u8 12)).run Tryd.prog (w.alloc (.map #[ent 97 7 0, ent 98 8 1] 2)) = .ok () (w.alloc (.map #[ent 97 7 0, ent 98 8 1, ent 102 12 2] 3)) := ins_new w [ent 97 7 0, ent 98 8 1] 2 102 12 rfl
  have i3 : (Instr.mapUpdate 62 (.map (some w.heap.size)) (.int .u8 110) (.int .u8 10)).run Tryd.prog (w.alloc (.map #[ent 97 7 0, ent 98 8 1, ent 102 12 2] 3)) = .ok () (w.alloc (.map #[ent 97 7 0, ent 98 8 1, ent 102 12 2, ent 110 10 3] 4)) := ins_new w [ent 97 7 0, ent 98 8 1, ent 102 12 2] 3 110 10 rfl
  have i4 : (Instr.mapUpdate 62 (.map (some w.heap.size)) (.int .u8 114) (.int .u8 13)).run Tryd.prog (w.alloc (.map #[ent 97 7 0, ent 98 8 1, ent 102 12 2, ent 110 10 3] 4)) = .ok () (w.alloc (.map #[ent 97 7 0, ent 98 8 1, ent 102 12 2, ent 110 10 3, ent 114 13 4] 5)) := ins_new w [ent 97 7 0, ent 98 8 1, ent 102 12 2, ent 110 10 3] 4 114 13 rfl
  have i5 : (Instr.mapUpdate 62 (.map (some w.heap.size)) (.int .u8 116) (.int .u8 9)).run Tryd.prog (w.alloc (.map #[ent 97 7 0, ent 98 8 1, ent 102 12 2, ent 110 10 3, ent 114 13 4] 5)) = .ok () (w.alloc (.map #[ent 97 7 0, ent 98 8 1, ent 102 12 2, ent 110 10 3, ent 114 13 4, ent 116 9 5] 6)) := ins_new w [ent 97 7 0, ent 98 8 1, ent 102 12 2, ent 110 10 3, ent 114 13 4] 5 116 9 rfl
  have i6 : (Instr.mapUpdate 62 (.map (some w.heap.size)) (.int .u8 118) (.int .u8 11)).run Tryd.prog (w.alloc (.map #[ent 97 7 0, ent 98 8 1, ent 102 12 2, ent 110 10 3, ent 114 13 4, ent 116 9 5] 6)) = .ok () (w.alloc (.map #[ent 97 7 0, ent 98 8 1, ent 102 12 2, ent 110 10 3, ent 114 13 4, ent 116 9 5, ent 118 11 6] 7)) := ins_new w [ent 97 7 0, ent 98 8 1, ent 102 12 2, ent 110 10 3, ent 114 13 4, ent 116 9 5] 6 118 11 rfl
  have i7 : (Instr.mapUpdate 62 (.map (some w.heap.size)) (.int .u8 92) (.int .u8 92)).run Tryd.prog (w.alloc (.map #[ent 97 7 0, ent 98 8 1, ent 102 12 2, ent 110 10 3, ent 114 13 4, ent 116 9 5, ent 118 11 6] 7)) = .ok () (w.alloc (.map #[ent 97 7 0, ent 98 8 1, ent 102 12 2, ent 110 10 3, ent 114 13 4, ent 116 9 5, ent 118 11 6, ent 92 92 7] 8)) := ins_new w [ent 97 7 0, ent 98 8 1, ent 102 12 2, ent 110 10 3, ent 114 13 4, ent 116 9 5, ent 118 11 6] 7 92 92 rfl
  have i8 : (Instr.mapUpdate 62 (.map (some w.heap.size)) (.int .u8 34) (.int .u8 34)).run Tryd.prog (w.alloc (.map #[ent 97 7 0, ent 98 8 1, ent 102 12 2, ent 110 10 3, ent 114 13 4, ent 116 9 5, ent 118 11 6, ent 92 92 7] 8)) = .ok () (w.alloc (.map #[ent 97 7 0, ent 98 8 1, ent 102 12 2, ent 110 10 3, ent 114 13 4, ent 116 9 5, ent 118 11 6, ent 92 92 7, ent 34 34 8] 9)) := ins_new w [ent 97 7 0, ent 98 8 1, ent 102 12 2, ent 110 10 3, ent 114 13 4, ent 116 9 5, ent 118 11 6, ent 92 92 7] 8 34 34 rfl
  obtain ⟨j0, hj0, hy0, hy1, hy2⟩ := info_parts info8
  have HOKS := Lib.hid hOk
  have HS := Lib.hid hs
  have HCA := Lib.hid hCA
  clear hOk hs hCA
  generalize hX : partsF (s.size + 1) s [] = X
  have HX := Lib.hid hX
  clear hX
  go_enter Tryd.func23, Tryd.ntmps23
  go_wp2_with fail
  have HM0 : Hid (Mg (w.heap.size + 2) (w.heap.size + 1) [] (.map (some w.heap.size)) ((w.alloc (.map E9.toArray 9)).alloc (.cells #[.slice none 0 0, .map (some w.heap.size)] 64))) := Lib.hid (by
    refine ⟨by omega, by simp, _, by simpa using heap_alloc_new (w.alloc (.map E9.toArray 9)) (.cells #[.slice none 0 0, .map (some w.heap.size)] 64), ?_⟩
    exact World.ownsRow_nil _ _ _ _)
  have HMAP0 : Hid (((w.alloc (.map E9.toArray 9)).alloc (.cells #[.slice none 0 0, .map (some w.heap.size)] 64)).heap[w.heap.size]? = some (.map E9.toArray 9)) := Lib.hid (by
    rw [Below.heap_alloc _ _ _ (by simp)]
    exact heap_alloc_new w _)
  have HB0 : Hid (Below w.heap.size w ((w.alloc (.map E9.toArray 9)).alloc (.cells #[.slice none 0 0, .map (some w.heap.size)] 64))) := Lib.hid (((Below.refl _ _).alloc (Nat.le_refl _) _).alloc (by simp) _)
  change Code.wp _ _ _ _ ((w.alloc (.map E9.toArray 9)).alloc (.cells #[.slice none 0 0, .map (some w.heap.size)] 64))
  generalize (w.alloc (.map E9.toArray 9)).alloc (.cells #[.slice none 0 0, .map (some w.heap.size)] 64) = w1 at *
  clear i0 i1 i2 i3 i4 i5 i6 i7 i8 hmm
  go_loopw [0, 4] (fun sv mv wr => ∃ (t : ByteArray) (out : List Nat) (more : Bool), sv = .string t ∧ mv = .bool more ∧ (more = true → ∃ f, t.size < f ∧ X = partsF f t out) ∧ (more = false → X = some out) ∧ out.length + t.size ≤ s.size ∧
      (∀ x ∈ out, x < 256) ∧ Ok t ∧ Mg (w.heap.size + 2) (w.heap.size + 1) out (.map (some w.heap.size)) wr ∧ wr.heap[w.heap.size]? = some (.map E9.toArray 9) ∧ Below w.heap.size w wr) (fun sv mv _ => measV sv mv)
  case atStart => exact ⟨s, [], true, rfl, rfl, fun _ => ⟨s.size + 1, by omega, HX.out.symm⟩, by simp, by simp, by simp, HS.out, HM0.out, HMAP0.out, HB0.out⟩
  case round =>
    obtain ⟨t, out, more, rfl, rfl, hy, hn, hlen, hlt, hok, hm, hmap, hbl⟩ := hrel
    have HM := Lib.hid hm
    have HMAP := Lib.hid hmap
    have HBL := Lib.hid hbl
    have HLT := Lib.hid hlt
    have hwr : w.heap.size + 2 ≤ wr.heap.size := hm.2.1
    clear hm hmap hbl hlt HM0 HMAP0 HB0 HX
    cases more with
    | false =>
      have HN := Lib.hid (hn rfl)
      clear hn hy
      obtain ⟨q0, q1, vt, q2, q3⟩ := HM.out
      obtain ⟨aa, cc, rfl⟩ := row_slice q3
      have c0 := cell_of q2 0
      have hcv := conv_at (row_bsl q3 HLT.out) cc
      rw [bytesOf_size] at hcv
      clear q2 q3
      go_wp2_with fail
      go_ret
      exact ⟨by rw [HN.out]; rfl, HBL.out⟩
    | true =>
      obtain ⟨f, hf, he⟩ := hy rfl
      obtain ⟨f, rfl⟩ : ∃ g, f = g + 1 := ⟨f - 1, by omega⟩
      have hst : partsF (f + 1) t out = if plainB (cutR t).1 then none else if (cutR t).2.2 then (match behindR (cutR t).2.1 with | none => none | some (l, rest) => partsF f rest (out ++ bytesL (cutR t).1 ++ l)) else some (out ++ bytesL (cutR t).1) := rfl
      have hcut := cut_any t wr (by omega)
      have hsz := cutR_sizes t
      have hokc := HOKS.out.cut hok
      clear hy hn
      generalize cutR t = R at *
      obtain ⟨p, r, m⟩ := R
      simp only at hst hcut hsz hokc
      have HP := Lib.hid hokc.1
      have HR := Lib.hid hokc.2
      have hpl : p.size ≤ 100000000 := by omega
      have HBY := Lib.hid (bytesL_lt p)
      clear hokc
      cases hpb : plainB p with
      | true =>
        rw [hpb, if_pos rfl] at hst
        have HN : Hid (X = none) := Lib.hid (by rw [he, hst])
        clear he hst
        go_wp2_with (first
                    | (go_at_call 35; with_reducible refine Calls.mono hcut ?_; rintro e w2 ⟨rfl, hb2⟩
                       have HB2 := Lib.hid hb2
                       have hca := HCA.out p w2 HP.out hpl
                       rw [hpb] at hca
                       have hsz2 := hb2.size
                       clear hcut hb2)
                    | (go_at_call 36; with_reducible refine Calls.mono hca ?_; rintro e w3 ⟨rfl, hb3⟩
                       have HB3 := Lib.hid hb3
                       clear hca hb3)
                    | (go_at_call 13; with_reducible refine Calls.mono (need_no _ _) ?_; rintro e w6 ⟨rfl, hw6⟩; replace hw6 := hw6.symm; subst hw6))
        refine ⟨rfl, ?_, (HBL.out.trans (HB2.out.mono (by omega))).trans (HB3.out.mono (by omega))⟩
        rw [HN.out]; rfl
      | false =>
        rw [hpb, if_neg (by simp)] at hst
        cases m with
        | false =>
          rw [if_neg (by simp)] at hst
          have HN : Hid (X = some (out ++ bytesL p)) := Lib.hid (by rw [he, hst])
          clear he hst
          go_wp2_with (first
                    | (go_at_call 35; with_reducible refine Calls.mono hcut ?_; rintro e w2 ⟨rfl, hb2⟩
                       have HB2 := Lib.hid hb2
                       have hca := HCA.out p w2 HP.out hpl
                       rw [hpb] at hca
                       have hsz2 := hb2.size
                       clear hcut hb2)
                    | (go_at_call 36; with_reducible refine Calls.mono hca ?_; rintro e w3 ⟨rfl, hb3⟩
                       have HB3 := Lib.hid hb3
                       have hM3 := (HM.out.below HB2.out).below hb3
                       have HMAP3 : Hid (w3.heap[w.heap.size]? = some (.map E9.toArray 9)) := Lib.hid (by rw [hb3.block _ (by omega), HB2.out.block _ (by omega)]; exact HMAP.out)
                       have hsz3 := hb3.size
                       obtain ⟨q0, q1, vt, q2, q3⟩ := hM3
                       have c0 := cell_of q2 0
                       have f0 := free_of q2 0
                       have H2 := Lib.hid q2
                       have H3 := Lib.hid q3
                       clear hca hb3 q2 q3)
                    | (go_at_call 13; with_reducible refine Calls.mono (need_yes _ _) ?_; rintro e w6 ⟨rfl, hw6⟩; replace hw6 := hw6.symm; subst hw6)
                    | (at_builtin; refine Lib.wpList_append_own_string _ rfl _ _ 29 9 rfl (w.heap.size + 2) 5 j0 Tryd.underlying29 Tryd.underlying9 hj0 hy0 hy1 hy2 _ _ _ rfl H3.out p rfl (by unfold maxLen; omega) (by omega) (by omega) ?_; intro v' w4 hown' hgrow _
                       obtain ⟨aa, cc, rfl⟩ := row_slice hown'
                       obtain ⟨g1, g2, g3⟩ := mg_kept0 q0 q1 H2.out H3.out hgrow
                       have p0 := cell_of g1 0
                       have p1 := free_of g1 0
                       have hp := mg_push (l := out ++ bytesL p) q0 g3 g1 g2 hown' (by simp [bytesL_len]) (by rw [strCells_L, u8s_app])
                       have HM5 := Lib.hid hp.1
                       have HK5 := Lib.hid hp.2
                       have HMAP5 : Hid ((w4.setCell ⟨w.heap.size + 1, 0, none⟩ (.slice aa (out.length + p.size) cc)).heap[w.heap.size]? = some (.map E9.toArray 9)) := Lib.hid (by rw [HK5.out.block _ (by omega) (by rintro (h | h) <;> omega)]; exact HMAP3.out)
                       have HBL5 : Hid (Below w.heap.size w (w4.setCell ⟨w.heap.size + 1, 0, none⟩ (.slice aa (out.length + p.size) cc))) := Lib.hid (((HBL.out.trans (HB2.out.mono (by omega))).trans (HB3.out.mono (by omega))).trans (HK5.out.below (by omega) (by rintro k (h | h) <;> omega)))
                       clear g1 g2 hown' hgrow hp c0 f0))
          go_roundw
          case rel =>
            refine ⟨r, out ++ bytesL p, false, rfl, rfl, by simp, fun _ => HN.out, by simp [bytesL_len]; omega, ?_, HR.out, HM5.out, HMAP5.out, HBL5.out⟩
            intro x hx
            rcases List.mem_append.1 hx with h | h
            · exact HLT.out x h
            · exact HBY.out x h
          case measure => simp [measV]
        | true =>
          rw [if_pos rfl] at hst
          have hsz1 := hsz.2 rfl
          have hbeh := fun w5 (hM : Mg (w.heap.size + 2) (w.heap.size + 1) (out ++ bytesL p) (.map (some w.heap.size)) w5) (hmap : w5.heap[w.heap.size]? = some (.map E9.toArray 9)) => behind_any (w.heap.size + 2) (w.heap.size + 1) w.heap.size (out ++ bytesL p) r w5 hM hmap (by omega) (by simp [bytesL_len]; omega)
          cases hbr : behindR r with
          | none =>
            rw [hbr] at hst hbeh
            have HN : Hid (X = none) := Lib.hid (by rw [he, hst])
            clear he hst hbr
            go_wp2_with (first
                    | (go_at_call 35; with_reducible refine Calls.mono hcut ?_; rintro e w2 ⟨rfl, hb2⟩
                       have HB2 := Lib.hid hb2
                       have hca := HCA.out p w2 HP.out hpl
                       rw [hpb] at hca
                       have hsz2 := hb2.size
                       clear hcut hb2)
                    | (go_at_call 36; with_reducible refine Calls.mono hca ?_; rintro e w3 ⟨rfl, hb3⟩
                       have HB3 := Lib.hid hb3
                       have hM3 := (HM.out.below HB2.out).below hb3
                       have HMAP3 : Hid (w3.heap[w.heap.size]? = some (.map E9.toArray 9)) := Lib.hid (by rw [hb3.block _ (by omega), HB2.out.block _ (by omega)]; exact HMAP.out)
                       have hsz3 := hb3.size
                       obtain ⟨q0, q1, vt, q2, q3⟩ := hM3
                       have c0 := cell_of q2 0
                       have f0 := free_of q2 0
                       have H2 := Lib.hid q2
                       have H3 := Lib.hid q3
                       clear hca hb3 q2 q3)
                    | (go_at_call 13; with_reducible refine Calls.mono (need_yes _ _) ?_; rintro e w6 ⟨rfl, hw6⟩; replace hw6 := hw6.symm; subst hw6)
                    | (at_builtin; refine Lib.wpList_append_own_string _ rfl _ _ 29 9 rfl (w.heap.size + 2) 5 j0 Tryd.underlying29 Tryd.underlying9 hj0 hy0 hy1 hy2 _ _ _ rfl H3.out p rfl (by unfold maxLen; omega) (by omega) (by omega) ?_; intro v' w4 hown' hgrow _
                       obtain ⟨aa, cc, rfl⟩ := row_slice hown'
                       obtain ⟨g1, g2, g3⟩ := mg_kept0 q0 q1 H2.out H3.out hgrow
                       have p0 := cell_of g1 0
                       have p1 := free_of g1 0
                       have hp := mg_push (l := out ++ bytesL p) q0 g3 g1 g2 hown' (by simp [bytesL_len]) (by rw [strCells_L, u8s_app])
                       have HM5 := Lib.hid hp.1
                       have HK5 := Lib.hid hp.2
                       have HMAP5 : Hid ((w4.setCell ⟨w.heap.size + 1, 0, none⟩ (.slice aa (out.length + p.size) cc)).heap[w.heap.size]? = some (.map E9.toArray 9)) := Lib.hid (by rw [HK5.out.block _ (by omega) (by rintro (h | h) <;> omega)]; exact HMAP3.out)
                       have HBL5 : Hid (Below w.heap.size w (w4.setCell ⟨w.heap.size + 1, 0, none⟩ (.slice aa (out.length + p.size) cc))) := Lib.hid (((HBL.out.trans (HB2.out.mono (by omega))).trans (HB3.out.mono (by omega))).trans (HK5.out.below (by omega) (by rintro k (h | h) <;> omega)))
                       clear g1 g2 hown' hgrow hp c0 f0)
                    | (go_at_call 37; with_reducible refine Calls.mono (hbeh _ HM5.out HMAP5.out) ?_; intro e w7 h; obtain ⟨rfl, hk⟩ := partQ_none' h))
            refine ⟨rfl, ?_, HBL5.out.trans (hk.below HBL5.out.size (by rintro k (h | h) <;> omega))⟩
            rw [HN.out]; rfl
          | some lr =>
            obtain ⟨l, rest⟩ := lr
            have hbs := behindR_some hbr
            have HRR := Lib.hid (HOKS.out.behind HR.out hbr)
            rw [hbr] at hst hbeh
            have HN : Hid (X = partsF f rest (out ++ bytesL p ++ l)) := Lib.hid (by rw [he, hst])
            have HBL2 := Lib.hid hbs.2.1
            have hbs1 := hbs.1
            clear he hst hbr hbs
            go_wp2_with (first
                    | (go_at_call 35; with_reducible refine Calls.mono hcut ?_; rintro e w2 ⟨rfl, hb2⟩
                       have HB2 := Lib.hid hb2
                       have hca := HCA.out p w2 HP.out hpl
                       rw [hpb] at hca
                       have hsz2 := hb2.size
                       clear hcut hb2)
                    | (go_at_call 36; with_reducible refine Calls.mono hca ?_; rintro e w3 ⟨rfl, hb3⟩
                       have HB3 := Lib.hid hb3
                       have hM3 := (HM.out.below HB2.out).below hb3
                       have HMAP3 : Hid (w3.heap[w.heap.size]? = some (.map E9.toArray 9)) := Lib.hid (by rw [hb3.block _ (by omega), HB2.out.block _ (by omega)]; exact HMAP.out)
                       have hsz3 := hb3.size
                       obtain ⟨q0, q1, vt, q2, q3⟩ := hM3
                       have c0 := cell_of q2 0
                       have f0 := free_of q2 0
                       have H2 := Lib.hid q2
                       have H3 := Lib.hid q3
                       clear hca hb3 q2 q3)
                    | (go_at_call 13; with_reducible refine Calls.mono (need_yes _ _) ?_; rintro e w6 ⟨rfl, hw6⟩; replace hw6 := hw6.symm; subst hw6)
                    | (at_builtin; refine Lib.wpList_append_own_string _ rfl _ _ 29 9 rfl (w.heap.size + 2) 5 j0 Tryd.underlying29 Tryd.underlying9 hj0 hy0 hy1 hy2 _ _ _ rfl H3.out p rfl (by unfold maxLen; omega) (by omega) (by omega) ?_; intro v' w4 hown' hgrow _
                       obtain ⟨aa, cc, rfl⟩ := row_slice hown'
                       obtain ⟨g1, g2, g3⟩ := mg_kept0 q0 q1 H2.out H3.out hgrow
                       have p0 := cell_of g1 0
                       have p1 := free_of g1 0
                       have hp := mg_push (l := out ++ bytesL p) q0 g3 g1 g2 hown' (by simp [bytesL_len]) (by rw [strCells_L, u8s_app])
                       have HM5 := Lib.hid hp.1
                       have HK5 := Lib.hid hp.2
                       have HMAP5 : Hid ((w4.setCell ⟨w.heap.size + 1, 0, none⟩ (.slice aa (out.length + p.size) cc)).heap[w.heap.size]? = some (.map E9.toArray 9)) := Lib.hid (by rw [HK5.out.block _ (by omega) (by rintro (h | h) <;> omega)]; exact HMAP3.out)
                       have HBL5 : Hid (Below w.heap.size w (w4.setCell ⟨w.heap.size + 1, 0, none⟩ (.slice aa (out.length + p.size) cc))) := Lib.hid (((HBL.out.trans (HB2.out.mono (by omega))).trans (HB3.out.mono (by omega))).trans (HK5.out.below (by omega) (by rintro k (h | h) <;> omega)))
                       clear g1 g2 hown' hgrow hp c0 f0)
                    | (go_at_call 37; with_reducible refine Calls.mono (hbeh _ HM5.out HMAP5.out) ?_; intro e w7 h; obtain ⟨rfl, hm7, hk⟩ := partQ_some' h; have HM7 := Lib.hid hm7; have HK7 := Lib.hid hk; clear hm7 hk h hbeh))
            go_roundw
            case rel =>
              refine ⟨rest, out ++ bytesL p ++ l, true, rfl, rfl, fun _ => ⟨f, by omega, HN.out⟩, by simp, by simp [bytesL_len]; omega, ?_, HRR.out, HM7.out, ?_, HBL5.out.trans (HK7.out.below HBL5.out.size (by rintro k (h | h) <;> omega))⟩
              · intro x hx
                rcases List.mem_append.1 hx with h | h
                · rcases List.mem_append.1 h with h | h
                  · exact HLT.out x h
                  · exact HBY.out x h
                · exact HBL2.out x h
              · rw [HK7.out.block _ (World.block_lt_map HMAP5.out) (by rintro (h | h) <;> omega)]; exact HMAP5.out
            case measure => simp [measV]; omega
end Go.Proofs.YtlddbelpbgmljaaDoor
namespace Go.Proofs.YtlddbelpbgmljaaDoor
open Go.RowKit
set_option linter.unusedSimpArgs false
set_option linter.unusedVariables false
set_option linter.unusedSectionVars false

/-! Layer 3: text. -/
def inner (s : ByteArray) : ByteArray := s.extract 1 (s.size - 1)
/-- What a text's token means; none: it is none. -/
def textR (s : ByteArray) : Option (List Nat) :=
  if s.size < 2 ∨ byteN s 0 ≠ byteN s (s.size - 1) then none
  else if 0 ≤ wrongF s then none
  else if byteN s 0 = 96 then (if 0 ≤ Lib.indexByte (inner s).data.toList 96 then none else some ((bytesL (inner s)).filter (· ≠ 13)))
  else if byteN s 0 = 34 then partsF ((inner s).size + 1) (inner s) []
  else none
theorem bytesRow_bsl (s : ByteArray) (w : World) (cap : Nat) (h : s.size ≤ cap) (fr : Nat × Nat) : BSl (w.alloc (.cells (bytesRow s cap) 5 fr)) (some ⟨w.heap.size, 0, none⟩) s := by
  refine .inr ⟨w.heap.size, 0, rfl, ?_, by simp⟩
  intro i hi
  have hb : (w.alloc (.cells (bytesRow s cap) 5 fr)).heap[w.heap.size]? = some (.cells (bytesRow s cap) 5 fr) := heap_alloc_new w _
  rw [Nat.zero_add, cell_of hb, bytesRow_at s cap i hi]
  simp [byteN, List.getD_eq_getElem?_getD, List.getElem?_eq_getElem (show i < s.data.toList.length by simpa using hi)]

theorem need_no2 (e : Int) (w : World) :
    Calls Tryd.prog 13 #[.bool false, .int .i64 e] w fun r w' => (r = .panicked [{ v := .iface 23 (.int .i64 e), recovered := false }] ∧ w' = w) ∨ (r = .returned (.tuple #[]) ∧ w' = w ∧ False) :=
  (need_no e w).mono fun _ _ h => .inl h
def TextP : Option (List Nat) → Ending → Prop
  | some l, e => e = .returned (.string (bytesOf l))
  | none, e => e = .panicked [{ v := .iface 23 (.int .i64 4), recovered := false }]
theorem need_yes2 (e : Int) (w : World) :
    Calls Tryd.prog 13 #[.bool true, .int .i64 e] w fun r w' => r = .returned (.tuple #[]) ∧ w' = w := need_yes e w
set_option maxHeartbeats 6400000 in
theorem text_quote (s : ByteArray) (w : World) (h : 2 ≤ s.size) (hs : s.size ≤ 100000) (h2 : byteN s 0 = 34) (h3 : byteN s (s.size - 1) = 34) (hw : wrongF s < 0)
    (hP : ∀ w, Calls Tryd.prog 23 #[.string (inner s)] w fun e w' => PartsP (partsF ((inner s).size + 1) (inner s) []) e ∧ Below w.heap.size w w') :
    Calls Tryd.prog 14 #[.string s] w fun e w' => PartsP (partsF ((inner s).size + 1) (inner s) []) e ∧ Below w.heap.size w w' := by
  have hd : decide ((2 : Int) ≤ (s.size : Int)) = true := by simp; omega
  have hx0 := str_byte s 0 (by omega)
  obtain ⟨k, hk⟩ : ∃ k, s.size - 1 = k := ⟨_, rfl⟩
  have hk1 : (s.size : Int) - 1 = (k : Int) := by omega
  have hk2 : k < s.size := by omega
  have hk3 : (k : Int) < s.size := by omega
  have hk4 : 1 ≤ k := by omega
  have hk5 : (1 : Int) ≤ k := by omega
  have hk6 : (k : Int) ≤ s.size := by omega
  have hk7 : k ≤ s.size := by omega
  have hk8 : IntKind.i64.wrap (k : Int) = k := IntWalk.i64_in _ (by omega)
  have hx1 := str_byte s k hk2
  have hin : inner s = s.extract 1 k := by rw [inner, hk]
  rw [hin] at hP ⊢
  rw [hk] at h3
  rw [h2] at hx0
  rw [h3] at hx1
  have h0 : 0 < s.size := by omega
  have h0' : (0 : Int) < s.size := by omega
  generalize partsF ((s.extract 1 k).size + 1) (s.extract 1 k) [] = X at *
  have hcv := fun w => run_bytes_of_string (P := Tryd.prog) w 9 29 5 s Tryd.underlying9 Tryd.underlying29 Tryd.underlying5
  clear h2 h3 hin hk
  go_enter Tryd.func14, Tryd.ntmps14
  go_wp2_with fail
  have hI0 : InvC w [] w.drew := InvC.start (Below.refl _ _) (by simp)
  have hne5 : Nonempty (Wld (InvC w [])) := ⟨⟨_, hI0⟩⟩
  refine wp_region_inv (InvC w []) (by kernel_rfl) (by kernel_rfl) hI0 ?_
  clear hI0
  repeat (go_big_quiet_step ((go_at_call 13; exact Calls.inv_same (need_yes2 _ _))))
  refine wpQuiet_nil ?_
  intro w6 hw6
  have HB6 : Hid (Below w.heap.size w w6) := by obtain ⟨i, rfl⟩ := hw6; exact i.ok.1
  clear hw6 hne5
  have hcv6 := hcv w6
  have hge := grownCap_ge w6 s.size 0 5
  generalize grownCap w6 s.size 0 5 = gc at *
  have hbs := bytesRow_bsl s w6.drew gc hge ((bytesRow s gc).size, (bytesRow s gc).size + 1)
  have hb7 : Below w6.heap.size w6 (w6.drew.alloc (.cells (bytesRow s gc) 5 ((bytesRow s gc).size, (bytesRow s gc).size + 1))) := (Below.refl _ _).drew.alloc (Nat.le_refl _) _
  have hwr := wrong_b (some ⟨w6.heap.size, 0, none⟩) gc s _ hbs (by omega)
  have HB7 := Lib.hid hb7
  generalize w6.drew.alloc (.cells (bytesRow s gc) 5 ((bytesRow s gc).size, (bytesRow s gc).size + 1)) = w7 at *
  clear hbs hb7 hcv hge
  have hwn : decide (wrongF s < 0) = true := by simpa using hw
  generalize wrongF s = wf at *
  cases X with
  | none =>
    simp only [PartsP] at hP
    go_wp2_with (first
      | (go_at_call 19; with_reducible refine Calls.mono hwr ?_; rintro e w8 ⟨rfl, hb8⟩; have HB8 := Lib.hid hb8; clear hb8 hwr)
      | (go_at_call 13; with_reducible refine Calls.mono (need_yes2 _ _) ?_; rintro e w9 ⟨rfl, hw9⟩; replace hw9 := hw9.symm; subst hw9)
      | (go_at_call 23; with_reducible refine Calls.mono (hP _) ?_; rintro e w10 ⟨rfl, hb10⟩))
    exact ⟨rfl, rfl, ((HB6.out.trans (HB7.out.mono HB6.out.size)).trans (HB8.out.mono (Nat.le_trans HB6.out.size HB7.out.size))).trans (hb10.mono (Nat.le_trans (Nat.le_trans HB6.out.size HB7.out.size) HB8.out.size))⟩
  | some l =>
    simp only [PartsP] at hP
    go_wp2_with (first
      | (go_at_call 19; with_reducible refine Calls.mono hwr ?_; rintro e w8 ⟨rfl, hb8⟩; have HB8 := Lib.hid hb8; clear hb8 hwr)
      | (go_at_call 13; with_reducible refine Calls.mono (need_yes2 _ _) ?_; rintro e w9 ⟨rfl, hw9⟩; replace hw9 := hw9.symm; subst hw9)
      | (go_at_call 23; with_reducible refine Calls.mono (hP _) ?_; rintro e w10 ⟨rfl, hb10⟩))
    go_ret
    exact ⟨rfl, ((HB6.out.trans (HB7.out.mono HB6.out.size)).trans (HB8.out.mono (Nat.le_trans HB6.out.size HB7.out.size))).trans (hb10.mono (Nat.le_trans (Nat.le_trans HB6.out.size HB7.out.size) HB8.out.size))⟩
end Go.Proofs.YtlddbelpbgmljaaDoor
namespace Go.Proofs.YtlddbelpbgmljaaDoor
open Go.RowKit
set_option linter.unusedSimpArgs false
set_option linter.unusedVariables false
set_option linter.unusedSectionVars false

/-! Layer 3: Text; what the chapter's examples say. -/
def textV (s : ByteArray) : ByteArray := if 65536 < s.size then ⟨#[]⟩ else match textR s with | none => ⟨#[]⟩ | some l => bytesOf l
def textE (s : ByteArray) : Int := if 65536 < s.size then 12 else match textR s with | none => 4 | some _ => 0
set_option maxHeartbeats 800000 in
theorem Text1_ok (A : Nat) (s : ByteArray) (l : List Nat) (w : World) (hc : w.cell? ⟨A, 0, none⟩ = some (.string s)) (hs : s.size ≤ 65536)
    (hn : ∀ w, Calls Tryd.prog 14 #[.string s] w fun e w' => PartsP (some l) e ∧ Below w.heap.size w w') :
    Calls Tryd.prog 12 #[.pointer (some ⟨A, 0, none⟩)] w fun e w' => e = .returned (.string (bytesOf l)) ∧ Below w.heap.size w w' := by
  simp only [PartsP] at hn
  have hd : decide ((s.size : Int) ≤ 65536) = true := by simp; omega
  go_enter Tryd.func12, Tryd.ntmps12
  go_wp2_with (first
    | (go_at_call 13; with_reducible refine Calls.mono (need_yes _ _) ?_; rintro e w2 ⟨rfl, hw2⟩; replace hw2 := hw2.symm; subst hw2)
    | (go_at_call 14; with_reducible refine Calls.mono (hn _) ?_; rintro e w2 ⟨rfl, hb⟩))
  go_ret
  exact ⟨rfl, by assumption⟩
set_option maxHeartbeats 800000 in
theorem Text1_no (A : Nat) (s : ByteArray) (w : World) (hc : w.cell? ⟨A, 0, none⟩ = some (.string s)) (hs : s.size ≤ 65536)
    (hn : ∀ w, Calls Tryd.prog 14 #[.string s] w fun e w' => PartsP none e ∧ Below w.heap.size w w') :
    Calls Tryd.prog 12 #[.pointer (some ⟨A, 0, none⟩)] w fun e w' => e = .panicked [{ v := .iface 23 (.int .i64 4), recovered := false }] ∧ Below w.heap.size w w' := by
  simp only [PartsP] at hn
  have hd : decide ((s.size : Int) ≤ 65536) = true := by simp; omega
  go_enter Tryd.func12, Tryd.ntmps12
  go_wp2_with (first
    | (go_at_call 13; with_reducible refine Calls.mono (need_yes _ _) ?_; rintro e w2 ⟨rfl, hw2⟩; replace hw2 := hw2.symm; subst hw2)
    | (go_at_call 14; with_reducible refine Calls.mono (hn _) ?_; rintro e w2 ⟨rfl, hb⟩))
  exact ⟨rfl, rfl, by assumption⟩
set_option maxHeartbeats 800000 in
theorem Text1_long (A : Nat) (s : ByteArray) (w : World) (hc : w.cell? ⟨A, 0, none⟩ = some (.string s)) (hs : 65536 < s.size) (hs2 : s.size ≤ 4611686018427387904) :
    Calls Tryd.prog 12 #[.pointer (some ⟨A, 0, none⟩)] w fun e w' => e = .panicked [{ v := .iface 23 (.int .i64 12), recovered := false }] ∧ Below w.heap.size w w' := by
  have hd : decide ((s.size : Int) ≤ 65536) = false := by simp; omega
  go_enter Tryd.func12, Tryd.ntmps12
  go_wp2_with (first
    | (go_at_call 13; with_reducible refine Calls.mono (need_no _ _) ?_; rintro e w2 ⟨rfl, hw2⟩; replace hw2 := hw2.symm; subst hw2))
  exact ⟨rfl, rfl, Below.refl _ _⟩
theorem Text_in (A : Nat) (s : ByteArray) (w : World) (hc : w.cell? ⟨A, 0, none⟩ = some (.string s)) (hs2 : s.size ≤ 4611686018427387904)
    (hT : s.size ≤ 65536 → ∀ w, Calls Tryd.prog 14 #[.string s] w fun e w' => PartsP (textR s) e ∧ Below w.heap.size w w') :
    Calls Tryd.prog 11 #[.func (.func 12) #[] #[.pointer (some ⟨A, 0, none⟩)]] w fun e w' => e = .returned (.tuple #[.string (textV s), .int .i64 (textE s)]) ∧ Below w.heap.size w w' := by
  have hlt := World.block_lt_of_cell? _ _ hc
  have hcc : ∀ w1, Below w.heap.size w w1 → w1.cell? ⟨A, 0, none⟩ = some (.string s) := fun w1 hb => (hb.cell hlt).trans hc
  by_cases h1 : 65536 < s.size
  · rw [textV, textE, if_pos h1, if_pos h1]
    exact ansT_no _ 12 w fun w1 hb => Text1_long A s w1 (hcc w1 hb) h1 hs2
  · rw [textV, textE, if_neg h1, if_neg h1]
    have hT' := hT (by omega)
    cases h2 : textR s with
    | none =>
      rw [h2] at hT'
      exact ansT_no _ 4 w fun w1 hb => Text1_no A s w1 (hcc w1 hb) (by omega) hT'
    | some r =>
      rw [h2] at hT'
      exact ansT_ok _ (bytesOf r) w fun w1 hb => Text1_ok A s r w1 (hcc w1 hb) (by omega) hT'
set_option maxHeartbeats 800000 in
theorem Text_any (s : ByteArray) (w : World) (hs2 : s.size ≤ 4611686018427387904)
    (hT : s.size ≤ 65536 → ∀ w, Calls Tryd.prog 14 #[.string s] w fun e w' => PartsP (textR s) e ∧ Below w.heap.size w w') :
    Calls Tryd.prog 6 #[.string s] w fun e w' => e = .returned (.tuple #[.string (textV s), .int .i64 (textE s)]) ∧ Below w.heap.size w w' := by
  have hmf : ∀ (fn : Fn) (first cap : Array Value) (w : World), (Instr.makeFunc fn first cap).run Tryd.prog w = .ok (.func fn first cap) w := fun _ _ _ _ => rfl
  have hin := Text_in w.heap.size s (w.alloc (.cells #[.string s] 9)) (by simp) hs2 hT
  clear hT
  go_enter Tryd.func6, Tryd.ntmps6
  go_wp2_with (go_at_call 11; with_reducible refine Calls.mono hin ?_; rintro e w2 ⟨rfl, hb⟩)
  go_ret2
  exact ⟨rfl, ((Below.refl _ _).alloc (Nat.le_refl _) _).trans (hb.mono (by simp))⟩

def Ascii (t : ByteArray) : Prop := ∀ b ∈ t.data.toList, b.toNat < 128
theorem ascii_ok : OkS Ascii where
  ext := by
    intro t a b h x hx
    rw [Lib.extract_data] at hx
    exact h x (List.mem_of_mem_drop (List.mem_of_mem_take hx))
  nil := by intro b hb; simp at hb
theorem ascii_ca (p : ByteArray) (w : World) (h : Ascii p) (hs : p.size ≤ 100000000) :
    Calls Tryd.prog 36 #[.string p, .string ⟨#[34, 10]⟩] w fun e w' => e = .returned (.bool (plainB p)) ∧ Below w.heap.size w w' :=
  Tryd.strings_ContainsAny_laid p ⟨#[34, 10]⟩ w (by omega) (by decide) (fun j b hj => h b (List.mem_of_getElem? hj)) (by
    intro j b hj
    have hm := List.mem_of_getElem? hj
    simp only [List.mem_cons, List.not_mem_nil, or_false] at hm
    rcases hm with rfl | rfl <;> decide)

def exT : ByteArray := ⟨#[34, 92, 120, 52, 49, 92, 117, 48, 48, 101, 52, 34]⟩
theorem exT_R : textR exT = some [65, 195, 164] := by decide +kernel
theorem exT_text (w : World) : Calls Tryd.prog 14 #[.string exT] w fun e w' => PartsP (textR exT) e ∧ Below w.heap.size w w' := by
  have hin : Ascii (inner exT) := by unfold Ascii; decide +kernel
  have h := text_quote exT w (by decide) (by decide) (by decide +kernel) (by decide +kernel) (by decide +kernel) (fun w => parts_any Ascii ascii_ok ascii_ca (inner exT) w hin (by decide +kernel))
  have hR : partsF ((inner exT).size + 1) (inner exT) [] = textR exT := by decide +kernel
  rw [hR] at h
  exact h
set_option maxHeartbeats 3200000 in
theorem awake_any (w : World) : Calls Tryd.prog 10 #[] w fun e w' => e = .returned (.bool true) ∧ Below w.heap.size w w' := by
  have hA := fun w => Number_any ⟨#[48, 120, 95, 49, 70]⟩ w (by decide)
  have hB := fun w => Number_any ⟨#[48, 49, 55]⟩ w (by decide)
  have hC := fun w => Number_any ⟨#[49, 95, 95, 48]⟩ w (by decide)
  have hD := fun w => Text_any exT w (by decide) (fun _ => exT_text)
  rw [show numV ⟨#[48, 120, 95, 49, 70]⟩ = ⟨#[51, 49]⟩ from by decide +kernel, show numE ⟨#[48, 120, 95, 49, 70]⟩ = 0 from by decide +kernel] at hA
  rw [show numV ⟨#[48, 49, 55]⟩ = ⟨#[49, 53]⟩ from by decide +kernel, show numE ⟨#[48, 49, 55]⟩ = 0 from by decide +kernel] at hB
  rw [show numV ⟨#[49, 95, 95, 48]⟩ = ⟨#[]⟩ from by decide +kernel, show numE ⟨#[49, 95, 95, 48]⟩ = 4 from by decide +kernel] at hC
  rw [show textV exT = ⟨#[65, 195, 164]⟩ from by decide +kernel, show textE exT = 0 from by decide +kernel] at hD
  unfold exT at hD
  go_enter Tryd.func10, Tryd.ntmps10
  go_wp2_with (first
    | (go_at_call 9; with_reducible refine Calls.mono (hA _) ?_; rintro e w2 ⟨rfl, hb2⟩; have HB2 := Lib.hid hb2; clear hb2)
    | (go_at_call 9; with_reducible refine Calls.mono (hB _) ?_; rintro e w3 ⟨rfl, hb3⟩; have HB3 := Lib.hid hb3; clear hb3)
    | (go_at_call 9; with_reducible refine Calls.mono (hC _) ?_; rintro e w4 ⟨rfl, hb4⟩; have HB4 := Lib.hid hb4; clear hb4)
    | (go_at_call 6; with_reducible refine Calls.mono (hD _) ?_; rintro e w5 ⟨rfl, hb5⟩; have HB5 := Lib.hid hb5; clear hb5))
  go_ret
  exact ⟨rfl, ((HB2.out.trans (HB3.out.mono HB2.out.size)).trans (HB4.out.mono (Nat.le_trans HB2.out.size HB3.out.size))).trans (HB5.out.mono (Nat.le_trans (Nat.le_trans HB2.out.size HB3.out.size) HB4.out.size))⟩
end Go.Proofs.YtlddbelpbgmljaaDoor
namespace Go.Proofs.YtlddbelpbgmljaaDoor
open Go.RowKit
set_option linter.unusedSimpArgs false
set_option linter.unusedVariables false
set_option linter.unusedSectionVars false

/-! LitQuotes. -/
theorem quote_data (s : ByteArray) : (quoteF s).data.toList = (34 :: (s.data.toList.flatMap fun c => (quoteB c.toNat).map UInt8.ofNat)) ++ [34] := by
  have h : s.data.toList.take s.size = s.data.toList := List.take_of_length_le (by simp)
  simp only [quoteF, bytesOf, quoteL, h, List.map_append, List.map_cons, List.map_nil, List.map_flatMap]
  rfl
theorem quote_size (s : ByteArray) : 2 ≤ (quoteF s).size := by
  have := congrArg List.length (quote_data s)
  simp only [List.length_append, List.length_cons, List.length_nil, Array.length_toList, ByteArray.size_data] at this
  omega
theorem quote_join (a b : ByteArray) : quoteF (a ++ b) = (quoteF a).extract 0 ((quoteF a).size - 1) ++ (quoteF b).extract 1 (quoteF b).size := by
  apply ByteArray.ext
  apply Array.ext'
  have ea := quote_data a
  have eb := quote_data b
  have na := congrArg List.length ea
  have nb := congrArg List.length eb
  simp only [List.length_append, List.length_cons, List.length_nil, Array.length_toList, ByteArray.size_data] at na nb
  rw [quote_data, ByteArray.data_append, Array.toList_append, ByteArray.data_append, Array.toList_append, Lib.extract_data, Lib.extract_data, ea, eb, List.flatMap_append]
  generalize (a.data.toList.flatMap fun c => (quoteB c.toNat).map UInt8.ofNat) = A at *
  generalize (b.data.toList.flatMap fun c => (quoteB c.toNat).map UInt8.ofNat) = B at *
  rw [na, nb, List.drop_zero, List.cons_append, List.cons_append, List.cons_append, List.drop_one, List.tail_cons]
  rw [show A.length + 1 + (0 + 1) - 1 - 0 = A.length + 1 by omega, show B.length + 1 + (0 + 1) - 1 = B.length + 1 by omega, List.take_succ_cons, List.take_left, List.take_of_length_le (by simp)]
  simp
theorem quoteF_len (s : ByteArray) : (quoteF s).size ≤ 4 * s.size + 2 := by
  have := quoteL_len s s.size
  rw [quoteF, bytesOf_size, List.length_append]
  simp; omega

end Go.Proofs.YtlddbelpbgmljaaDoor
namespace Go.Proofs.YtlddbelpbgmljaaDoor
open Go.RowKit
set_option linter.unusedSimpArgs false
set_option linter.unusedVariables false
set_option linter.unusedSectionVars false

/-! Numbers' values: without noughts ahead; a nought more behind a base's sign. -/
def Canon (l : List Nat) : Prop := (∀ x ∈ l, x < 10) ∧ l.getLast? ≠ some 0
theorem restF_last : ∀ (n c : Nat), c < 10 ^ n → (restF n c).getLast? ≠ some 0
  | 0, c, _ => by simp [restF]
  | n + 1, c, h => by
    unfold restF
    split
    · simp
    · rename_i hc
      have h2 : c / 10 < 10 ^ n := by rw [Nat.pow_succ] at h; omega
      have ih := restF_last n (c / 10) h2
      rw [List.getLast?_cons]
      cases hr : (restF n (c / 10)).getLast? with
      | some x =>
        rw [hr] at ih
        simpa using ih
      | none =>
        have he : restF n (c / 10) = [] := by simpa using hr
        have h0 : c / 10 = 0 := by
          cases n with
          | zero => simpa using h2
          | succ n =>
            unfold restF at he
            split at he
            · assumption
            · simp at he
        simp; omega
theorem mulF_last {base : Nat} (hb : 2 ≤ base) : ∀ (l : List Nat) (c : Nat), l.getLast? ≠ some 0 → (mulF base l c).2 = 0 → (mulF base l c).1.getLast? ≠ some 0
  | [], c, _, _ => by simp [mulF]
  | [f], c, h, h2 => by
    simp only [mulF] at h2 ⊢
    have hf : f ≠ 0 := by simpa using h
    have := Nat.mul_le_mul (show 1 ≤ f by omega) hb
    simp; omega
  | f :: g :: t, c, h, h2 => by
    have ih := mulF_last hb (g :: t) ((c + f * base) / 10) (by simpa [List.getLast?_cons] using h) h2
    have hne : (mulF base (g :: t) ((c + f * base) / 10)).1 ≠ [] := by simp [mulF]
    rw [mulF, List.getLast?_cons]
    cases hr : (mulF base (g :: t) ((c + f * base) / 10)).1.getLast? with
    | none => exact absurd (by simpa using hr) hne
    | some x => rw [hr] at ih; simpa using ih
theorem timesF_canon {base : Nat} (hb : 2 ≤ base) (hb2 : base ≤ 16) {l : List Nat} {m : Nat} (hl : Canon l) (hm : m < base) : Canon (timesF base l m) := by
  refine ⟨timesF_lt _ _ _, ?_⟩
  have hc := mulF_carry l m hl.1 hm
  have hr := restF_last 3 (mulF base l m).2 (by omega)
  unfold timesF
  rw [List.getLast?_append]
  cases h : (restF 3 (mulF base l m).2).getLast? with
  | some x => rw [h] at hr; simpa using hr
  | none =>
    have he : restF 3 (mulF base l m).2 = [] := by simpa using h
    have h0 : (mulF base l m).2 = 0 := by
      unfold restF at he
      split at he
      · assumption
      · simp at he
    simpa using mulF_last hb l m hl.2 h0
theorem digF_canon {t : ByteArray} {b : Nat} (hb : 2 ≤ b) (hb2 : b ≤ 16) : ∀ (f pos last : Nat) (l r : List Nat), Canon l → digF t b f pos last l = some r → Canon r
  | 0, _, _, _, _, _, h => by simp [digF] at h
  | f + 1, pos, last, l, r, hl, h => by
    unfold digF at h
    repeat' split at h
    · simp at h
    · exact digF_canon hb hb2 f _ _ _ _ hl h
    · rename_i hd
      exact digF_canon hb hb2 f _ _ _ _ (timesF_canon hb hb2 hl hd) h
    · simp at h
    · simp at h
    · simp only [Option.some.injEq] at h; exact h ▸ hl

theorem dec_ascii (s : ByteArray) (i : Nat) (h : i < s.size) (h2 : byteN s i < 128) : Utf8.decode s i = (byteN s i, 1) := by
  rw [decode_B s i h, decB, if_pos h2]
theorem plainG_all (s : ByteArray) (h : ∀ i, i < s.size → 48 ≤ byteN s i ∧ byteN s i ≤ 57) : ∀ (f pos : Nat), plainG s f pos = true
  | 0, _ => rfl
  | f + 1, pos => by
    unfold plainG
    split
    · rename_i hlt
      have hb := h pos hlt
      rw [dec_ascii s pos hlt (by omega), if_pos (by simpa using hb)]
      exact plainG_all s h f _
    · rfl
theorem decF_bytes {l : List Nat} (hl : ∀ x ∈ l, x < 10) (i : Nat) (hi : i < (decF l).size) : 48 ≤ byteN (decF l) i ∧ byteN (decF l) i ≤ 57 := by
  by_cases h : l = []
  · subst h
    have : i = 0 := by simp [decF, ByteArray.size] at hi; omega
    subst this
    decide
  · rw [decF_size l h] at hi
    have hb := decF_byte l h hl i hi
    have hm : i < (u8s (l.map (48 + ·))).reverse.length := by simpa [u8s] using hi
    rw [List.getElem?_eq_getElem hm] at hb
    have hx : (u8s (l.map (48 + ·))).reverse[i]'hm ∈ u8s (l.map (48 + ·)) := by rw [← List.mem_reverse]; exact List.getElem_mem _
    simp only [Option.some.injEq] at hb
    rw [hb] at hx
    simp only [u8s, List.map_map, List.mem_map, Function.comp, Value.int.injEq, true_and] at hx
    obtain ⟨d, hd, he⟩ := hx
    have := hl d hd
    omega
theorem decF_plain {l : List Nat} (hl : Canon l) (h : (decF l).size ≤ 200) : plainF (decF l) = true := by
  by_cases h0 : l = []
  · subst h0; decide +kernel
  have hsz := decF_size l h0
  have hpos : 0 < l.length := List.length_pos_iff.2 h0
  unfold plainF
  rw [if_neg]
  · exact plainG_all _ (fun i hi => decF_bytes hl.1 i hi) _ _
  · rintro (h1 | h1 | ⟨h1, h2⟩)
    · omega
    · omega
    · have hb := decF_byte l h0 hl.1 0 hpos
      rw [h1] at hb
      have he : (u8s (l.map (48 + ·))).reverse[0]? = some (.int .u8 ((48 + l.getLast h0 : Nat) : Int)) := by
        rw [List.getElem?_reverse (by simpa [u8s] using hpos)]
        simp only [u8s, List.length_map, List.getElem?_map, Nat.sub_zero, ← List.getLast?_eq_getElem?, List.getLast?_eq_some_getLast h0, Option.map_some]
      rw [he] at hb
      simp only [Option.some.injEq, Value.int.injEq, true_and] at hb
      have : l.getLast h0 ≠ 0 := by
        have := hl.2
        rw [List.getLast?_eq_some_getLast h0] at this
        simpa using this
      omega
theorem numV_plain {s : ByteArray} (h : numE s = 0) : plainF (numV s) = true ∨ 200 < (numV s).size := by
  unfold numE at h
  split at h
  · omega
  · rename_i hs
    rw [numV, if_neg hs]
    split at h
    · omega
    · rename_i hn
      cases hr : numR s with
      | none => exact absurd hr hn
      | some r =>
        simp only [Option.getD_some]
        unfold numR at hr
        split at hr
        · simp at hr
        · rename_i b n hsp
          obtain ⟨hb2, hb16, _⟩ := split_base hsp
          simp only [Option.map_eq_some_iff] at hr
          obtain ⟨l, hl, rfl⟩ := hr
          have hc := digF_canon hb2 hb16 _ _ _ _ _ ⟨by simp, by simp⟩ hl
          by_cases h2 : 200 < (decF l).size
          · exact .inr h2
          · exact .inl (decF_plain hc (by omega))
end Go.Proofs.YtlddbelpbgmljaaDoor
namespace Go.Proofs.YtlddbelpbgmljaaDoor
open Go.RowKit
set_option linter.unusedSimpArgs false
set_option linter.unusedVariables false
set_option linter.unusedSectionVars false

/-! A nought more behind a base's sign; a plain number is itself. -/
theorem digF_last {t : ByteArray} {b : Nat} {f : Nat} {l r : List Nat} (h : digF t b f 0 0 l = some r) : digF t b f 0 48 l = some r := by
  cases f with
  | zero => simp [digF] at h
  | succ f =>
    unfold digF at h ⊢
    by_cases h0 : 0 < t.size
    · rw [if_pos h0] at h ⊢
      by_cases h1 : (Utf8.decode t 0).1 = 95
      · rw [if_pos h1] at h ⊢
        rw [if_neg (by decide)] at h ⊢
        exact h
      · rw [if_neg h1] at h ⊢
        exact h
    · rw [if_neg h0] at h
      simp at h
theorem byteN_shift {t t' : ByteArray} (h : t'.data.toList = 48 :: t.data.toList) (i : Nat) : byteN t' (i + 1) = byteN t i := by
  simp [byteN, h]
theorem size_shift {t t' : ByteArray} (h : t'.data.toList = 48 :: t.data.toList) : t'.size = t.size + 1 := by
  have := congrArg List.length h
  simpa using this
theorem dec_shift {t t' : ByteArray} (h : t'.data.toList = 48 :: t.data.toList) (i : Nat) (hi : i < t.size) : Utf8.decode t' (i + 1) = Utf8.decode t i := by
  have hs := size_shift h
  rw [decode_B t' (i + 1) (by omega), decode_B t i hi, byteN_shift h, show i + 1 + 1 = (i + 1) + 1 from rfl, byteN_shift h, show i + 1 + 2 = (i + 2) + 1 from rfl, byteN_shift h, show i + 1 + 3 = (i + 3) + 1 from rfl, byteN_shift h, show t'.size - (i + 1) = t.size - i by omega]
theorem digF_shift {t t' : ByteArray} (h : t'.data.toList = 48 :: t.data.toList) (b : Nat) : ∀ (f pos last : Nat) (l : List Nat), digF t' b f (pos + 1) last l = digF t b f pos last l
  | 0, _, _, _ => rfl
  | f + 1, pos, last, l => by
    have hs := size_shift h
    unfold digF
    by_cases hp : pos < t.size
    · rw [if_pos hp, if_pos (by omega), dec_shift h pos hp]
      rw [show pos + 1 + (Utf8.decode t pos).2 = (pos + (Utf8.decode t pos).2) + 1 by omega, digF_shift h b f, digF_shift h b f]
    · rw [if_neg hp, if_neg (by omega)]
theorem digF_nought {t t' : ByteArray} (h : t'.data.toList = 48 :: t.data.toList) {b : Nat} (hb : 2 ≤ b) {r : List Nat} (hr : digF t b (t.size + 1) 0 0 [] = some r) : digF t' b (t'.size + 1) 0 0 [] = some r := by
  have hs := size_shift h
  have h0 : byteN t' 0 = 48 := by simp [byteN, h]
  rw [digF, if_pos (by omega), dec_ascii t' 0 (by omega) (by omega), h0]
  rw [if_neg (by decide), if_pos (show digitW 48 < b from by unfold digitW; simp; omega)]
  have h1 : timesF b [] (digitW 48) = [] := rfl
  rw [h1, hs]
  rw [digF_shift h b]
  exact digF_last hr

theorem pre_two (s : ByteArray) (a b : UInt8) : pre s ⟨#[a, b]⟩ = decide (2 ≤ s.size ∧ byteN s 0 = a.toNat ∧ byteN s 1 = b.toNat) := by
  by_cases h : 2 ≤ s.size
  · rw [pre_yes (by exact h)]
    have hL : s.data.toList.length = s.size := by simp
    rw [Lib.extract_toList, List.drop_zero]
    obtain ⟨x, y, r, hl⟩ : ∃ x y r, s.data.toList = x :: y :: r := by
      rcases hs : s.data.toList with _ | ⟨x, _ | ⟨y, r⟩⟩
      · rw [hs] at hL; simp at hL; omega
      · rw [hs] at hL; simp at hL; omega
      · exact ⟨x, y, r, rfl⟩
    have : (⟨#[a, b]⟩ : ByteArray).toList = [a, b] := by rw [Lib.toList_data]
    rw [this, hl, Bool.eq_iff_iff]
    have hz : (⟨#[a, b]⟩ : ByteArray).size = 2 := rfl
    simp only [byteN, hl, hz, beq_iff_eq, decide_eq_true_eq, h, true_and, Nat.sub_zero, List.take_succ_cons, List.take_zero, List.cons.injEq, and_true, List.getD_cons_zero, List.getD_cons_succ, ← UInt8.toNat_inj]
  · rw [pre_no (by exact h)]
    symm; simp; omega
theorem split_16 {s : ByteArray} (h : 2 ≤ s.size) (h0 : byteN s 0 = 48) (h1 : byteN s 1 = 120) : splitF s = some (16, 2) := by
  unfold splitF
  rw [pre_two]; simp [h, h0, h1]
theorem split_2 {s : ByteArray} (h : 2 ≤ s.size) (h0 : byteN s 0 = 48) (h1 : byteN s 1 = 98) : splitF s = some (2, 2) := by
  unfold splitF
  rw [pre_two, pre_two, pre_two]; simp [h, h0, h1]
theorem split_8 {s : ByteArray} (h : 2 ≤ s.size) (h0 : byteN s 0 = 48) (h1 : byteN s 1 = 111) : splitF s = some (8, 2) := by
  unfold splitF
  rw [pre_two, pre_two, pre_two, pre_two, pre_two]; simp [h, h0, h1]
/-- A nought more behind the base's sign. -/
def nought (s : ByteArray) : ByteArray := s.extract 0 2 ++ ⟨#[48]⟩ ++ s.extract 2 s.size
theorem nought_size (s : ByteArray) (h : 2 ≤ s.size) : (nought s).size = s.size + 1 := by
  have h1 : (⟨#[48]⟩ : ByteArray).size = 1 := rfl
  simp only [nought, ByteArray.size_append, ByteArray.size_extract, h1]; omega
theorem nought_list (s : ByteArray) : (nought s).data.toList = s.data.toList.take 2 ++ 48 :: s.data.toList.drop 2 := by
  simp only [nought, ByteArray.data_append, Array.toList_append, Lib.extract_data, List.drop_zero]
  have : (s.data.toList.drop 2).take (s.size - 2) = s.data.toList.drop 2 := List.take_of_length_le (by simp)
  rw [this]
  simp
theorem nought_num {s : ByteArray} {b : Nat} (h : 2 < s.size) (hs : splitF s = some (b, 2)) (hs2 : splitF (nought s) = some (b, 2)) {r : ByteArray} (hr : numR s = some r) : numR (nought s) = some r := by
  obtain ⟨hb, _, _⟩ := split_base hs
  unfold numR at hr ⊢
  rw [hs] at hr
  rw [hs2]
  simp only [Option.map_eq_some_iff] at hr ⊢
  obtain ⟨l, hl, rfl⟩ := hr
  refine ⟨l, digF_nought (t := s.extract 2 s.size) ?_ hb hl, rfl⟩
  have h1 : (s.data.toList.drop 2).take (s.size - 2) = s.data.toList.drop 2 := List.take_of_length_le (by simp)
  rw [Lib.extract_data, Lib.extract_data, nought_list, h1]
  have h2 : (s.data.toList.take 2).length = 2 := by simp; omega
  rw [List.drop_append_of_le_length (by omega), List.drop_of_length_le (by omega), List.nil_append, nought_size s (by omega)]
  exact List.take_of_length_le (by simp; omega)
theorem nought_byte (s : ByteArray) (h : 2 ≤ s.size) (i : Nat) (hi : i < 2) : byteN (nought s) i = byteN s i := by
  have h2 : (s.data.toList.take 2).length = 2 := by simp; omega
  simp only [byteN, nought_list, List.getD_eq_getElem?_getD]
  rw [List.getElem?_append_left (by omega), List.getElem?_take, if_pos hi]
theorem nought_all {s : ByteArray} (h : 2 < s.size) (h2 : s.size ≤ 199) (h0 : byteN s 0 = 48) (h1 : byteN s 1 = 120 ∨ byteN s 1 = 98 ∨ byteN s 1 = 111) (he : numE s = 0) : numE (nought s) = 0 ∧ numV (nought s) = numV s := by
  have hsz := nought_size s (by omega)
  have b0 := nought_byte s (by omega) 0 (by omega)
  have b1 := nought_byte s (by omega) 1 (by omega)
  have key : ∀ r, numR s = some r → numR (nought s) = some r := by
    intro r hr
    rcases h1 with h1 | h1 | h1
    · exact nought_num h (split_16 (by omega) h0 h1) (split_16 (by omega) (by omega) (by omega)) hr
    · exact nought_num h (split_2 (by omega) h0 h1) (split_2 (by omega) (by omega) (by omega)) hr
    · exact nought_num h (split_8 (by omega) h0 h1) (split_8 (by omega) (by omega) (by omega)) hr
  have n1 : ¬ 200 < s.size := by omega
  have n2 : ¬ 200 < (nought s).size := by omega
  unfold numE at he ⊢
  unfold numV
  rw [if_neg n1] at he
  rw [if_neg n2, if_neg n2, if_neg n1]
  cases hr : numR s with
  | none => rw [hr] at he; simp at he
  | some r => rw [key r hr]; simp
end Go.Proofs.YtlddbelpbgmljaaDoor
namespace Go.Proofs.YtlddbelpbgmljaaDoor
open Go.RowKit
set_option linter.unusedSimpArgs false
set_option linter.unusedVariables false
set_option linter.unusedSectionVars false

/-! A plain number is itself. -/
theorem mul10 : ∀ (l : List Nat) (c : Nat), c < 10 → (∀ x ∈ l, x < 10) → (mulF 10 l c).1 ++ [(mulF 10 l c).2] = c :: l
  | [], c, _, _ => rfl
  | f :: t, c, hc, hl => by
    have hf : f < 10 := hl f (by simp)
    have e1 : (c + f * 10) % 10 = c := by omega
    have e2 : (c + f * 10) / 10 = f := by omega
    simp only [mulF, e1, e2, List.cons_append, List.cons.injEq, true_and]
    exact mul10 t f hf (fun x hx => hl x (by simp [hx]))
theorem times10 {l : List Nat} {d : Nat} (hd : d < 10) (hl : ∀ x ∈ l, x < 10) (h : (d :: l).getLast? ≠ some 0) : timesF 10 l d = d :: l := by
  have hm := mul10 l d hd hl
  have hlast : (d :: l).getLast? = some (mulF 10 l d).2 := by rw [← hm]; simp
  have hc := mulF_carry (base := 10) l d hl hd
  have hne : (mulF 10 l d).2 ≠ 0 := by
    intro h0
    rw [hlast, h0] at h
    exact h rfl
  have hr : restF 3 (mulF 10 l d).2 = [(mulF 10 l d).2] := by
    rw [restF, if_neg hne, show (mulF 10 l d).2 / 10 = 0 by omega, show (mulF 10 l d).2 % 10 = (mulF 10 l d).2 by omega]
    rfl
  rw [timesF, hr, hm]
def digs (t : ByteArray) (pos : Nat) : List Nat := ((t.data.toList.drop pos).map fun b => b.toNat - 48).reverse
theorem digs_step (t : ByteArray) (pos : Nat) (h : pos < t.size) (l : List Nat) : digs t pos ++ l = digs t (pos + 1) ++ ((byteN t pos - 48) :: l) := by
  have hk : pos < t.data.toList.length := by simpa using h
  unfold digs
  rw [List.drop_eq_getElem_cons hk]
  simp only [List.map_cons, List.reverse_cons, List.append_assoc, List.singleton_append, byteN, List.getD_eq_getElem?_getD, List.getElem?_eq_getElem hk, Option.getD_some]
theorem digF_plain (t : ByteArray) (hd : ∀ i, i < t.size → 48 ≤ byteN t i ∧ byteN t i ≤ 57) : ∀ (f pos last : Nat) (l : List Nat), t.size < f + pos → pos ≤ t.size → (pos = t.size → last ≠ 0 ∧ last ≠ 95) → (∀ x ∈ l, x < 10) →
    (digs t pos ++ l).getLast? ≠ some 0 → digF t 10 f pos last l = some (digs t pos ++ l)
  | 0, pos, last, l, h1, h2, h3, h4, h5 => by omega
  | f + 1, pos, last, l, h1, h2, h3, h4, h5 => by
    unfold digF
    by_cases hp : pos < t.size
    · have hb := hd pos hp
      rw [if_pos hp, dec_ascii t pos hp (by omega)]
      have hw : digitW (byteN t pos) = byteN t pos - 48 := by unfold digitW; rw [if_pos hb]
      simp only
      rw [if_neg (by omega), hw, if_pos (by omega)]
      have hst := digs_step t pos hp l
      have hlast : ((byteN t pos - 48) :: l).getLast? ≠ some 0 := by
        rw [hst, List.getLast?_append] at h5
        cases hx : ((byteN t pos - 48) :: l).getLast? with
        | none => simp
        | some x => rw [hx] at h5; simpa using h5
      rw [times10 (by omega) h4 hlast, hst]
      refine digF_plain t hd f (pos + 1) _ _ (by omega) (by omega) (fun _ => by omega) ?_ (by rw [← hst]; exact h5)
      intro x hx
      rcases List.mem_cons.1 hx with rfl | hx
      · omega
      · exact h4 x hx
    · have hpe : pos = t.size := by omega
      obtain ⟨a, b⟩ := h3 hpe
      rw [if_neg hp, if_neg (by omega)]
      have : digs t pos = [] := by
        unfold digs
        rw [List.drop_of_length_le (by simp; omega)]
        rfl
      rw [this]; rfl
theorem pre_one (s : ByteArray) (a : UInt8) : pre s ⟨#[a]⟩ = decide (1 ≤ s.size ∧ byteN s 0 = a.toNat) := by
  by_cases h : 1 ≤ s.size
  · rw [pre_yes (by exact h)]
    have hL : s.data.toList.length = s.size := by simp
    rw [Lib.extract_toList, List.drop_zero]
    obtain ⟨x, r, hl⟩ : ∃ x r, s.data.toList = x :: r := by
      rcases hs : s.data.toList with _ | ⟨x, r⟩
      · rw [hs] at hL; simp at hL; omega
      · exact ⟨x, r, rfl⟩
    have : (⟨#[a]⟩ : ByteArray).toList = [a] := by rw [Lib.toList_data]
    rw [this, hl, Bool.eq_iff_iff]
    have hz : (⟨#[a]⟩ : ByteArray).size = 1 := rfl
    simp only [byteN, hl, hz, beq_iff_eq, decide_eq_true_eq, h, true_and, Nat.sub_zero, List.take_succ_cons, List.take_zero, List.cons.injEq, and_true, List.getD_cons_zero, ← UInt8.toNat_inj]
  · rw [pre_no (by exact h)]
    symm; simp; omega
theorem plain_num {t : ByteArray} (h0 : 0 < t.size) (hd : ∀ i, i < t.size → 48 ≤ byteN t i ∧ byteN t i ≤ 57) (hf : byteN t 0 ≠ 48) : numR t = some t := by
  have hb := hd 0 h0
  have hsp : splitF t = some (10, 0) := by
    unfold splitF
    have h95 : byteN t 0 ≠ 95 := by omega
    simp [pre_two, pre_one, hf, h95]
  unfold numR
  rw [hsp]
  simp only [ext_zero]
  have hdl : (digs t 0 ++ []).getLast? ≠ some 0 := by
    have hst := digs_step t 0 h0 []
    rw [hst, List.getLast?_append]
    simp
    omega
  rw [digF_plain t hd _ 0 0 [] (by omega) (by omega) (fun h => by omega) (by simp) hdl]
  simp only [Option.map_some, Option.some.injEq, List.append_nil]
  have hne : digs t 0 ≠ [] := by
    intro h
    have := congrArg List.length h
    simp only [digs, List.length_reverse, List.length_map, List.length_drop, List.length_nil, Array.length_toList, ByteArray.size_data] at this
    omega
  rw [decF, if_neg hne]
  apply ByteArray.ext
  apply Array.ext'
  simp only [digs, List.reverse_reverse, List.drop_zero, List.map_map]
  apply List.ext_getElem?
  intro i
  rw [List.getElem?_map]
  by_cases hi : i < t.data.toList.length
  · have hb := hd i (by simpa using hi)
    rw [List.getElem?_eq_getElem hi]
    simp only [Option.map_some, Function.comp, Option.some.injEq]
    simp only [byteN, List.getD_eq_getElem?_getD, List.getElem?_eq_getElem hi, Option.getD_some] at hb
    apply UInt8.toNat_inj.1
    rw [UInt8.toNat_ofNat']
    have := UInt8.toNat_lt (t.data.toList[i])
    omega
  · rw [List.getElem?_eq_none (by omega)]; rfl
def repB (k : Nat) (c : UInt8) : ByteArray := ⟨(List.replicate k c).toArray⟩
theorem repB_size (k : Nat) (c : UInt8) : (repB k c).size = k := by simp [repB, ByteArray.size]
theorem repB_byte (k : Nat) (c : UInt8) (i : Nat) (h : i < k) : byteN (repB k c) i = c.toNat := by
  unfold byteN repB
  simp [List.getD_eq_getElem?_getD, List.getElem?_replicate, h]
theorem rep_num (k c : Nat) (hk : 0 < k) (h1 : 49 ≤ c) (h2 : c ≤ 57) : numR (repB k (UInt8.ofNat c)) = some (repB k (UInt8.ofNat c)) := by
  have hc : (UInt8.ofNat c).toNat = c := by rw [UInt8.toNat_ofNat']; omega
  refine plain_num (by rw [repB_size]; exact hk) (fun i hi => ?_) ?_
  · rw [repB_size] at hi
    rw [repB_byte _ _ _ hi, hc]; omega
  · rw [repB_byte _ _ _ hk, hc]; omega
end Go.Proofs.YtlddbelpbgmljaaDoor
namespace Go.Proofs.YtlddbelpbgmljaaDoor
open Go.RowKit
set_option linter.unusedSimpArgs false
set_option linter.unusedVariables false
set_option linter.unusedSectionVars false

/-! The document's numbers: digit, decimal. -/
def pad (l : List Nat) : List Nat := if l = [] then [0] else l
theorem rest_small : ∀ d, d < 16 → (d % 10 :: restF 3 (d / 10)) = (if d = 0 then [0] else restF 3 d) := by decide
theorem pad_times {base d : Nat} (hb : 2 ≤ base) (hb2 : base ≤ 16) {l : List Nat} (hl : Canon l) (hd : d < base) : timesF base (pad l) d = pad (timesF base l d) := by
  by_cases h : l = []
  · subst h
    have h1 := rest_small d (by omega)
    have e1 : timesF base [] d = restF 3 d := rfl
    have e2 : timesF base [0] d = d % 10 :: restF 3 (d / 10) := by simp [timesF, mulF]
    have e3 : pad [] = [0] := rfl
    rw [e1, e3, e2, h1]
    by_cases h0 : d = 0
    · subst h0; rfl
    · have hne : restF 3 d ≠ [] := by unfold restF; rw [if_neg h0]; simp
      rw [if_neg h0, pad, if_neg hne]
  · have hne : timesF base l d ≠ [] := by
      intro h0
      have := congrArg List.length h0
      simp only [timesF, List.length_append, mulF_len, List.length_nil] at this
      exact h (List.eq_nil_of_length_eq_zero (by omega))
    rw [pad, if_neg h, pad, if_neg hne]
/-- Digits of a base, as figures. -/
def foldD (base : Nat) (l ds : List Nat) : List Nat := ds.foldl (fun l d => timesF base l d) l
theorem foldD_canon {base : Nat} (hb : 2 ≤ base) (hb2 : base ≤ 16) : ∀ (ds l : List Nat), Canon l → (∀ d ∈ ds, d < base) → Canon (foldD base l ds)
  | [], l, h, _ => h
  | d :: ds, l, h, hd => foldD_canon hb hb2 ds _ (timesF_canon hb hb2 h (hd d (by simp))) (fun x hx => hd x (by simp [hx]))
theorem foldD_snoc (base : Nat) (l ds : List Nat) (d : Nat) : foldD base l (ds ++ [d]) = timesF base (foldD base l ds) d := by
  simp [foldD]
theorem foldD_len (base : Nat) : ∀ (ds l : List Nat), (foldD base l ds).length ≤ l.length + 3 * ds.length
  | [], l => by simp [foldD]
  | d :: ds, l => by
    have h1 := foldD_len base ds (timesF base l d)
    have h2 := timesF_len base l d
    simp only [foldD, List.foldl_cons, List.length_cons] at *
    omega
def i64s (l : List Nat) : List Value := l.map fun (x : Nat) => Value.int .i64 (x : Int)
theorem i64s_len (l : List Nat) : (i64s l).length = l.length := by simp [i64s]
theorem i64s_mid (a b : List Nat) (f r : Nat) : (i64s (a ++ f :: b)).set a.length (.int .i64 r) = i64s ((a ++ [r]) ++ b) := by
  simp only [i64s, List.map_append, List.map_cons, List.map_nil]
  rw [List.set_append_right _ _ (by simp)]
  simp
theorem i64s_at (a b : List Nat) (f : Nat) : (i64s (a ++ f :: b))[a.length]? = some (.int .i64 (f : Int)) := by
  simp only [i64s, List.map_append, List.map_cons]
  rw [List.getElem?_append_right (by simp)]
  simp
theorem i64s_get (l : List Nat) (k : Nat) (h : k < l.length) : (i64s l)[k]? = some (.int .i64 (l[k] : Int)) := by
  simp [i64s, List.getElem?_map, List.getElem?_eq_getElem h]
theorem info64 : (Tryd.prog.info? 3).map (fun i => (i.zero, i.size, i.bytes)) = some (some (.int .i64 0), 1, 8) := by kernel_rfl
theorem pad_ne (l : List Nat) : pad l ≠ [] := by unfold pad; split <;> simp_all
theorem pad_lt {l : List Nat} (h : ∀ x ∈ l, x < 10) : ∀ x ∈ pad l, x < 10 := by
  unfold pad
  split
  · simp
  · exact h
theorem pad_len (l : List Nat) : (pad l).length ≤ l.length + 1 := by unfold pad; split <;> simp
theorem decF_pad (l : List Nat) (h : ∀ x ∈ l, x < 10) : bytesOf ((pad l).reverse.map (48 + ·)) = decF l := by
  by_cases h0 : l = []
  · subst h0; rfl
  · rw [pad, if_neg h0, decF, if_neg h0, bytesOf, List.map_map]
    rfl
end Go.Proofs.YtlddbelpbgmljaaDoor
namespace Go.Proofs.YtlddbelpbgmljaaDoor
open Go.RowKit
set_option linter.unusedSimpArgs false
set_option linter.unusedVariables false
set_option linter.unusedSectionVars false

/-! The document's Number is the program's (pure). -/
def litG (s : ByteArray) (base : Nat) : Nat → Nat → List Nat → Option (List Nat)
  | 0, _, _ => none
  | f + 1, i, ds =>
    if i < s.size then
      (if byteN s i = 95 then (if i + 1 = s.size ∨ byteN s (i + 1) = 95 then none else litG s base f (i + 1) ds)
       else if digitW (byteN s i) < base then litG s base f (i + 1) (ds ++ [digitW (byteN s i)]) else none)
    else if ds = [] then none else some ds
theorem dec_high (t : ByteArray) (i : Nat) (h : i < t.size) (h2 : 128 ≤ byteN t i) : 128 ≤ (Utf8.decode t i).1 := by
  rw [decode_B t i h]
  have h0 := byteN_lt t i
  have h1 := byteN_lt t (i + 1)
  have h3 := byteN_lt t (i + 2)
  have h4 := byteN_lt t (i + 3)
  generalize byteN t i = b0 at *
  generalize byteN t (i + 1) = b1 at *
  generalize byteN t (i + 2) = b2 at *
  generalize byteN t (i + 3) = b3 at *
  unfold decB
  repeat' split
  all_goals (simp only; omega)
theorem digitW_high {c : Nat} (h : 128 ≤ c) : digitW c = 99 := by
  unfold digitW
  rw [if_neg (by omega), if_neg (by omega), if_neg (by omega)]
theorem digitW_low {c b : Nat} (h : digitW c < b) (hb : b ≤ 16) : 48 ≤ c ∧ c < 128 := by
  unfold digitW at h
  repeat' split at h
  all_goals omega
theorem byteN_sfx (s : ByteArray) (n j : Nat) : byteN (s.extract n s.size) j = byteN s (n + j) := by
  simp only [byteN, Lib.extract_data, List.getD_eq_getElem?_getD]
  have : (s.data.toList.drop n).take (s.size - n) = s.data.toList.drop n := List.take_of_length_le (by simp)
  rw [this, List.getElem?_drop]
theorem digF_ref {s : ByteArray} {n b : Nat} (hn : n ≤ s.size) (hb2 : 2 ≤ b) (hb : b ≤ 16) : ∀ (k pos f1 f2 last : Nat) (ds : List Nat), s.size - n - pos = k → pos ≤ s.size - n → s.size - n < f1 + pos → s.size < f2 + (n + pos) →
    (last ≠ 95 → (last = 0 ↔ ds = [])) →
    digF (s.extract n s.size) b f1 pos last (foldD b [] ds) = if last = 95 ∧ (pos = s.size - n ∨ byteN s (n + pos) = 95) then none else (litG s b f2 (n + pos) ds).map (foldD b []) := by
  have hts : (s.extract n s.size).size = s.size - n := by simp
  intro k
  induction k with
  | zero =>
    intro pos f1 f2 last ds hk hp hf1 hf2 hl
    have hpe : pos = s.size - n := by omega
    obtain ⟨f1, rfl⟩ : ∃ g, f1 = g + 1 := ⟨f1 - 1, by omega⟩
    obtain ⟨f2, rfl⟩ : ∃ g, f2 = g + 1 := ⟨f2 - 1, by omega⟩
    have e1 : digF (s.extract n s.size) b (f1 + 1) pos last (foldD b [] ds) = if last = 0 ∨ last = 95 then none else some (foldD b [] ds) := by rw [digF, if_neg (by rw [hts]; omega)]
    have e2 : litG s b (f2 + 1) (n + pos) ds = if ds = [] then none else some ds := by rw [litG, if_neg (show ¬ n + pos < s.size by omega)]
    rw [e1, e2]
    by_cases h95 : last = 95
    · rw [if_pos (show last = 0 ∨ last = 95 from .inr h95), if_pos (show last = 95 ∧ (pos = s.size - n ∨ byteN s (n + pos) = 95) from ⟨h95, .inl hpe⟩)]
    · rw [if_neg (show ¬ (last = 95 ∧ (pos = s.size - n ∨ byteN s (n + pos) = 95)) from fun h => h95 h.1)]
      by_cases h0 : last = 0
      · rw [if_pos (show last = 0 ∨ last = 95 from .inl h0), if_pos ((hl h95).1 h0)]; rfl
      · rw [if_neg (show ¬ (last = 0 ∨ last = 95) by omega), if_neg (fun h => h0 ((hl h95).2 h))]; rfl
  | succ k ih =>
    intro pos f1 f2 last ds hk hp hf1 hf2 hl
    obtain ⟨f1, rfl⟩ : ∃ g, f1 = g + 1 := ⟨f1 - 1, by omega⟩
    obtain ⟨f2, rfl⟩ : ∃ g, f2 = g + 1 := ⟨f2 - 1, by omega⟩
    have hlt : pos < (s.extract n s.size).size := by rw [hts]; omega
    have hbt := byteN_sfx s n pos
    have e1 : digF (s.extract n s.size) b (f1 + 1) pos last (foldD b [] ds) = (if (Utf8.decode (s.extract n s.size) pos).1 = 95 then (if last = 95 then none else digF (s.extract n s.size) b f1 (pos + (Utf8.decode (s.extract n s.size) pos).2) 95 (foldD b [] ds))
       else if digitW (Utf8.decode (s.extract n s.size) pos).1 < b then digF (s.extract n s.size) b f1 (pos + (Utf8.decode (s.extract n s.size) pos).2) (Utf8.decode (s.extract n s.size) pos).1 (timesF b (foldD b [] ds) (digitW (Utf8.decode (s.extract n s.size) pos).1))
       else none) := by rw [digF, if_pos hlt]
    have e2 : litG s b (f2 + 1) (n + pos) ds = (if byteN s (n + pos) = 95 then (if n + pos + 1 = s.size ∨ byteN s (n + pos + 1) = 95 then none else litG s b f2 (n + pos + 1) ds)
       else if digitW (byteN s (n + pos)) < b then litG s b f2 (n + pos + 1) (ds ++ [digitW (byteN s (n + pos))]) else none) := by rw [litG, if_pos (show n + pos < s.size by omega)]
    by_cases hc : byteN s (n + pos) < 128
    · rw [dec_ascii _ pos hlt (by rw [hbt]; exact hc), hbt] at e1
      simp only at e1
      by_cases h95 : byteN s (n + pos) = 95
      · rw [if_pos h95] at e1 e2
        by_cases hl95 : last = 95
        · rw [if_pos hl95] at e1
          rw [e1, if_pos (show last = 95 ∧ (pos = s.size - n ∨ byteN s (n + pos) = 95) from ⟨hl95, .inr h95⟩)]
        · rw [if_neg hl95, ih (pos + 1) f1 f2 95 ds (by omega) (by omega) (by omega) (by omega) (fun h => absurd rfl h), show n + (pos + 1) = n + pos + 1 by omega] at e1
          rw [e1, e2, if_neg (show ¬ (last = 95 ∧ (pos = s.size - n ∨ byteN s (n + pos) = 95)) from fun h => hl95 h.1)]
          by_cases he : n + pos + 1 = s.size ∨ byteN s (n + pos + 1) = 95
          · rw [if_pos he, if_pos (show (95 = 95 ∧ (pos + 1 = s.size - n ∨ byteN s (n + pos + 1) = 95)) from ⟨rfl, by omega⟩)]; rfl
          · rw [if_neg he, if_neg (show ¬ (95 = 95 ∧ (pos + 1 = s.size - n ∨ byteN s (n + pos + 1) = 95)) by omega)]
      · rw [if_neg h95] at e1 e2
        have hcond : ¬ (last = 95 ∧ (pos = s.size - n ∨ byteN s (n + pos) = 95)) := by omega
        by_cases hd : digitW (byteN s (n + pos)) < b
        · rw [if_pos hd] at e1 e2
          have hlow := digitW_low hd hb
          rw [← foldD_snoc, ih (pos + 1) f1 f2 (byteN s (n + pos)) (ds ++ [digitW (byteN s (n + pos))]) (by omega) (by omega) (by omega) (by omega) (fun _ => ⟨fun h => by omega, fun h => by simp at h⟩),
            if_neg (show ¬ (byteN s (n + pos) = 95 ∧ (pos + 1 = s.size - n ∨ byteN s (n + (pos + 1)) = 95)) from fun h => h95 h.1), show n + (pos + 1) = n + pos + 1 by omega] at e1
          rw [e1, e2, if_neg hcond]
        · rw [if_neg hd] at e1 e2
          rw [e1, e2, if_neg hcond]; rfl
    · have hr := dec_high _ pos hlt (by rw [hbt]; omega)
      rw [if_neg (show ¬ (Utf8.decode (s.extract n s.size) pos).1 = 95 by omega), digitW_high hr, if_neg (show ¬ 99 < b by omega)] at e1
      rw [if_neg (show ¬ byteN s (n + pos) = 95 by omega), digitW_high (show 128 ≤ byteN s (n + pos) by omega), if_neg (show ¬ 99 < b by omega)] at e2
      rw [e1, e2, if_neg (show ¬ (last = 95 ∧ (pos = s.size - n ∨ byteN s (n + pos) = 95)) by omega)]; rfl

/-- What the document's Number begins with. -/
def refSplit (s : ByteArray) : Option (Nat × Nat) :=
  if s.size = 0 ∨ byteN s 0 < 48 ∨ 57 < byteN s 0 then none
  else if byteN s 0 = 48 ∧ 1 < s.size then
    (if byteN s 1 = 120 ∨ byteN s 1 = 88 then some (16, 2) else if byteN s 1 = 98 ∨ byteN s 1 = 66 then some (2, 2) else if byteN s 1 = 111 ∨ byteN s 1 = 79 then some (8, 2) else some (8, 1))
  else some (10, 0)
def refR (s : ByteArray) : Option ByteArray :=
  match refSplit s with
  | none => none
  | some (b, n) => (litG s b (s.size + 1) n []).map fun ds => decF (foldD b [] ds)
theorem numR_of {s : ByteArray} {b n : Nat} (h1 : splitF s = some (b, n)) (h2 : refSplit s = some (b, n)) (hn : n ≤ s.size) : refR s = numR s := by
  obtain ⟨hb2, hb, _⟩ := split_base h1
  unfold refR numR
  rw [h1, h2]
  simp only
  have h := digF_ref (s := s) (n := n) (b := b) hn hb2 hb (s.size - n) 0 ((s.extract n s.size).size + 1) (s.size + 1) 0 [] (by omega) (by omega) (by simp) (by omega) (by simp)
  rw [if_neg (by omega)] at h
  have hf : foldD b [] [] = [] := rfl
  rw [hf, Nat.add_zero] at h
  rw [h]
  cases litG s b (s.size + 1) n [] <;> rfl
theorem size_list (s : ByteArray) (h : 1 < s.size) : (s.toList == [48]) = false := by
  rw [beq_eq_false_iff_ne]
  intro he
  rw [Lib.toList_data] at he
  have := congrArg List.length he
  simp at this; omega
theorem list_one (s : ByteArray) (h : s.size = 1) (h0 : byteN s 0 = 48) : (s.toList == [48]) = true := by
  rw [beq_iff_eq, Lib.toList_data]
  have hL : s.data.toList.length = 1 := by simpa using h
  match hs : s.data.toList, hL with
  | [x], _ =>
    simp only [byteN, hs, List.getD_cons_zero] at h0
    simp only [List.cons.injEq, and_true]
    apply UInt8.toNat_inj.1
    simpa using h0
theorem refR_eq (s : ByteArray) : refR s = numR s := by
  by_cases hz : s.size = 0
  · have h1 : refSplit s = none := by unfold refSplit; rw [if_pos (.inl hz)]
    have h2 : splitF s = some (10, 0) := by unfold splitF; simp [pre_two, pre_one, hz]
    unfold refR numR
    rw [h1, h2]
    simp only [ext_zero]
    rw [digF, if_neg (by omega)]; rfl
  by_cases hlo : byteN s 0 < 48 ∨ 57 < byteN s 0
  · have h1 : refSplit s = none := by unfold refSplit; rw [if_pos (.inr hlo)]
    have n48 : byteN s 0 ≠ 48 := by omega
    unfold refR numR
    rw [h1]
    by_cases h95 : byteN s 0 = 95
    · have h2 : splitF s = none := by unfold splitF; simp [pre_two, pre_one, h95, show 1 ≤ s.size by omega]
      rw [h2]
    · have h2 : splitF s = some (10, 0) := by unfold splitF; simp [pre_two, pre_one, h95, n48]
      rw [h2]
      simp only [ext_zero]
      have hnd : digF s 10 (s.size + 1) 0 0 [] = none := by
        rw [digF, if_pos (by omega)]
        by_cases hc : byteN s 0 < 128
        · rw [dec_ascii s 0 (by omega) hc]
          simp only
          rw [if_neg h95, if_neg]
          unfold digitW
          repeat' split
          all_goals omega
        · have hr := dec_high s 0 (by omega) (by omega)
          rw [if_neg (by omega), digitW_high hr, if_neg (by omega)]
      rw [hnd]; rfl
  by_cases h48 : byteN s 0 = 48
  · by_cases h1 : 1 < s.size
    · have hsl := size_list s h1
      have e1 : refSplit s = (if byteN s 1 = 120 ∨ byteN s 1 = 88 then some (16, 2) else if byteN s 1 = 98 ∨ byteN s 1 = 66 then some (2, 2) else if byteN s 1 = 111 ∨ byteN s 1 = 79 then some (8, 2) else some (8, 1)) := by
        unfold refSplit; rw [if_neg (by omega), if_pos ⟨h48, h1⟩]
      have e2 : splitF s = (if byteN s 1 = 120 ∨ byteN s 1 = 88 then some (16, 2) else if byteN s 1 = 98 ∨ byteN s 1 = 66 then some (2, 2) else if byteN s 1 = 111 ∨ byteN s 1 = 79 then some (8, 2) else some (8, 1)) := by
        have h2 : 2 ≤ s.size := by omega
        have h3 : 1 ≤ s.size := by omega
        unfold splitF
        simp only [pre_two, pre_one, h48, hsl, h2, h3]
        by_cases a1 : byteN s 1 = 120
        · simp [a1]
        by_cases a2 : byteN s 1 = 88
        · simp [a2]
        by_cases a3 : byteN s 1 = 98
        · simp [a3]
        by_cases a4 : byteN s 1 = 66
        · simp [a4]
        by_cases a5 : byteN s 1 = 111
        · simp [a5]
        by_cases a6 : byteN s 1 = 79
        · simp [a6]
        simp [a1, a2, a3, a4, a5, a6]
      have hex : ∃ b n, splitF s = some (b, n) ∧ n ≤ 2 := by
        rw [e2]
        repeat' split
        all_goals exact ⟨_, _, rfl, by omega⟩
      obtain ⟨b, n, hx, hn⟩ := hex
      exact numR_of hx (by rw [e1, ← e2, hx]) (by omega)
    · have hs1 : s.size = 1 := by omega
      have hl := list_one s hs1 h48
      have e1 : refSplit s = some (10, 0) := by unfold refSplit; rw [if_neg (by omega), if_neg (by omega)]
      have e2 : splitF s = some (10, 0) := by unfold splitF; simp [pre_two, pre_one, h48, hs1, hl]
      exact numR_of e2 e1 (by omega)
  · have n95 : byteN s 0 ≠ 95 := by omega
    have e1 : refSplit s = some (10, 0) := by unfold refSplit; rw [if_neg (by omega), if_neg (by omega)]
    have e2 : splitF s = some (10, 0) := by unfold splitF; simp [pre_two, pre_one, h48, n95]
    exact numR_of e2 e1 (by omega)
end Go.Proofs.YtlddbelpbgmljaaDoor
