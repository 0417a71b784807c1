import Derived.Test.YtppnjliamfnlkaaLtL
import Derived.MapKept
namespace Go.Proofs.Ytppnjliamfnlkaa
open Go.RowKit
set_option linter.unusedSimpArgs false
set_option linter.unusedVariables false
set_option linter.unusedSectionVars false

/-! Layer 3: the map of the signs behind a backslash. -/
def ent (k v n : Nat) : MapEntry := { key := .int .u8 (k : Int), val := .int .u8 (v : Int), born := n }
theorem push_set (h : Array Obj) (a b : Obj) : (h.push a).setIfInBounds h.size b = h.push b := by
  apply Array.ext_getElem?
  intro j
  rw [Array.getElem?_setIfInBounds, Array.getElem?_push, Array.getElem?_push]
  by_cases hj : j = h.size
  · subst hj; simp
  · rw [if_neg (fun e => hj e.symm), if_neg hj, if_neg hj]
theorem alloc_set (w : World) (a b : Obj) (w' : World) (h : w' = { w.alloc a with heap := (w.alloc a).heap.setIfInBounds w.heap.size b }) : w' = w.alloc b := by
  subst h
  have : (w.alloc a).heap.setIfInBounds w.heap.size b = (w.alloc b).heap := push_set _ _ _
  rw [this]
  rfl
theorem ins_new (w : World) (es : List MapEntry) (n : Nat) (k v : Int) (hf : Instr.findNow (.int .u8) (.int .u8 k) es 0 = some none) :
    (Instr.mapUpdate 65 (.map (some w.heap.size)) (.int .u8 k) (.int .u8 v)).run Try.prog (w.alloc (.map es.toArray n)) = .ok () (w.alloc (.map (es ++ [({ key := .int .u8 k, val := .int .u8 v, born := n } : MapEntry)]).toArray (n + 1))) := by
  have hb : (w.alloc (.map es.toArray n)).heap[w.heap.size]? = some (.map es.toArray n) := heap_alloc_new w _
  have hk : Try.prog.underlying 5 = some (.int .u8) := Try.underlying5
  have hc : (Instr.checkKey false 10000 5 (.int .u8 k)).run Try.prog (w.alloc (.map es.toArray n)) = .ok () (w.alloc (.map es.toArray n)) := MapKept.run_checkKey (k := .int .u8 k) hk (by simp [MapKept.IsKey]) false 9999
  have hm : Try.prog.underlying 65 = some (.map 5 5) := Try.underlying65
  simp [Instr.mapUpdate, run_underlying hm, MapKept.run_getObj_map hb, hc, MapKept.run_findKey hk hf, MapKept.run_setObj_map _ hb, Result.andThen]
  exact alloc_set w _ _ _ rfl
def E9 : List MapEntry := [ent 97 7 0, ent 98 8 1, ent 102 12 2, ent 110 10 3, ent 114 13 4, ent 116 9 5, ent 118 11 6, ent 92 92 7, ent 34 34 8]
/-- What stands alone behind a backslash. -/
def singleF (c : Nat) : Option Nat :=
  if c = 97 then some 7 else if c = 98 then some 8 else if c = 102 then some 12 else if c = 110 then some 10 else if c = 114 then some 13 else if c = 116 then some 9 else if c = 118 then some 11 else if c = 92 then some 92 else if c = 34 then some 34 else none
theorem find_c (c : Nat) : Instr.findNow (.int .u8) (.int .u8 (c : Int)) E9 0 = some ((singleF c).map fun v => (if c = 97 then 0 else if c = 98 then 1 else if c = 102 then 2 else if c = 110 then 3 else if c = 114 then 4 else if c = 116 then 5 else if c = 118 then 6 else if c = 92 then 7 else 8, .int .u8 (v : Int))) := by
  unfold singleF
  by_cases h0 : c = 97
  · subst h0; rfl
  by_cases h1 : c = 98
  · subst h1; rfl
  by_cases h2 : c = 102
  · subst h2; rfl
  by_cases h3 : c = 110
  · subst h3; rfl
  by_cases h4 : c = 114
  · subst h4; rfl
  by_cases h5 : c = 116
  · subst h5; rfl
  by_cases h6 : c = 118
  · subst h6; rfl
  by_cases h7 : c = 92
  · subst h7; rfl
  by_cases h8 : c = 34
  · subst h8; rfl
  simp only [h0, h1, h2, h3, h4, h5, h6, h7, h8, if_false, Option.map_none]
  rcases MapKept.findNow_spec (d := .int .u8) (k := .int .u8 (c : Int)) (by simp [MapKept.IsKey]) E9 0 (by simp [E9, ent, MapKept.IsKey]) with ⟨h, _⟩ | ⟨j, e, _, hj, he⟩
  · exact h
  · have hm := List.mem_of_getElem? hj
    simp only [E9, List.mem_cons, List.not_mem_nil, or_false] at hm
    exfalso
    rcases hm with rfl | rfl | rfl | rfl | rfl | rfl | rfl | rfl | rfl <;> (simp only [ent, Value.int.injEq, true_and] at he; omega)
theorem look9 (r c : Nat) (w : World) (hb : w.heap[r]? = some (.map E9.toArray 9)) :
    (Instr.lookup 65 (.map (some r)) (.int .u8 (c : Int)) true).run Try.prog w = .ok (.tuple #[.int .u8 (((singleF c).getD 0 : Nat) : Int), .bool (singleF c).isSome]) w := by
  have hk : Try.prog.underlying 5 = some (.int .u8) := Try.underlying5
  have hc : (Instr.checkKey false 10000 5 (.int .u8 (c : Int))).run Try.prog w = .ok () w := MapKept.run_checkKey (k := .int .u8 (c : Int)) hk (by simp [MapKept.IsKey]) false 9999
  have hm : Try.prog.underlying 65 = some (.map 5 5) := Try.underlying65
  have hz : (zeroValue 5).run Try.prog w = .ok (.int .u8 0) w := by kernel_rfl
  have hf := find_c c
  have hE : E9.isEmpty = false := rfl
  cases hs : singleF c with
  | none =>
    rw [hs] at hf
    simp [Instr.lookup, run_underlying hm, MapKept.run_getObj_map hb, hc, MapKept.run_findKey hk hf, hz, hE, Result.andThen]
  | some v =>
    rw [hs] at hf
    simp [Instr.lookup, run_underlying hm, MapKept.run_getObj_map hb, hc, MapKept.run_findKey hk hf, hz, hE, Result.andThen]

/-- What stands behind a backslash, and what is left. -/
def behindR (s : ByteArray) : Option (List Nat × ByteArray) :=
  if s.size = 0 then none
  else match singleF (byteN s 0) with
    | some v => some ([v], s.extract 1 s.size)
    | none =>
      if byteN s 0 = 120 then (byteR (s.extract 1 s.size) 2 16).map (fun l => (l, (s.extract 1 s.size).extract 2 (s.size - 1)))
      else if byteN s 0 = 117 then (signR (s.extract 1 s.size) 4).map (fun l => (l, (s.extract 1 s.size).extract 4 (s.size - 1)))
      else if byteN s 0 = 85 then (signR (s.extract 1 s.size) 8).map (fun l => (l, (s.extract 1 s.size).extract 8 (s.size - 1)))
      else (byteR s 3 8).map (fun l => (l, s.extract 3 s.size))
def PartQ (B b : Nat) (out : List Nat) (mv : Value) (w : World) : Option (List Nat × ByteArray) → Ending → World → Prop
  | some (l, rest), e, w' => e = .returned (.string rest) ∧ Mg B b (out ++ l) mv w' ∧ Keeps (MS B b) w w'
  | none, e, w' => e = .panicked [{ v := .iface 22 (.int .i64 4), recovered := false }] ∧ Keeps (MS B b) w w'
theorem partP_none {B b : Nat} {out : List Nat} {mv : Value} {w : World} {rest : ByteArray} {e : Ending} {w' : World} (h : PartP B b out mv w rest none e w') :
    e = .panicked [{ v := .iface 22 (.int .i64 4), recovered := false }] ∧ Keeps (MS B b) w w' := h
theorem partP_some {B b : Nat} {out : List Nat} {mv : Value} {w : World} {rest : ByteArray} {l : List Nat} {e : Ending} {w' : World} (h : PartP B b out mv w rest (some l) e w') :
    e = .returned (.string rest) ∧ Mg B b (out ++ l) mv w' ∧ Keeps (MS B b) w w' := h
theorem part_map {B b : Nat} {out : List Nat} {mv : Value} {w : World} {rest : ByteArray} {R : Option (List Nat)} {e : Ending} {w' : World} (h : PartP B b out mv w rest R e w') : PartQ B b out mv w (R.map (fun l => (l, rest))) e w' := by
  cases R <;> exact h
theorem partQ_none {B b : Nat} {out : List Nat} {mv : Value} {w w' : World} (h : Keeps (MS B b) w.drew w') : PartQ B b out mv w none (.panicked [{ v := .iface 22 (.int .i64 4), recovered := false }]) w' :=
  ⟨rfl, (Keeps.refl _ w).drew.trans h⟩
theorem partQ_some {B b : Nat} {out l : List Nat} {mv : Value} {rest : ByteArray} {w w' : World} (hm : Mg B b (out ++ l) mv w') (h : Keeps (MS B b) w.drew w') : PartQ B b out mv w (some (l, rest)) (.returned (.string rest)) w' :=
  ⟨rfl, hm, (Keeps.refl _ w).drew.trans h⟩
theorem Mg.drew {B b : Nat} {out : List Nat} {mv : Value} {w : World} (h : Mg B b out mv w) : Mg B b out mv w.drew := by
  obtain ⟨h0, h1, vt, h2, h3⟩ := h
  exact ⟨h0, h1, vt, h2, row_kept' h3⟩

set_option maxHeartbeats 6400000 in
theorem behind_in (B b mb : Nat) (out : List Nat) (s : ByteArray) (w : World) (hM : Mg B b out (.map (some mb)) w) (hmap : w.heap[mb]? = some (.map E9.toArray 9)) (h0 : 0 < s.size) (hs2 : s.size ≤ 100000000) (hl : out.length ≤ 100000000) :
    Calls Try.prog 49 #[.pointer (some ⟨b, 0, none⟩), .string s] w (PartQ B b out (.map (some mb)) w (behindR s)) := by
  obtain ⟨i0, hi0, hz0, hz1, hz2⟩ := info_parts info8
  have hx := str_byte s 0 h0
  have hc := byteN_lt s 0
  have hR : behindR s = match singleF (byteN s 0) with
    | some v => some ([v], s.extract 1 s.size)
    | none =>
      if byteN s 0 = 120 then (byteR (s.extract 1 s.size) 2 16).map (fun l => (l, (s.extract 1 s.size).extract 2 (s.size - 1)))
      else if byteN s 0 = 117 then (signR (s.extract 1 s.size) 4).map (fun l => (l, (s.extract 1 s.size).extract 4 (s.size - 1)))
      else if byteN s 0 = 85 then (signR (s.extract 1 s.size) 8).map (fun l => (l, (s.extract 1 s.size).extract 8 (s.size - 1)))
      else (byteR s 3 8).map (fun l => (l, s.extract 3 s.size)) := by rw [behindR, if_neg (show ¬ s.size = 0 by omega)]
  have hlk := look9 mb (byteN s 0) w.drew hmap
  have hl0 : ¬ s.toList = [] := by
    intro h
    rw [Lib.toList_data] at h
    have := congrArg List.length h
    have h2 : s.size = 0 := by simpa using this
    omega
  have hem : s.toList.isEmpty = false := by simp [hl0]
  have hM0 := hM
  obtain ⟨q0, q1, vt, q2, q3⟩ := hM
  have c0 := cell_of q2 0
  have c1 := cell_of q2 1
  have f0 := free_of q2 0
  have H2 := Lib.hid q2
  have H3 := Lib.hid q3
  have HM := Lib.hid hM0
  have hal := World.block_lt_of_cell? _ _ c0
  clear q2 q3 hM0 hmap
  generalize behindR s = R at *
  generalize byteN s 0 = c at *
  cases hs : singleF c with
  | some v =>
    rw [hs] at hlk hR
    simp only at hR
    subst hR
    simp only [Option.getD_some, Option.isSome_some] at hlk
    clear hs
    go_enter Try.func49, Try.ntmps49
    go_wp2_with (first
        | (go_at_call 19; with_reducible refine Calls.mono (need_yes _ _) ?_; rintro e w3 ⟨rfl, hw3⟩; replace hw3 := hw3.symm; subst hw3))
    go_region
    have H3' : Hid (w.drew.ownsRow B 5 1 vt out.length (u8s out)) := Lib.hid (row_kept' H3.out)
    all_goals
      go_wp2_with (first
        | (at_builtin; refine wpList_append_own _ rfl _ _ 32 rfl B 5 i0 (.int .u8 0) 1 1 Try.underlying32 hi0 hz0 hz1 hz2 rfl (by decide) _ _ _ rfl (H3'.out.alloc _) ⟨w.heap.size, 0, none⟩ 1 1 [.int .u8 (v : Int)] rfl rfl (newsN (w := w.drew)) ?c2 ?c3 ?c4 ?c5 ?_))
    case c2 => intro u hu; simp at hu; subst hu; rfl
    case c3 => unfold maxLen; omega
    case c4 => omega
    case c5 => simp; omega
    intro v' w1 hown' hgrow _
    obtain ⟨aa, cc, rfl⟩ := row_slice hown'
    obtain ⟨g1, g2, g3⟩ := mg_kept (w := w.drew) q0 q1 H2.out H3'.out hgrow
    have p0 := cell_of g1 0
    have p1 := free_of g1 0
    have HG1 := Lib.hid g1
    have HG2 := Lib.hid g2
    have HO := Lib.hid hown'
    have hs1 : 1 ≤ s.size := by omega
    clear g1 g2 hown' hgrow c0 f0 hlk c1
    go_wp2_with fail
    go_ret
    have hp := mg_push (l := out ++ [v]) q0 g3 HG1.out HG2.out HO.out (by simp) (by simp [u8s])
    exact ⟨rfl, hp.1, (Keeps.refl _ w).drew.trans hp.2⟩
  | none =>
    rw [hs] at hlk hR
    simp only at hR
    simp only [Option.getD_none, Option.isSome_none] at hlk
    clear hs
    have hs1 : 1 ≤ s.size := by omega
    by_cases k1 : c = 120
    · rw [if_pos k1] at hR
      subst hR
      subst k1
      rw [show ((120 : Nat) : Int) = 120 from rfl] at hlk
      have hcall := oneByte_any B b out (.map (some mb)) (s.extract 1 s.size) 2 16 w.drew HM.out.drew (by simp; omega) (by omega) (by omega) (by omega) (by decide) hl
      rw [show (s.extract 1 s.size).size = s.size - 1 from by simp] at hcall
      rw [show ((2 : Nat) : Int) = 2 from rfl, show ((16 : Nat) : Int) = 16 from rfl] at hcall
      generalize byteR (s.extract 1 s.size) 2 16 = Q at *
      cases Q with
      | none =>
        simp only [Option.map_none]
        go_enter Try.func49, Try.ntmps49
        go_wp2_with (first
          | (go_at_call 19; with_reducible refine Calls.mono (need_yes _ _) ?_; rintro e w3 ⟨rfl, hw3⟩; replace hw3 := hw3.symm; subst hw3))
        go_region
        all_goals
          go_wp2_with (go_at_call 54; with_reducible refine Calls.mono hcall ?_; intro e w2 h; obtain ⟨rfl, hk⟩ := partP_none h)
          exact ⟨rfl, partQ_none hk⟩
      | some l =>
        simp only [Option.map_some]
        go_enter Try.func49, Try.ntmps49
        go_wp2_with (first
          | (go_at_call 19; with_reducible refine Calls.mono (need_yes _ _) ?_; rintro e w3 ⟨rfl, hw3⟩; replace hw3 := hw3.symm; subst hw3))
        go_region
        all_goals
          go_wp2_with (go_at_call 54; with_reducible refine Calls.mono hcall ?_; intro e w2 h; obtain ⟨rfl, hm2, hk⟩ := partP_some h; have HM2 := Lib.hid hm2; have HK := Lib.hid hk; clear hm2 hk h)
          go_ret
          exact partQ_some HM2.out HK.out
    rw [if_neg k1] at hR
    have m1 : ((c : Int) == 120) = false := by simp; omega
    by_cases k2 : c = 117
    · rw [if_pos k2] at hR
      subst hR
      subst k2
      rw [show ((117 : Nat) : Int) = 117 from rfl] at hlk
      have hcall := oneSign_any B b out (.map (some mb)) (s.extract 1 s.size) 4 w.drew HM.out.drew (by simp; omega) (by omega) hl
      rw [show (s.extract 1 s.size).size = s.size - 1 from by simp] at hcall
      rw [show ((4 : Nat) : Int) = 4 from rfl] at hcall
      generalize signR (s.extract 1 s.size) 4 = Q at *
      cases Q with
      | none =>
        simp only [Option.map_none]
        go_enter Try.func49, Try.ntmps49
        go_wp2_with (first
          | (go_at_call 19; with_reducible refine Calls.mono (need_yes _ _) ?_; rintro e w3 ⟨rfl, hw3⟩; replace hw3 := hw3.symm; subst hw3))
        go_region
        all_goals
          go_wp2_with (go_at_call 55; with_reducible refine Calls.mono hcall ?_; intro e w2 h; obtain ⟨rfl, hk⟩ := partP_none h)
          exact ⟨rfl, partQ_none hk⟩
      | some l =>
        simp only [Option.map_some]
        go_enter Try.func49, Try.ntmps49
        go_wp2_with (first
          | (go_at_call 19; with_reducible refine Calls.mono (need_yes _ _) ?_; rintro e w3 ⟨rfl, hw3⟩; replace hw3 := hw3.symm; subst hw3))
        go_region
        all_goals
          go_wp2_with (go_at_call 55; with_reducible refine Calls.mono hcall ?_; intro e w2 h; obtain ⟨rfl, hm2, hk⟩ := partP_some h; have HM2 := Lib.hid hm2; have HK := Lib.hid hk; clear hm2 hk h)
          go_ret
          exact partQ_some HM2.out HK.out
    rw [if_neg k2] at hR
    have m2 : ((c : Int) == 117) = false := by simp; omega
    by_cases k3 : c = 85
    · rw [if_pos k3] at hR
      subst hR
      subst k3
      rw [show ((85 : Nat) : Int) = 85 from rfl] at hlk
      have hcall := oneSign_any B b out (.map (some mb)) (s.extract 1 s.size) 8 w.drew HM.out.drew (by simp; omega) (by omega) hl
      rw [show (s.extract 1 s.size).size = s.size - 1 from by simp] at hcall
      rw [show ((8 : Nat) : Int) = 8 from rfl] at hcall
      generalize signR (s.extract 1 s.size) 8 = Q at *
      cases Q with
      | none =>
        simp only [Option.map_none]
        go_enter Try.func49, Try.ntmps49
        go_wp2_with (first
          | (go_at_call 19; with_reducible refine Calls.mono (need_yes _ _) ?_; rintro e w3 ⟨rfl, hw3⟩; replace hw3 := hw3.symm; subst hw3))
        go_region
        all_goals
          go_wp2_with (go_at_call 55; with_reducible refine Calls.mono hcall ?_; intro e w2 h; obtain ⟨rfl, hk⟩ := partP_none h)
          exact ⟨rfl, partQ_none hk⟩
      | some l =>
        simp only [Option.map_some]
        go_enter Try.func49, Try.ntmps49
        go_wp2_with (first
          | (go_at_call 19; with_reducible refine Calls.mono (need_yes _ _) ?_; rintro e w3 ⟨rfl, hw3⟩; replace hw3 := hw3.symm; subst hw3))
        go_region
        all_goals
          go_wp2_with (go_at_call 55; with_reducible refine Calls.mono hcall ?_; intro e w2 h; obtain ⟨rfl, hm2, hk⟩ := partP_some h; have HM2 := Lib.hid hm2; have HK := Lib.hid hk; clear hm2 hk h)
          go_ret
          exact partQ_some HM2.out HK.out
    rw [if_neg k3] at hR
    have m3 : ((c : Int) == 85) = false := by simp; omega
    · subst hR
      have hcall := oneByte_any B b out (.map (some mb)) s 3 8 w.drew HM.out.drew hs2 (by omega) (by omega) (by omega) (by decide) hl
      rw [show ((3 : Nat) : Int) = 3 from rfl, show ((8 : Nat) : Int) = 8 from rfl] at hcall
      generalize byteR s 3 8 = Q at *
      cases Q with
      | none =>
        simp only [Option.map_none]
        go_enter Try.func49, Try.ntmps49
        go_wp2_with (first
          | (go_at_call 19; with_reducible refine Calls.mono (need_yes _ _) ?_; rintro e w3 ⟨rfl, hw3⟩; replace hw3 := hw3.symm; subst hw3))
        go_region
        all_goals
          go_wp2_with (go_at_call 54; with_reducible refine Calls.mono hcall ?_; intro e w2 h; obtain ⟨rfl, hk⟩ := partP_none h)
          exact ⟨rfl, partQ_none hk⟩
      | some l =>
        simp only [Option.map_some]
        go_enter Try.func49, Try.ntmps49
        go_wp2_with (first
          | (go_at_call 19; with_reducible refine Calls.mono (need_yes _ _) ?_; rintro e w3 ⟨rfl, hw3⟩; replace hw3 := hw3.symm; subst hw3))
        go_region
        all_goals
          go_wp2_with (go_at_call 54; with_reducible refine Calls.mono hcall ?_; intro e w2 h; obtain ⟨rfl, hm2, hk⟩ := partP_some h; have HM2 := Lib.hid hm2; have HK := Lib.hid hk; clear hm2 hk h)
          go_ret
          exact partQ_some HM2.out HK.out

theorem behind_no (b : Nat) (s : ByteArray) (w : World) (h0 : s.size = 0) :
    Calls Try.prog 49 #[.pointer (some ⟨b, 0, none⟩), .string s] w fun e w' => e = .panicked [{ v := .iface 22 (.int .i64 4), recovered := false }] ∧ w' = w := by
  have hl : s.toList = [] := by
    rw [Lib.toList_data]; exact List.eq_nil_of_length_eq_zero (by simpa using h0)
  have hem : s.toList.isEmpty = true := by simp [hl]
  go_enter Try.func49, Try.ntmps49
  go_wp2_with (first
        | (go_at_call 19; with_reducible refine Calls.mono (need_no _ _) ?_; rintro e w3 ⟨rfl, hw3⟩; replace hw3 := hw3.symm; subst hw3))
  exact ⟨rfl, rfl, rfl⟩
theorem behind_any (B b mb : Nat) (out : List Nat) (s : ByteArray) (w : World) (hM : Mg B b out (.map (some mb)) w) (hmap : w.heap[mb]? = some (.map E9.toArray 9)) (hs2 : s.size ≤ 100000000) (hl : out.length ≤ 100000000) :
    Calls Try.prog 49 #[.pointer (some ⟨b, 0, none⟩), .string s] w (PartQ B b out (.map (some mb)) w (behindR s)) := by
  by_cases h0 : s.size = 0
  · rw [behindR, if_pos h0]
    refine (behind_no b s w h0).mono ?_
    rintro e w' ⟨rfl, rfl⟩
    exact ⟨rfl, Keeps.refl _ _⟩
  · exact behind_in B b mb out s w hM hmap (by omega) hs2 hl
end Go.Proofs.Ytppnjliamfnlkaa
