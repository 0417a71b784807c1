import Derived.Test.YtppnjliamfnlkaaLtN
namespace Go.Proofs.Ytppnjliamfnlkaa
open Go.RowKit
set_option linter.unusedSimpArgs false
set_option linter.unusedVariables false
set_option linter.unusedSectionVars false

/-! Layer 3: parts. -/
def plainB (p : ByteArray) : Bool := Lib.containsAny p.data.toList [34, 10]
def bytesL (s : ByteArray) : List Nat := s.data.toList.map UInt8.toNat
theorem bytesL_len (s : ByteArray) : (bytesL s).length = s.size := by simp [bytesL]
theorem bytesL_lt (s : ByteArray) : ∀ x ∈ bytesL s, x < 256 := by
  intro x hx
  simp only [bytesL, List.mem_map] at hx
  obtain ⟨c, _, rfl⟩ := hx
  exact UInt8.toNat_lt c
theorem strCells_L (s : ByteArray) : Lib.strCells s = u8s (bytesL s) := strCells_u8 s
/-- What parts mean; none: they mean nothing. -/
def partsF : Nat → ByteArray → List Nat → Option (List Nat)
  | 0, _, _ => none
  | f + 1, t, out =>
    if plainB (cutR t).1 then none
    else if (cutR t).2.2 then (match behindR (cutR t).2.1 with | none => none | some (l, rest) => partsF f rest (out ++ bytesL (cutR t).1 ++ l))
    else some (out ++ bytesL (cutR t).1)
def PartsP : Option (List Nat) → Ending → Prop
  | some l, e => e = .returned (.string (bytesOf l))
  | none, e => e = .panicked [{ v := .iface 22 (.int .i64 4), recovered := false }]
theorem reck_size {s : ByteArray} {n base v : Nat} (h : reckR s n base = some v) : n ≤ s.size := by
  unfold reckR at h
  split at h
  · simp at h
  · omega
theorem byteR_some {s : ByteArray} {n base : Nat} {l : List Nat} (h : byteR s n base = some l) : l.length = 1 ∧ n ≤ s.size ∧ ∀ x ∈ l, x < 256 := by
  unfold byteR at h
  split at h
  · simp at h
  · rename_i v hv
    split at h
    · simp only [Option.some.injEq] at h
      subst h
      exact ⟨rfl, reck_size hv, by intro x hx; simp at hx; omega⟩
    · simp at h
theorem runeN_all (v : Nat) : (runeN v).length ≤ 4 ∧ ∀ x ∈ runeN v, x < 256 := by
  unfold runeN Lib.encodeRuneZ
  repeat' split
  all_goals (refine ⟨by simp, ?_⟩; intro x hx; simp only [List.map_cons, List.map_nil, List.mem_cons, List.not_mem_nil, or_false] at hx; omega)
theorem signR_some {s : ByteArray} {n : Nat} {l : List Nat} (h : signR s n = some l) : l.length ≤ 4 ∧ n ≤ s.size ∧ ∀ x ∈ l, x < 256 := by
  unfold signR at h
  split at h
  · simp at h
  · rename_i v hv
    split at h
    · simp only [Option.some.injEq] at h
      subst h
      exact ⟨(runeN_all v).1, reck_size hv, (runeN_all v).2⟩
    · simp at h
theorem single_lt {c v : Nat} (h : singleF c = some v) : v < 256 := by
  unfold singleF at h
  repeat' split at h
  all_goals (simp only [Option.some.injEq, reduceCtorEq] at h; try omega)
theorem behindR_some {s rest : ByteArray} {l : List Nat} (h : behindR s = some (l, rest)) : l.length + rest.size ≤ s.size ∧ (∀ x ∈ l, x < 256) ∧ ((∃ a b, rest = s.extract a b) ∨ ∃ a b c d, rest = (s.extract a b).extract c d) := by
  unfold behindR at h
  split at h
  · simp at h
  · rename_i h0
    split at h
    · rename_i v hv
      simp only [Option.some.injEq, Prod.mk.injEq] at h
      obtain ⟨rfl, rfl⟩ := h
      refine ⟨by simp; omega, ?_, .inl ⟨_, _, rfl⟩⟩
      intro x hx
      simp only [List.mem_cons, List.not_mem_nil, or_false] at hx
      subst hx
      exact single_lt hv
    · repeat' split at h
      · simp only [Option.map_eq_some_iff, Prod.mk.injEq] at h
        obtain ⟨l', hl, rfl, rfl⟩ := h
        have := byteR_some hl
        simp only [ByteArray.size_extract] at *
        exact ⟨by omega, this.2.2, .inr ⟨_, _, _, _, rfl⟩⟩
      · simp only [Option.map_eq_some_iff, Prod.mk.injEq] at h
        obtain ⟨l', hl, rfl, rfl⟩ := h
        have := signR_some hl
        simp only [ByteArray.size_extract] at *
        exact ⟨by omega, this.2.2, .inr ⟨_, _, _, _, rfl⟩⟩
      · simp only [Option.map_eq_some_iff, Prod.mk.injEq] at h
        obtain ⟨l', hl, rfl, rfl⟩ := h
        have := signR_some hl
        simp only [ByteArray.size_extract] at *
        exact ⟨by omega, this.2.2, .inr ⟨_, _, _, _, rfl⟩⟩
      · simp only [Option.map_eq_some_iff, Prod.mk.injEq] at h
        obtain ⟨l', hl, rfl, rfl⟩ := h
        have := byteR_some hl
        simp only [ByteArray.size_extract] at *
        exact ⟨by omega, this.2.2, .inl ⟨_, _, rfl⟩⟩

def measV (s m : Value) : Nat := match s, m with | .string t, .bool true => t.size + 1 | _, _ => 0
structure OkS (Ok : ByteArray → Prop) : Prop where
  ext : ∀ t a b, Ok t → Ok (t.extract a b)
  nil : Ok ⟨#[]⟩
theorem OkS.cut {Ok : ByteArray → Prop} (h : OkS Ok) {t : ByteArray} (ht : Ok t) : Ok (cutR t).1 ∧ Ok (cutR t).2.1 := by
  unfold cutR
  split
  · exact ⟨ht, h.nil⟩
  · exact ⟨h.ext _ _ _ ht, h.ext _ _ _ ht⟩
theorem OkS.behind {Ok : ByteArray → Prop} (h : OkS Ok) {t rest : ByteArray} {l : List Nat} (ht : Ok t) (hb : behindR t = some (l, rest)) : Ok rest := by
  rcases (behindR_some hb).2.2 with ⟨a, b, rfl⟩ | ⟨a, b, c, d, rfl⟩
  · exact h.ext _ _ _ ht
  · exact h.ext _ _ _ (h.ext _ _ _ ht)

theorem mg_kept0 {B b : Nat} {mv : Value} {vt : Value} {n : Nat} {xs : List Value} {w w1 : World} (hb : b < B) (hB : B ≤ w.heap.size) (H1 : w.heap[b]? = some (.cells #[vt, mv] 67))
    (H2 : w.ownsRow B 5 1 vt n xs) (hg : w.grownBy w1 vt.ownBlock) : w1.heap[b]? = some (.cells #[vt, mv] 67) ∧ Keeps (MS B b) w w1 ∧ B ≤ w1.heap.size := by
  have hs := hg.size
  refine ⟨?_, ⟨hg.os, hg.tape, hg.output, by omega, ?_⟩, by omega⟩
  · rw [hg.block b (by omega) (fun e => by have := (H2.lt b e.symm).1; omega)]; exact H1
  · intro k hk hS
    exact hg.block k hk (fun e => hS (.inr (H2.lt k e.symm).1))
theorem partQ_none' {B b : Nat} {out : List Nat} {mv : Value} {w : World} {e : Ending} {w' : World} (h : PartQ B b out mv w none e w') :
    e = .panicked [{ v := .iface 22 (.int .i64 4), recovered := false }] ∧ Keeps (MS B b) w w' := h
theorem partQ_some' {B b : Nat} {out : List Nat} {mv : Value} {w : World} {rest : ByteArray} {l : List Nat} {e : Ending} {w' : World} (h : PartQ B b out mv w (some (l, rest)) e w') :
    e = .returned (.string rest) ∧ Mg B b (out ++ l) mv w' ∧ Keeps (MS B b) w w' := h
theorem World.block_lt_map {w : World} {k : Nat} {o : Obj} (h : w.heap[k]? = some o) : k < w.heap.size := by
  rw [Array.getElem?_eq_some_iff] at h
  exact h.1

set_option maxHeartbeats 6400000 in
theorem parts_any (Ok : ByteArray → Prop) (hOk : OkS Ok)
    (hCA : ∀ p w, Ok p → p.size ≤ 100000000 → Calls Try.prog 48 #[.string p, .string ⟨#[34, 10]⟩] w fun e w' => e = .returned (.bool (plainB p)) ∧ Below w.heap.size w w')
    (s : ByteArray) (w : World) (hs : Ok s) (hs2 : s.size ≤ 1000000) :
    Calls Try.prog 36 #[.string s] w fun e w' => PartsP (partsF (s.size + 1) s []) e ∧ Below w.heap.size w w' := by
  have hmm := @run_makeMap Try.prog
  have i0 : (Instr.mapUpdate 65 (.map (some w.heap.size)) (.int .u8 97) (.int .u8 7)).run Try.prog (w.alloc (.map #[] 0)) = .ok () (w.alloc (.map #[ent 97 7 0] 1)) := ins_new w [] 0 97 7 rfl
  have i1 : (Instr.mapUpdate 65 (.map (some w.heap.size)) (.int .u8 98) (.int .u8 8)).run Try.prog (w.alloc (.map #[ent 97 7 0] 1)) = .ok () (w.alloc (.map #[ent 97 7 0, ent 98 8 1] 2)) := ins_new w [ent 97 7 0] 1 98 8 rfl
  have i2 : (Instr.mapUpdate 65 (.map (some w.heap.size)) (.int .u8 102) (.int .u8 12)).run Try.prog (w.alloc (.map #[ent 97 7 0, ent 98 8 1] 2)) = .ok () (w.alloc (.map #[ent 97 7 0, ent 98 8 1, ent 102 12 2] 3)) := ins_new w [ent 97 7 0, ent 98 8 1] 2 102 12 rfl
  have i3 : (Instr.mapUpdate 65 (.map (some w.heap.size)) (.int .u8 110) (.int .u8 10)).run Try.prog (w.alloc (.map #[ent 97 7 0, ent 98 8 1, ent 102 12 2] 3)) = .ok () (w.alloc (.map #[ent 97 7 0, ent 98 8 1, ent 102 12 2, ent 110 10 3] 4)) := ins_new w [ent 97 7 0, ent 98 8 1, ent 102 12 2] 3 110 10 rfl
  have i4 : (Instr.mapUpdate 65 (.map (some w.heap.size)) (.int .u8 114) (.int .u8 13)).run Try.prog (w.alloc (.map #[ent 97 7 0, ent 98 8 1, ent 102 12 2, ent 110 10 3] 4)) = .ok () (w.alloc (.map #[ent 97 7 0, ent 98 8 1, ent 102 12 2, ent 110 10 3, ent 114 13 4] 5)) := ins_new w [ent 97 7 0, ent 98 8 1, ent 102 12 2, ent 110 10 3] 4 114 13 rfl
  have i5 : (Instr.mapUpdate 65 (.map (some w.heap.size)) (.int .u8 116) (.int .u8 9)).run Try.prog (w.alloc (.map #[ent 97 7 0, ent 98 8 1, ent 102 12 2, ent 110 10 3, ent 114 13 4] 5)) = .ok () (w.alloc (.map #[ent 97 7 0, ent 98 8 1, ent 102 12 2, ent 110 10 3, ent 114 13 4, ent 116 9 5] 6)) := ins_new w [ent 97 7 0, ent 98 8 1, ent 102 12 2, ent 110 10 3, ent 114 13 4] 5 116 9 rfl
  have i6 : (Instr.mapUpdate 65 (.map (some w.heap.size)) (.int .u8 118) (.int .u8 11)).run Try.prog (w.alloc (.map #[ent 97 7 0, ent 98 8 1, ent 102 12 2, ent 110 10 3, ent 114 13 4, ent 116 9 5] 6)) = .ok () (w.alloc (.map #[ent 97 7 0, ent 98 8 1, ent 102 12 2, ent 110 10 3, ent 114 13 4, ent 116 9 5, ent 118 11 6] 7)) := ins_new w [ent 97 7 0, ent 98 8 1, ent 102 12 2, ent 110 10 3, ent 114 13 4, ent 116 9 5] 6 118 11 rfl
  have i7 : (Instr.mapUpdate 65 (.map (some w.heap.size)) (.int .u8 92) (.int .u8 92)).run Try.prog (w.alloc (.map #[ent 97 7 0, ent 98 8 1, ent 102 12 2, ent 110 10 3, ent 114 13 4, ent 116 9 5, ent 118 11 6] 7)) = .ok () (w.alloc (.map #[ent 97 7 0, ent 98 8 1, ent 102 12 2, ent 110 10 3, ent 114 13 4, ent 116 9 5, ent 118 11 6, ent 92 92 7] 8)) := ins_new w [ent 97 7 0, ent 98 8 1, ent 102 12 2, ent 110 10 3, ent 114 13 4, ent 116 9 5, ent 118 11 6] 7 92 92 rfl
  have i8 : (Instr.mapUpdate 65 (.map (some w.heap.size)) (.int .u8 34) (.int .u8 34)).run Try.prog (w.alloc (.map #[ent 97 7 0, ent 98 8 1, ent 102 12 2, ent 110 10 3, ent 114 13 4, ent 116 9 5, ent 118 11 6, ent 92 92 7] 8)) = .ok () (w.alloc (.map #[ent 97 7 0, ent 98 8 1, ent 102 12 2, ent 110 10 3, ent 114 13 4, ent 116 9 5, ent 118 11 6, ent 92 92 7, ent 34 34 8] 9)) := ins_new w [ent 97 7 0, ent 98 8 1, ent 102 12 2, ent 110 10 3, ent 114 13 4, ent 116 9 5, ent 118 11 6, ent 92 92 7] 8 34 34 rfl
  obtain ⟨j0, hj0, hy0, hy1, hy2⟩ := info_parts info8
  have HOKS := Lib.hid hOk
  have HS := Lib.hid hs
  have HCA := Lib.hid hCA
  clear hOk hs hCA
  generalize hX : partsF (s.size + 1) s [] = X
  have HX := Lib.hid hX
  clear hX
  go_enter Try.func36, Try.ntmps36
  go_wp2_with fail
  have HM0 : Hid (Mg (w.heap.size + 2) (w.heap.size + 1) [] (.map (some w.heap.size)) ((w.alloc (.map E9.toArray 9)).alloc (.cells #[.slice none 0 0, .map (some w.heap.size)] 67))) := Lib.hid (by
    refine ⟨by omega, by simp, _, by simpa using heap_alloc_new (w.alloc (.map E9.toArray 9)) (.cells #[.slice none 0 0, .map (some w.heap.size)] 67), ?_⟩
    exact World.ownsRow_nil _ _ _ _)
  have HMAP0 : Hid (((w.alloc (.map E9.toArray 9)).alloc (.cells #[.slice none 0 0, .map (some w.heap.size)] 67)).heap[w.heap.size]? = some (.map E9.toArray 9)) := Lib.hid (by
    rw [Below.heap_alloc _ _ _ (by simp)]
    exact heap_alloc_new w _)
  have HB0 : Hid (Below w.heap.size w ((w.alloc (.map E9.toArray 9)).alloc (.cells #[.slice none 0 0, .map (some w.heap.size)] 67))) := Lib.hid (((Below.refl _ _).alloc (Nat.le_refl _) _).alloc (by simp) _)
  change Code.wp _ _ _ _ ((w.alloc (.map E9.toArray 9)).alloc (.cells #[.slice none 0 0, .map (some w.heap.size)] 67))
  generalize (w.alloc (.map E9.toArray 9)).alloc (.cells #[.slice none 0 0, .map (some w.heap.size)] 67) = w1 at *
  clear i0 i1 i2 i3 i4 i5 i6 i7 i8 hmm
  go_loopw [0, 4] (fun sv mv wr => ∃ (t : ByteArray) (out : List Nat) (more : Bool), sv = .string t ∧ mv = .bool more ∧ (more = true → ∃ f, t.size < f ∧ X = partsF f t out) ∧ (more = false → X = some out) ∧ out.length + t.size ≤ s.size ∧
      (∀ x ∈ out, x < 256) ∧ Ok t ∧ Mg (w.heap.size + 2) (w.heap.size + 1) out (.map (some w.heap.size)) wr ∧ wr.heap[w.heap.size]? = some (.map E9.toArray 9) ∧ Below w.heap.size w wr) (fun sv mv _ => measV sv mv)
  case atStart => exact ⟨s, [], true, rfl, rfl, fun _ => ⟨s.size + 1, by omega, HX.out.symm⟩, by simp, by simp, by simp, HS.out, HM0.out, HMAP0.out, HB0.out⟩
  case round =>
    obtain ⟨t, out, more, rfl, rfl, hy, hn, hlen, hlt, hok, hm, hmap, hbl⟩ := hrel
    have HM := Lib.hid hm
    have HMAP := Lib.hid hmap
    have HBL := Lib.hid hbl
    have HLT := Lib.hid hlt
    have hwr : w.heap.size + 2 ≤ wr.heap.size := hm.2.1
    clear hm hmap hbl hlt HM0 HMAP0 HB0 HX
    cases more with
    | false =>
      have HN := Lib.hid (hn rfl)
      clear hn hy
      obtain ⟨q0, q1, vt, q2, q3⟩ := HM.out
      obtain ⟨aa, cc, rfl⟩ := row_slice q3
      have c0 := cell_of q2 0
      have hcv := conv_at (row_bsl q3 HLT.out) cc
      rw [bytesOf_size] at hcv
      clear q2 q3
      go_wp2_with fail
      go_ret
      exact ⟨by rw [HN.out]; rfl, HBL.out⟩
    | true =>
      obtain ⟨f, hf, he⟩ := hy rfl
      obtain ⟨f, rfl⟩ : ∃ g, f = g + 1 := ⟨f - 1, by omega⟩
      have hst : partsF (f + 1) t out = if plainB (cutR t).1 then none else if (cutR t).2.2 then (match behindR (cutR t).2.1 with | none => none | some (l, rest) => partsF f rest (out ++ bytesL (cutR t).1 ++ l)) else some (out ++ bytesL (cutR t).1) := rfl
      have hcut := cut_any t wr (by omega)
      have hsz := cutR_sizes t
      have hokc := HOKS.out.cut hok
      clear hy hn
      generalize cutR t = R at *
      obtain ⟨p, r, m⟩ := R
      simp only at hst hcut hsz hokc
      have HP := Lib.hid hokc.1
      have HR := Lib.hid hokc.2
      have hpl : p.size ≤ 100000000 := by omega
      have HBY := Lib.hid (bytesL_lt p)
      clear hokc
      cases hpb : plainB p with
      | true =>
        rw [hpb, if_pos rfl] at hst
        have HN : Hid (X = none) := Lib.hid (by rw [he, hst])
        clear he hst
        go_wp2_with (first
                    | (go_at_call 47; with_reducible refine Calls.mono hcut ?_; rintro e w2 ⟨rfl, hb2⟩
                       have HB2 := Lib.hid hb2
                       have hca := HCA.out p w2 HP.out hpl
                       rw [hpb] at hca
                       have hsz2 := hb2.size
                       clear hcut hb2)
                    | (go_at_call 48; with_reducible refine Calls.mono hca ?_; rintro e w3 ⟨rfl, hb3⟩
                       have HB3 := Lib.hid hb3
                       clear hca hb3)
                    | (go_at_call 19; with_reducible refine Calls.mono (need_no _ _) ?_; rintro e w6 ⟨rfl, hw6⟩; replace hw6 := hw6.symm; subst hw6))
        refine ⟨rfl, ?_, (HBL.out.trans (HB2.out.mono (by omega))).trans (HB3.out.mono (by omega))⟩
        rw [HN.out]; rfl
      | false =>
        rw [hpb, if_neg (by simp)] at hst
        cases m with
        | false =>
          rw [if_neg (by simp)] at hst
          have HN : Hid (X = some (out ++ bytesL p)) := Lib.hid (by rw [he, hst])
          clear he hst
          go_wp2_with (first
                    | (go_at_call 47; with_reducible refine Calls.mono hcut ?_; rintro e w2 ⟨rfl, hb2⟩
                       have HB2 := Lib.hid hb2
                       have hca := HCA.out p w2 HP.out hpl
                       rw [hpb] at hca
                       have hsz2 := hb2.size
                       clear hcut hb2)
                    | (go_at_call 48; with_reducible refine Calls.mono hca ?_; rintro e w3 ⟨rfl, hb3⟩
                       have HB3 := Lib.hid hb3
                       have hM3 := (HM.out.below HB2.out).below hb3
                       have HMAP3 : Hid (w3.heap[w.heap.size]? = some (.map E9.toArray 9)) := Lib.hid (by rw [hb3.block _ (by omega), HB2.out.block _ (by omega)]; exact HMAP.out)
                       have hsz3 := hb3.size
                       obtain ⟨q0, q1, vt, q2, q3⟩ := hM3
                       have c0 := cell_of q2 0
                       have f0 := free_of q2 0
                       have H2 := Lib.hid q2
                       have H3 := Lib.hid q3
                       clear hca hb3 q2 q3)
                    | (go_at_call 19; with_reducible refine Calls.mono (need_yes _ _) ?_; rintro e w6 ⟨rfl, hw6⟩; replace hw6 := hw6.symm; subst hw6)
                    | (at_builtin; refine Lib.wpList_append_own_string _ rfl _ _ 32 9 rfl (w.heap.size + 2) 5 j0 Try.underlying32 Try.underlying9 hj0 hy0 hy1 hy2 _ _ _ rfl H3.out p rfl (by unfold maxLen; omega) (by omega) (by omega) ?_; intro v' w4 hown' hgrow _
                       obtain ⟨aa, cc, rfl⟩ := row_slice hown'
                       obtain ⟨g1, g2, g3⟩ := mg_kept0 q0 q1 H2.out H3.out hgrow
                       have p0 := cell_of g1 0
                       have p1 := free_of g1 0
                       have hp := mg_push (l := out ++ bytesL p) q0 g3 g1 g2 hown' (by simp [bytesL_len]) (by rw [strCells_L, u8s_app])
                       have HM5 := Lib.hid hp.1
                       have HK5 := Lib.hid hp.2
                       have HMAP5 : Hid ((w4.setCell ⟨w.heap.size + 1, 0, none⟩ (.slice aa (out.length + p.size) cc)).heap[w.heap.size]? = some (.map E9.toArray 9)) := Lib.hid (by rw [HK5.out.block _ (by omega) (by rintro (h | h) <;> omega)]; exact HMAP3.out)
                       have HBL5 : Hid (Below w.heap.size w (w4.setCell ⟨w.heap.size + 1, 0, none⟩ (.slice aa (out.length + p.size) cc))) := Lib.hid (((HBL.out.trans (HB2.out.mono (by omega))).trans (HB3.out.mono (by omega))).trans (HK5.out.below (by omega) (by rintro k (h | h) <;> omega)))
                       clear g1 g2 hown' hgrow hp c0 f0))
          go_roundw
          case rel =>
            refine ⟨r, out ++ bytesL p, false, rfl, rfl, by simp, fun _ => HN.out, by simp [bytesL_len]; omega, ?_, HR.out, HM5.out, HMAP5.out, HBL5.out⟩
            intro x hx
            rcases List.mem_append.1 hx with h | h
            · exact HLT.out x h
            · exact HBY.out x h
          case measure => simp [measV]
        | true =>
          rw [if_pos rfl] at hst
          have hsz1 := hsz.2 rfl
          have hbeh := fun w5 (hM : Mg (w.heap.size + 2) (w.heap.size + 1) (out ++ bytesL p) (.map (some w.heap.size)) w5) (hmap : w5.heap[w.heap.size]? = some (.map E9.toArray 9)) => behind_any (w.heap.size + 2) (w.heap.size + 1) w.heap.size (out ++ bytesL p) r w5 hM hmap (by omega) (by simp [bytesL_len]; omega)
          cases hbr : behindR r with
          | none =>
            rw [hbr] at hst hbeh
            have HN : Hid (X = none) := Lib.hid (by rw [he, hst])
            clear he hst hbr
            go_wp2_with (first
                    | (go_at_call 47; with_reducible refine Calls.mono hcut ?_; rintro e w2 ⟨rfl, hb2⟩
                       have HB2 := Lib.hid hb2
                       have hca := HCA.out p w2 HP.out hpl
                       rw [hpb] at hca
                       have hsz2 := hb2.size
                       clear hcut hb2)
                    | (go_at_call 48; with_reducible refine Calls.mono hca ?_; rintro e w3 ⟨rfl, hb3⟩
                       have HB3 := Lib.hid hb3
                       have hM3 := (HM.out.below HB2.out).below hb3
                       have HMAP3 : Hid (w3.heap[w.heap.size]? = some (.map E9.toArray 9)) := Lib.hid (by rw [hb3.block _ (by omega), HB2.out.block _ (by omega)]; exact HMAP.out)
                       have hsz3 := hb3.size
                       obtain ⟨q0, q1, vt, q2, q3⟩ := hM3
                       have c0 := cell_of q2 0
                       have f0 := free_of q2 0
                       have H2 := Lib.hid q2
                       have H3 := Lib.hid q3
                       clear hca hb3 q2 q3)
                    | (go_at_call 19; with_reducible refine Calls.mono (need_yes _ _) ?_; rintro e w6 ⟨rfl, hw6⟩; replace hw6 := hw6.symm; subst hw6)
                    | (at_builtin; refine Lib.wpList_append_own_string _ rfl _ _ 32 9 rfl (w.heap.size + 2) 5 j0 Try.underlying32 Try.underlying9 hj0 hy0 hy1 hy2 _ _ _ rfl H3.out p rfl (by unfold maxLen; omega) (by omega) (by omega) ?_; intro v' w4 hown' hgrow _
                       obtain ⟨aa, cc, rfl⟩ := row_slice hown'
                       obtain ⟨g1, g2, g3⟩ := mg_kept0 q0 q1 H2.out H3.out hgrow
                       have p0 := cell_of g1 0
                       have p1 := free_of g1 0
                       have hp := mg_push (l := out ++ bytesL p) q0 g3 g1 g2 hown' (by simp [bytesL_len]) (by rw [strCells_L, u8s_app])
                       have HM5 := Lib.hid hp.1
                       have HK5 := Lib.hid hp.2
                       have HMAP5 : Hid ((w4.setCell ⟨w.heap.size + 1, 0, none⟩ (.slice aa (out.length + p.size) cc)).heap[w.heap.size]? = some (.map E9.toArray 9)) := Lib.hid (by rw [HK5.out.block _ (by omega) (by rintro (h | h) <;> omega)]; exact HMAP3.out)
                       have HBL5 : Hid (Below w.heap.size w (w4.setCell ⟨w.heap.size + 1, 0, none⟩ (.slice aa (out.length + p.size) cc))) := Lib.hid (((HBL.out.trans (HB2.out.mono (by omega))).trans (HB3.out.mono (by omega))).trans (HK5.out.below (by omega) (by rintro k (h | h) <;> omega)))
                       clear g1 g2 hown' hgrow hp c0 f0)
                    | (go_at_call 49; with_reducible refine Calls.mono (hbeh _ HM5.out HMAP5.out) ?_; intro e w7 h; obtain ⟨rfl, hk⟩ := partQ_none' h))
            refine ⟨rfl, ?_, HBL5.out.trans (hk.below HBL5.out.size (by rintro k (h | h) <;> omega))⟩
            rw [HN.out]; rfl
          | some lr =>
            obtain ⟨l, rest⟩ := lr
            have hbs := behindR_some hbr
            have HRR := Lib.hid (HOKS.out.behind HR.out hbr)
            rw [hbr] at hst hbeh
            have HN : Hid (X = partsF f rest (out ++ bytesL p ++ l)) := Lib.hid (by rw [he, hst])
            have HBL2 := Lib.hid hbs.2.1
            have hbs1 := hbs.1
            clear he hst hbr hbs
            go_wp2_with (first
                    | (go_at_call 47; with_reducible refine Calls.mono hcut ?_; rintro e w2 ⟨rfl, hb2⟩
                       have HB2 := Lib.hid hb2
                       have hca := HCA.out p w2 HP.out hpl
                       rw [hpb] at hca
                       have hsz2 := hb2.size
                       clear hcut hb2)
                    | (go_at_call 48; with_reducible refine Calls.mono hca ?_; rintro e w3 ⟨rfl, hb3⟩
                       have HB3 := Lib.hid hb3
                       have hM3 := (HM.out.below HB2.out).below hb3
                       have HMAP3 : Hid (w3.heap[w.heap.size]? = some (.map E9.toArray 9)) := Lib.hid (by rw [hb3.block _ (by omega), HB2.out.block _ (by omega)]; exact HMAP.out)
                       have hsz3 := hb3.size
                       obtain ⟨q0, q1, vt, q2, q3⟩ := hM3
                       have c0 := cell_of q2 0
                       have f0 := free_of q2 0
                       have H2 := Lib.hid q2
                       have H3 := Lib.hid q3
                       clear hca hb3 q2 q3)
                    | (go_at_call 19; with_reducible refine Calls.mono (need_yes _ _) ?_; rintro e w6 ⟨rfl, hw6⟩; replace hw6 := hw6.symm; subst hw6)
                    | (at_builtin; refine Lib.wpList_append_own_string _ rfl _ _ 32 9 rfl (w.heap.size + 2) 5 j0 Try.underlying32 Try.underlying9 hj0 hy0 hy1 hy2 _ _ _ rfl H3.out p rfl (by unfold maxLen; omega) (by omega) (by omega) ?_; intro v' w4 hown' hgrow _
                       obtain ⟨aa, cc, rfl⟩ := row_slice hown'
                       obtain ⟨g1, g2, g3⟩ := mg_kept0 q0 q1 H2.out H3.out hgrow
                       have p0 := cell_of g1 0
                       have p1 := free_of g1 0
                       have hp := mg_push (l := out ++ bytesL p) q0 g3 g1 g2 hown' (by simp [bytesL_len]) (by rw [strCells_L, u8s_app])
                       have HM5 := Lib.hid hp.1
                       have HK5 := Lib.hid hp.2
                       have HMAP5 : Hid ((w4.setCell ⟨w.heap.size + 1, 0, none⟩ (.slice aa (out.length + p.size) cc)).heap[w.heap.size]? = some (.map E9.toArray 9)) := Lib.hid (by rw [HK5.out.block _ (by omega) (by rintro (h | h) <;> omega)]; exact HMAP3.out)
                       have HBL5 : Hid (Below w.heap.size w (w4.setCell ⟨w.heap.size + 1, 0, none⟩ (.slice aa (out.length + p.size) cc))) := Lib.hid (((HBL.out.trans (HB2.out.mono (by omega))).trans (HB3.out.mono (by omega))).trans (HK5.out.below (by omega) (by rintro k (h | h) <;> omega)))
                       clear g1 g2 hown' hgrow hp c0 f0)
                    | (go_at_call 49; with_reducible refine Calls.mono (hbeh _ HM5.out HMAP5.out) ?_; intro e w7 h; obtain ⟨rfl, hm7, hk⟩ := partQ_some' h; have HM7 := Lib.hid hm7; have HK7 := Lib.hid hk; clear hm7 hk h hbeh))
            go_roundw
            case rel =>
              refine ⟨rest, out ++ bytesL p ++ l, true, rfl, rfl, fun _ => ⟨f, by omega, HN.out⟩, by simp, by simp [bytesL_len]; omega, ?_, HRR.out, HM7.out, ?_, HBL5.out.trans (HK7.out.below HBL5.out.size (by rintro k (h | h) <;> omega))⟩
              · intro x hx
                rcases List.mem_append.1 hx with h | h
                · rcases List.mem_append.1 h with h | h
                  · exact HLT.out x h
                  · exact HBY.out x h
                · exact HBL2.out x h
              · rw [HK7.out.block _ (World.block_lt_map HMAP5.out) (by rintro (h | h) <;> omega)]; exact HMAP5.out
            case measure => simp [measV]; omega
end Go.Proofs.Ytppnjliamfnlkaa
