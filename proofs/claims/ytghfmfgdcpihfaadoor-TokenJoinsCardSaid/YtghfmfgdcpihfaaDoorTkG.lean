import Derived.Test.YtghfmfgdcpihfaaDoorTkF
namespace Go.Proofs.YtghfmfgdcpihfaaDoor
open Go.RowKit
set_option linter.unusedSimpArgs false
set_option linter.unusedVariables false
set_option linter.unusedSectionVars false

def nlB : ByteArray := ⟨#[10]⟩
/-- What a line's end does to the tokens. -/
def endF (tk : List Tok) (at_ : Nat) : List Tok :=
  match tk.getLast? with
  | some t => if closesB t.kind t.text.toList then tk ++ [⟨6, nlB, at_⟩] else tk
  | none => tk
theorem endF_nil (at_ : Nat) : endF [] at_ = [] := rfl
theorem endF_yes (l : List Tok) (t : Tok) (at_ : Nat) (h : closesB t.kind t.text.toList = true) : endF (l ++ [t]) at_ = l ++ [t] ++ [⟨6, nlB, at_⟩] := by simp [endF, h]
theorem endF_no (l : List Tok) (t : Tok) (at_ : Nat) (h : closesB t.kind t.text.toList = false) : endF (l ++ [t]) at_ = l ++ [t] := by simp [endF, h]

theorem last_cells {w : World} {base : Nat} {v : Value} {l : List Tok} {t : Tok} (h : w.ownsRow base 29 3 v (l ++ [t]).length (flat (l ++ [t]))) :
    ∃ g cap, v = .slice (some ⟨g, 0, none⟩) (l.length + 1) cap ∧ w.cell? ⟨g, l.length * 3, none⟩ = some (.int .i64 t.kind) ∧ w.cell? ⟨g, l.length * 3 + 1, none⟩ = some (.string t.text) ∧ w.cell? ⟨g, l.length * 3 + 2, none⟩ = some (.int .i64 t.at_) := by
  rcases h.2 with ⟨_, h0⟩ | ⟨g, cap, cur, rfl, _⟩
  · simp at h0
  · refine ⟨g, cap, by simp, ?_⟩
    have hc' : ∀ j u, (flat (l ++ [t]))[j]? = some u → w.cell? ((⟨g, 0, none⟩ : Addr).add j) = some u := h.cells (g := g) rfl
    have e : ∀ j, (⟨g, 0, none⟩ : Addr).add j = ⟨g, j, none⟩ := by intro j; unfold Addr.add; split <;> simp_all
    have hf : ∀ j, (flat (l ++ [t]))[l.length * 3 + j]? = ([.int .i64 t.kind, .string t.text, .int .i64 t.at_] : List Value)[j]? := by
      intro j
      rw [flat_snoc, List.getElem?_append_right (by rw [flat_len]; omega), flat_len]
      congr 1; omega
    refine ⟨?_, ?_, ?_⟩
    · have := hc' (l.length * 3 + 0) _ (hf 0); rwa [e] at this
    · have := hc' (l.length * 3 + 1) _ (hf 1); rwa [e] at this
    · have := hc' (l.length * 3 + 2) _ (hf 2); rwa [e] at this

/-- The walk's stop at a region that draws. -/
theorem stop_region {P : Program} {ops : Array Oper} {Q : Exit → Act → World → Prop} {id : Nat} {a : Act} {w : World} (h : Hid ((Code.region id ops true).wp P Q a w)) : (Code.region id ops true).wp P Q a w := h.out
/-- The walk's stop at a list. -/
theorem stop_list {P : Program} {ops : Array Oper} {Q : Exit → Act → World → Prop} {l : List Oper} {a : Act} {w : World} (h : Hid (wpList P ops Q l a w)) : wpList P ops Q l a w := h.out

set_option maxHeartbeats 1600000 in
theorem endLine_any (base b : Nat) (src : ByteArray) (tk nt : List Tok) (at_ : Nat) (w : World) (hS : Sc base b src tk nt w) (hl : tk.length ≤ 1000000) :
    Calls Tryd.prog 14 #[.pointer (some ⟨b, 0, none⟩), .int .i64 at_] w fun e w' =>
      e = .returned (.tuple #[]) ∧ Sc base b src (endF tk at_) nt w' ∧ Frm base b w w' ∧ Keeps (fun k => k = b ∨ ∃ vt, w.cell? ⟨b, 1, none⟩ = some vt ∧ vt.ownBlock = some k) w w' := by
  have HS := Lib.hid hS
  obtain ⟨hb, vt, vn, h1, h2, h3, h4⟩ := hS
  have c1 := cell_of h1 1
  have f1 := free_of h1 1
  have hlt := lt_of_block h1
  rcases List.eq_nil_or_concat tk with rfl | ⟨l, t, ht⟩
  · have hv : ∃ a c, vt = .slice a 0 c := by
      rcases h2.2 with ⟨rfl, _⟩ | ⟨g, cap, cur, rfl, _⟩
      · exact ⟨_, _, rfl⟩
      · exact ⟨_, _, rfl⟩
    obtain ⟨a, c, rfl⟩ := hv
    clear h1 h2 h3 h4
    go_enter Tryd.func14, Tryd.ntmps14
    go_wp2_with fail
    go_end0
    exact ⟨rfl, by rw [endF_nil]; exact HS.out, ⟨Below.refl _ _, Lib.OthersKept.refl _ _ _⟩, Keeps.refl _ _⟩
  · rw [List.concat_eq_append] at ht
    subst ht
    obtain ⟨g, cap, rfl, t0, t1, t2⟩ := last_cells h2
    have H1 := Lib.hid h1
    have H2 := Lib.hid h2
    have H3 := Lib.hid h3
    have H4 := Lib.hid h4
    clear h1 h2 h3 h4
    have hln : l.length ≤ 1000000 := by simp at hl; omega
    clear hl
    go_enter Tryd.func14, Tryd.ntmps14
    go_wp2_with fail
    go_at_call 29
    refine (closes_any t.kind t.at_ t.text w).mono ?_
    rintro e w2 ⟨rfl, hb2⟩
    have HB2 := Lib.hid hb2
    clear hb2
    have g1 : w2.cell? ⟨b, 1, none⟩ = some (.slice (some ⟨g, 0, none⟩) (l.length + 1) cap) := by rw [HB2.out.cell hlt]; exact cell_of H1.out 1
    have g2 : w2.frozen? ⟨b, 1, none⟩ = false := by rw [HB2.out.frozen hlt]; exact free_of H1.out 1
    have hlt2 : b < w2.heap.size := Nat.lt_of_lt_of_le hlt HB2.out.size
    have hbw2 : base ≤ w2.heap.size := by omega
    cases hcb : closesB t.kind t.text.toList with
    | false =>
      go_wp2_with fail
      go_end0
      exact ⟨rfl, by rw [endF_no _ _ _ hcb]; exact HS.out.keep HB2.out, Frm.of_below HB2.out (by omega), Keeps.of_below HB2.out _⟩
    | true =>
      clear c1 f1
      obtain ⟨i0, hi0, hz0, hz1, hz2⟩ := info_parts info38
      have hne : (Value.slice (some ⟨g, 0, none⟩) (l.length + 1) cap).ownBlock ≠ some b := own_ne H2.out H1.out (by decide)
      have HO2 : Hid (w2.ownsRow base 29 3 (.slice (some ⟨g, 0, none⟩) (l.length + 1) cap) (l.length + 1) (flat (l ++ [t]))) := by
        have := row_kept H2.out HB2.out
        rw [List.length_append] at this
        exact Lib.hid this
      have E0 : Hid ((flat (l ++ [t])) ++ [.int .i64 6, .string ⟨#[10]⟩, .int .i64 at_] = flat (l ++ [t] ++ [⟨6, nlB, at_⟩])) := Lib.hid (flat_snoc (l ++ [t]) ⟨6, nlB, at_⟩).symm
      generalize hfl : flat (l ++ [t]) = fl at HO2 E0
      go_wp2_with (at_builtin; refine stop_list ?_)
      refine Lib.hid ?_
      refine wpList_append_lies _ rfl (.tmp 27) (.tmp 30) 23 rfl base 29 i0 _ 3 32 Tryd.underlying23 hi0 hz0 hz1 hz2 rfl (by omega) (.slice (some ⟨g, 0, none⟩) (l.length + 1) cap) (l.length + 1) fl rfl (HO2.out.alloc _)
              ⟨w2.heap.size, 0, none⟩ 1 1 [.int .i64 6, .string ⟨#[10]⟩, .int .i64 at_] rfl rfl (World.news_of_block (cs := #[.int .i64 6, .string ⟨#[10]⟩, .int .i64 at_]) (t := 29) (fr := (0, 0)) (heap_alloc_new w2 _)) (by simp [Value.oneCell'])
              (by omega) (by unfold maxLen; omega) (by omega) (by simp; omega) (w2.heap.size + 1) (by simp) ?_
      intro gg cap2 w3 hown hgrow hat hlt3
      have hf : w3.heap[b]? = some (.cells #[.string src, .slice (some ⟨g, 0, none⟩) (l.length + 1) cap, vn] 37) := by
        rw [hgrow.block b (by simp; omega) (fun e => hne e.symm), Below.heap_alloc _ _ _ hlt2, HB2.out.block b hlt]; exact H1.out
      have p0 := cell_of hf 0
      have p1 := cell_of hf 1
      have p2 := free_of hf 1
      have HF := Lib.hid hf
      have HOWN := Lib.hid hown
      have HGROW := Lib.hid hgrow
      have HAT := Lib.hid hat
      clear hf hown hgrow hat g1 g2
      go_wp2_with fail
      go_end0
      refine ⟨rfl, ?_⟩
      have hd := row_done hb H1.out (by simpa using H2.out) H3.out H4.out HB2.out _ HGROW.out (by rw [← hfl] at HOWN; simpa using HOWN.out) HAT.out
      refine ⟨?_, hd.2, ?_⟩
      · rw [endF_yes _ _ _ hcb]
        unfold Sc
        rw [flat_snoc (l ++ [t]), show (l ++ [t] ++ [(⟨6, nlB, at_⟩ : Tok)]).length = l.length + 1 + 1 by simp]
        exact hd.1
      · refine Keeps.setCell ?_ (.inl (.inl rfl)) _
        have hk := (Keeps.of_below HB2.out (fun k => k = b ∨ ∃ vt, w.cell? ⟨b, 1, none⟩ = some vt ∧ vt.ownBlock = some k)).alloc (.cells #[.int .i64 6, .string ⟨#[10]⟩, .int .i64 at_] 29)
        refine ⟨HGROW.out.os.trans hk.os, HGROW.out.tape.trans hk.tape, HGROW.out.output.trans hk.output, Nat.le_trans hk.size HGROW.out.size, fun k hk1 hk2 => ?_⟩
        rw [HGROW.out.block k (Nat.lt_of_lt_of_le hk1 hk.size) (fun e => hk2 (.inr ⟨_, cell_of H1.out 1, e.symm⟩))]
        exact hk.block k hk1 hk2
end Go.Proofs.YtghfmfgdcpihfaaDoor
