import Derived.Test.YtghfmfgdcpihfaaDoorTkRc
namespace Go.Proofs.YtghfmfgdcpihfaaDoor
open Go.RowKit
set_option linter.unusedSimpArgs false
set_option linter.unusedVariables false

theorem ext2 (s : ByteArray) (a : Nat) (h : a + 2 ≤ s.size) : (s.extract a (a + 2)).toList = [s.data.toList.getD a 0, s.data.toList.getD (a + 1) 0] := by
  have hlen : s.data.toList.length = s.size := by simp
  rw [Lib.toList_data, Lib.extract_data, List.drop_eq_getElem_cons (by omega), List.drop_eq_getElem_cons (by omega), show a + 2 - a = 2 from by omega]
  simp only [List.take_succ_cons, List.take_zero, List.getD_eq_getElem?_getD, List.getElem?_eq_getElem (show a < s.data.toList.length by omega), List.getElem?_eq_getElem (show a + 1 < s.data.toList.length by omega), Option.getD_some]
theorem pre2 (s : ByteArray) (a : Nat) (x y : UInt8) : pre (s.extract a s.size) ⟨#[x, y]⟩ = (decide (a + 2 ≤ s.size) && (decide (byteN s a = x.toNat) && decide (byteN s (a + 1) = y.toNat))) := by
  have hz : (s.extract a s.size).size = s.size - a := by simp
  have hp : (⟨#[x, y]⟩ : ByteArray).size = 2 := rfl
  by_cases h : a + 2 ≤ s.size
  · rw [pre_yes (by rw [hp, hz]; omega), hp, ext_ext s a 2 h, ext2 s a h]
    have e : (⟨#[x, y]⟩ : ByteArray).toList = [x, y] := by rw [Lib.toList_data]
    rw [e, Bool.eq_iff_iff]
    simp only [h, decide_true, Bool.true_and, Bool.and_eq_true, decide_eq_true_eq, beq_iff_eq, List.cons.injEq, and_true, byteN, UInt8.toNat_inj]
  · rw [pre_no (by rw [hp, hz]; omega)]
    simp [h]

theorem take_ref {s : ByteArray} {tk nt : List Tok} {a : Nat} (ha : a < s.size) (hon : On s a) (hv : badAt s a (Utf8.decode s a).1 = false) (hk : ∀ t ∈ tk, KOK t) :
    takeF s (s.extract a s.size) tk nt a ((Utf8.decode s a).1 : Nat) = refStepF s tk nt a := by
  have hz : (s.extract a s.size).size = s.size - a := by simp
  have h2 : pre (s.extract a s.size) slash2 = (decide (a + 2 ≤ s.size) && (decide (byteN s a = 47) && decide (byteN s (a + 1) = 47))) := pre2 s a 47 47
  have h3 : pre (s.extract a s.size) slashStar = (decide (a + 2 ≤ s.size) && (decide (byteN s a = 47) && decide (byteN s (a + 1) = 42))) := pre2 s a 47 42
  have hsg := refSign_first s a ha
  have hsl := firstSign_le (s.extract a s.size) signsL
  unfold takeF refStepF
  rw [h2, h3]
  rcases dec_byte s a ha with ⟨d1, d2, d3⟩ | ⟨d1, d2⟩
  · -- a sign of one byte
    rw [d1]
    have hnm : ¬(a = 0 ∧ byteN s a = 239 ∧ byteN s 1 = 187 ∧ byteN s 2 = 191) := by omega
    rw [if_neg hnm]
    by_cases c10 : byteN s a = 10
    · rw [if_pos (by omega), if_pos c10, endsF_eq hk]
    rw [if_neg (by omega), if_neg c10]
    by_cases cb : byteN s a = 32 ∨ byteN s a = 9 ∨ byteN s a = 13
    · have : blankI ((byteN s a : Nat) : Int) = true := by simp [blankI]; omega
      rw [if_pos this, if_pos cb, blankN, if_neg (by omega)]
      rfl
    have hnb : blankI ((byteN s a : Nat) : Int) = false := by simp [blankI]; omega
    rw [hnb, if_neg (by decide), if_neg cb]
    have e1 : letterI ((47 : Nat) : Int) = false := by decide
    have e2 : figureI ((47 : Nat) : Int) = false := by decide
    have e3 : letterN 47 = false := by decide
    have e4 : figureN 47 = false := by decide
    have e5 : (((47 : Nat) : Int) = 34) = False := by simp
    have e6 : (((47 : Nat) : Int) = 96) = False := by simp
    have e7 : ((47 : Nat) = 34 ∨ (47 : Nat) = 96) = False := by simp
    have e8 : ((0 : Int) ≠ 0) = False := by simp
    by_cases c47 : byteN s a = 47
    · by_cases hroom : a + 2 ≤ s.size
      · by_cases n47 : byteN s (a + 1) = 47
        · -- a note to the line's end
          have hR : refNoteF s a = ((nlAt s (s.size + 1) a : Nat) : Int) := by
            unfold refNoteF
            rw [if_neg (by omega), if_pos c47, if_pos n47]
          obtain ⟨f1, f2, f3, f4⟩ := nlAt_first s (s.size + 1) a (by omega) (by omega)
          have hbe := before_nl s a (by omega)
          have hgt : a + 2 ≤ nlAt s (s.size + 1) a := by
            by_cases e0 : nlAt s (s.size + 1) a = a
            · have := f4 (by omega); rw [e0] at this; simp at this; omega
            · by_cases e1 : nlAt s (s.size + 1) a = a + 1
              · have := f4 (by omega); rw [e1] at this; simp at this; omega
              · omega
          rw [if_pos (by simp [hroom, c47, n47]), hR, if_pos (by omega), if_neg (by omega), Int.toNat_natCast]
          generalize beforeF (s.extract a s.size) newlineI ((s.extract a s.size).size + 1) 0 = m at hbe ⊢
          generalize nlAt s (s.size + 1) a = e at hbe hgt f2 ⊢
          obtain rfl : e = a + m := hbe.symm
          unfold noteR noteF
          rw [if_neg (by omega), show a + m - a = m from by omega, line_eq s a m (by omega)]
          simp only [decide_eq_true_eq, endsF_eq hk]
        · rw [if_neg (by simp [n47])]
          by_cases n42 : byteN s (a + 1) = 42
          · -- a note over lines
            have hR : refNoteF s a = starAt s (s.size + 1) a := by
              unfold refNoteF
              rw [if_neg (by omega), if_pos c47, if_neg n47, if_pos n42]
            have hst := star_index s (s.size + 1) a (by omega) (by omega)
            rw [if_pos (by simp [hroom, c47, n42]), hR, hst]
            have hdr : (s.extract a s.size).data.toList.drop slashStar.size = s.data.toList.drop (a + 2) := by
              rw [Lib.extract_data, List.take_of_length_le (by simp), List.drop_drop]; rfl
            have hth : throughF (s.extract a s.size) slashStar starSlash = if Lib.index (s.data.toList.drop (a + 2)) [42, 47] < 0 then 0 else 2 + Lib.index (s.data.toList.drop (a + 2)) [42, 47] + 2 := by
              unfold throughF
              rw [hdr]; rfl
            rw [hth]
            rcases Lib.index_spec (s.data.toList.drop (a + 2)) [42, 47] with ⟨h, _⟩ | ⟨i, h, _⟩
            · rw [h, if_pos (by decide), if_pos rfl, if_pos (by decide), if_pos (by decide)]
              rfl
            · have hr := Lib.index_room (s.data.toList.drop (a + 2)) [42, 47] (by rw [h]; omega)
              rw [h] at hr ⊢
              have hr2 : i + 2 ≤ s.size - (a + 2) := by simp at hr; omega
              rw [if_neg (show ¬ ((i : Nat) : Int) < 0 by omega), if_neg (show ¬ ((i : Nat) : Int) = -1 by omega), if_pos (show ((a : Int) + (i : Int) + 4 ≠ 0) by omega), if_neg (show ¬ ((a : Int) + (i : Int) + 4 < 0) by omega)]
              rw [show ((2 : Int) + (i : Int) + 2).toNat = i + 4 from by omega, show ((a : Int) + (i : Int) + 4).toNat = a + (i + 4) from by omega]
              unfold noteR noteF
              rw [if_neg (by omega), show a + (i + 4) - a = i + 4 from by omega, line_eq s a (i + 4) (by omega)]
              simp only [decide_eq_true_eq, endsF_eq hk]
          · -- a stroke
            have hR : refNoteF s a = 0 := by
              unfold refNoteF
              rw [if_neg (by omega), if_pos c47, if_neg n47, if_neg n42]
            rw [if_neg (by simp [n42]), hR, c47, hsg]
            simp only [e1, e2, e3, e4, e5, e6, e7, e8, Bool.or_false, Bool.false_eq_true, if_false]
            rfl
      · have hR : refNoteF s a = 0 := by
          unfold refNoteF
          rw [if_pos (by omega)]
        rw [if_neg (by simp [hroom]), if_neg (by simp [hroom]), hR, c47, hsg]
        simp only [e1, e2, e3, e4, e5, e6, e7, e8, Bool.or_false, Bool.false_eq_true, if_false]
        rfl
    · have hR : refNoteF s a = 0 := by
        unfold refNoteF
        rw [if_neg c47]; split <;> rfl
      rw [if_neg (by simp [c47]), if_neg (by simp [c47]), hR, if_neg (show ¬((0 : Int) ≠ 0) by decide), letter_byte, figure_byte]
      by_cases cl : letterN (byteN s a) = true
      · -- a word
        have hbe := before_word s a ha (by simp [cl])
        have hfi := wordEnd_first s (s.size + 1) (a + 1) (by omega) (by omega)
        have hlt := hfi.1
        have hle := hfi.2.1
        rw [if_pos cl, if_pos (by simp [cl])]
        generalize beforeF (s.extract a s.size) outsideI ((s.extract a s.size).size + 1) 0 = m at hbe ⊢
        generalize wordEnd s (s.size + 1) (a + 1) = e at hbe hlt hle ⊢
        obtain rfl : e = a + m := hbe.symm
        unfold tokR
        rw [if_neg (by omega), ext_ext s a m (by omega), if_pos cl, show a + m - a = m from by omega]
        rfl
      rw [if_neg cl]
      by_cases cf : figureN (byteN s a) = true
      · have hbe := before_word s a ha (by simp [cf])
        have hfi := wordEnd_first s (s.size + 1) (a + 1) (by omega) (by omega)
        have hlt := hfi.1
        have hle := hfi.2.1
        rw [if_pos cf, if_pos (by simp [cf])]
        generalize beforeF (s.extract a s.size) outsideI ((s.extract a s.size).size + 1) 0 = m at hbe ⊢
        generalize wordEnd s (s.size + 1) (a + 1) = e at hbe hlt hle ⊢
        obtain rfl : e = a + m := hbe.symm
        unfold tokR
        rw [if_neg (by omega), if_neg cl, show a + m - a = m from by omega]
      rw [if_neg cf, if_neg (show ¬((letterN (byteN s a) || figureN (byteN s a)) = true) by simp [cl, cf])]
      by_cases c34 : byteN s a = 34
      · -- a text in quotes
        have hq := quoted_ref s a (by omega) (s.extract a s.size).size 0 false (by omega) (by omega)
        simp only [Bool.false_eq_true, if_false, Nat.add_zero] at hq
        have hx : (s.extract a s.size).extract 1 (s.extract a s.size).size = s.extract (a + 1) s.size := by
          apply ByteArray.ext
          apply Array.toList_inj.1
          rw [Lib.extract_data, Lib.extract_data, Lib.extract_data]
          simp [List.take_take, List.drop_take, List.drop_drop]
          omega
        rw [if_pos (show ((byteN s a : Nat) : Int) = 34 by omega), if_pos (show byteN s a = 34 ∨ byteN s a = 96 from .inl c34), hx, c34]
        rw [show refQuotedF s 34 (s.size + 1) (a + 1) = RQ s 34 (a + 1) from rfl, ← hq]
        obtain ⟨m, hm, hle⟩ := quotedF_nat (s.extract (a + 1) s.size) (s.extract a s.size).size 0 false
        have hz1 : (s.extract (a + 1) s.size).size = s.size - (a + 1) := by simp
        rw [hm]
        by_cases h0 : m = 0
        · subst h0
          rw [show toRef a ((0 : Nat) : Int) = -1 from rfl, if_pos (show (-1 : Int) < 0 by decide)]
          rfl
        · have hto : toRef a ((m : Nat) : Int) = (a : Int) + (m : Int) := by unfold toRef; rw [if_neg (by omega)]
          rw [hto, if_neg (show ¬((a : Int) + (m : Int) < 0) by omega), Int.toNat_natCast, show ((a : Int) + (m : Int)).toNat = a + m from by omega, show a + m - a = m from by omega]
          unfold tokR
          rw [if_neg h0]
      rw [if_neg (show ¬ ((byteN s a : Nat) : Int) = 34 by omega)]
      by_cases c96 : byteN s a = 96
      · have ht := tick_ref s (s.size + 1) (a + 1) (by omega) (by omega)
        have hdr : (s.extract a s.size).data.toList.drop tick.size = s.data.toList.drop (a + 1) := by
          rw [Lib.extract_data, List.take_of_length_le (by simp), List.drop_drop]; rfl
        have hth : throughF (s.extract a s.size) tick tick = if Lib.index (s.data.toList.drop (a + 1)) [96] < 0 then 0 else 1 + Lib.index (s.data.toList.drop (a + 1)) [96] + 1 := by
          unfold throughF
          rw [hdr]; rfl
        rw [if_pos (show ((byteN s a : Nat) : Int) = 96 by omega), if_pos (show byteN s a = 34 ∨ byteN s a = 96 from .inr c96), c96, hth]
        rw [show refQuotedF s 96 (s.size + 1) (a + 1) = RQ s 96 (a + 1) from rfl, ht]
        rcases Lib.index_spec (s.data.toList.drop (a + 1)) [96] with ⟨h, _⟩ | ⟨i, h, _⟩
        · rw [h, if_pos (by decide), if_pos rfl, if_pos (by decide)]
          rfl
        · rw [h]
          rw [if_neg (show ¬ ((i : Nat) : Int) < 0 by omega), if_neg (show ¬ ((i : Nat) : Int) = -1 by omega), if_neg (show ¬ (((a + 1 : Nat) : Int) + (i : Int) + 1 < 0) by omega), show ((1 : Int) + (i : Int) + 1).toNat = i + 2 from by omega, show (((a + 1 : Nat) : Int) + (i : Int) + 1).toNat = a + (i + 2) from by omega, show a + (i + 2) - a = i + 2 from by omega]
          unfold tokR
          rw [if_neg (by omega)]
      rw [if_neg (show ¬ ((byteN s a : Nat) : Int) = 96 by omega), if_neg (show ¬(byteN s a = 34 ∨ byteN s a = 96) by omega), hsg]
      rfl
  · -- a sign of several bytes, or none
    have hR : refNoteF s a = 0 := by
      unfold refNoteF
      rw [if_neg (show ¬ byteN s a = 47 by omega)]; split <;> rfl
    have b47 : (decide (byteN s a = 47)) = false := by simp; omega
    rw [b47]
    simp only [Bool.false_and, Bool.and_false, Bool.false_eq_true, if_false]
    rw [if_neg (show ¬ (((Utf8.decode s a).1 : Nat) : Int) = 10 by omega)]
    by_cases cm : (Utf8.decode s a).1 = 65279
    · obtain ⟨m1, m2, m3, m4⟩ := dec_mark ha cm
      have hz0 : a = 0 := by
        unfold badAt at hv
        simp only [Bool.or_eq_false_iff, Bool.and_eq_false_imp, beq_iff_eq, decide_eq_false_iff_not] at hv
        have := hv.1.2 (by omega)
        omega
      subst hz0
      have hb : blankI (((Utf8.decode s 0).1 : Nat) : Int) = true := by simp [blankI]; omega
      rw [if_pos hb, if_pos ⟨rfl, m2, m3, m4⟩, blankN, if_pos (by omega)]
      rfl
    · have hb : blankI (((Utf8.decode s a).1 : Nat) : Int) = false := by simp [blankI]; omega
      have hnm : ¬(a = 0 ∧ byteN s a = 239 ∧ byteN s 1 = 187 ∧ byteN s 2 = 191) := by
        rintro ⟨rfl, e1, e2, e3⟩
        exact cm (by rw [(mark_dec (i := 0) e1 e2 e3).2])
      have g1 : ((((Utf8.decode s a).1 : Nat) : Int) = 34) = False := eq_false (by omega)
      have g2 : ((((Utf8.decode s a).1 : Nat) : Int) = 96) = False := eq_false (by omega)
      have g3 : (byteN s a = 34 ∨ byteN s a = 96) = False := eq_false (by omega)
      have g4 : (byteN s a = 32 ∨ byteN s a = 9 ∨ byteN s a = 13) = False := eq_false (by omega)
      have g5 : (byteN s a = 10) = False := eq_false (by omega)
      have e8 : ((0 : Int) ≠ 0) = False := by simp
      rw [hb, if_neg hnm, hR, letter_byte, figure_byte, letter_big _ d1, figure_big _ d1, letter_big _ d2, figure_big _ d2, hsg]
      simp only [g1, g2, g3, g4, g5, e8, Bool.or_false, Bool.false_eq_true, if_false]
      rfl

/-- The document's scanner, from token to token. -/
def refF (s : ByteArray) : Nat → Nat → List Tok → List Tok → Except Nat (List Tok × List Tok)
  | 0, _, tk, nt => .ok (tk, nt)
  | f + 1, a, tk, nt => if a < s.size then
      (match refStepF s tk nt a with
        | none => .error a
        | some (tk', nt', m) => refF s f (a + m) tk' nt')
    else .ok (endsF tk s.size, nt)
theorem ref_clean (s : ByteArray) (hv : Valid s) : ∀ (f a : Nat) (tk nt : List Tok), On s a → (∀ t ∈ tk, KOK t) → refF s f a tk nt = cleanF s f a tk nt := by
  intro f
  induction f with
  | zero => intro a tk nt _ _; rfl
  | succ f ih =>
    intro a tk nt hon hk
    rw [refF, cleanF]
    by_cases hlt : a < s.size
    · rw [if_pos hlt, if_pos hlt, ← take_ref hlt hon (hv a hon hlt) hk]
      cases hT : takeF s (s.extract a s.size) tk nt a ((Utf8.decode s a).1 : Nat) with
      | none => rfl
      | some r =>
        obtain ⟨tk', nt', m⟩ := r
        exact ih _ _ _ (takeF_on hlt hon hT).2 (kok_take hlt hk hT)
    · rw [if_neg hlt, if_neg hlt, endsF_eq hk]
def refScanF (s : ByteArray) : Except (Int × Int) (List Tok × List Tok) :=
  if 65536 < s.size then .error (65536, 12)
  else if 0 ≤ wrongR s (s.size + 1) 0 then .error (wrongR s (s.size + 1) 0, 2)
  else match refF s (s.size + 1) 0 [] [] with
    | .ok r => .ok r
    | .error at_ => .error (at_, 3)
theorem ref_scan (s : ByteArray) : refScanF s = scanF s := by
  unfold refScanF scanF
  rw [wrongF_eq]
  by_cases h1 : 65536 < s.size
  · rw [if_pos h1, if_pos h1]
  rw [if_neg h1, if_neg h1]
  by_cases h2 : 0 ≤ wrongR s (s.size + 1) 0
  · rw [if_pos h2, if_pos h2]
  rw [if_neg h2, if_neg h2, all_clean0, ref_clean s (valid_of (by rw [wrongF_eq]; exact h2)) _ _ _ _ (On.zero s) (by simp)]
  cases cleanF s (s.size + 1) 0 [] [] <;> rfl
end Go.Proofs.YtghfmfgdcpihfaaDoor
