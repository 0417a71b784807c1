import Derived.Test.YtaboimjnhocajaaDoorTkRe
import Derived.Test.YtaboimjnhocajaaDoorReg
namespace Go.Proofs.YtaboimjnhocajaaDoor
open Go.RowKit
set_option linter.unusedSimpArgs false
set_option linter.unusedVariables false

/-- What the document's scanner comes to. -/
def RefP (w : World) : Except (Int × Int) (List Tok × List Tok) → Ending → World → Prop
  | .ok (tk, nt), e, w' => ∃ vt vn, e = .returned (.tuple #[vt, vn, .int .i64 0, .int .i64 0]) ∧ Below w.heap.size w w' ∧ w'.ownsRow w.heap.size 45 3 vt tk.length (flat tk) ∧ w'.ownsRow w.heap.size 45 3 vn nt.length (flat nt)
  | .error (at_, n), e, w' => e = .returned (.tuple #[.slice none 0 0, .slice none 0 0, .int .i64 at_, .int .i64 n]) ∧ Below w.heap.size w w'
def upF : Except Nat (List Tok × List Tok) → Except (Int × Int) (List Tok × List Tok)
  | .ok r => .ok r
  | .error at_ => .error (at_, 3)

/-- Two rows of the document's tokens. -/
def Rw (base : Nat) (vl vn : Value) (tk nt : List Tok) (w : World) : Prop :=
  w.ownsRow base 45 3 vl tk.length (flat tk) ∧ w.ownsRow base 45 3 vn nt.length (flat nt) ∧ ∀ k, vl.ownBlock = some k → vn.ownBlock = some k → False
theorem Rw.keep {base : Nat} {vl vn : Value} {tk nt : List Tok} {w w' : World} (h : Rw base vl vn tk nt w) (hb : Below w.heap.size w w') : Rw base vl vn tk nt w' :=
  ⟨row_kept h.1 hb, row_kept h.2.1 hb, h.2.2⟩
theorem Rw.drew {base : Nat} {vl vn : Value} {tk nt : List Tok} {w : World} (h : Rw base vl vn tk nt w) : Rw base vl vn tk nt w.drew := h.keep ⟨rfl, rfl, rfl, Nat.le_refl _, fun _ _ => rfl⟩
theorem Rw.appL {base : Nat} {vl vn : Value} {tk nt : List Tok} {w2 w3 : World} {o : Obj} {g cap : Nat} {t : Tok} (h : Rw base vl vn tk nt w2) (hbw : base ≤ w2.heap.size) (HG : (w2.alloc o).grownBy w3 vl.ownBlock)
    (HOWN : w3.ownsRow base 45 3 (.slice (some ⟨g, 0, none⟩) (tk.length + 1) cap) (tk.length + 1) (flat tk ++ [.int .i64 t.kind, .string t.text, .int .i64 t.at_])) (HAT : vl.ownBlock = some g ∨ g = w2.heap.size + 1) :
    Rw base (.slice (some ⟨g, 0, none⟩) (tk.length + 1) cap) vn (tk ++ [t]) nt w3 ∧ Below base w2 w3 := by
  obtain ⟨h1, h2, h3⟩ := h
  refine ⟨⟨?_, ?_, ?_⟩, ?_⟩
  · rw [flat_snoc, List.length_append]; exact HOWN
  · refine (h2.alloc o).kept HG ?_
    cases hv : vn.ownBlock with
    | none => exact .inl rfl
    | some k => exact .inr (fun e => h3 k e.symm hv)
  · intro k e1 e2
    simp only [Value.ownBlock, Option.some.injEq] at e1
    subst e1
    rcases HAT with h | h
    · exact h3 _ h e2
    · have := (h2.lt _ e2).2
      omega
  · have h4 : Below base w2 (w2.alloc o) := ((Below.refl _ _).alloc (Nat.le_refl _) o).mono hbw
    exact h4.grown HG (by simp; omega) (fun k hk => (h1.lt k hk).1)
theorem Rw.appN {base : Nat} {vl vn : Value} {tk nt : List Tok} {w2 w3 : World} {o : Obj} {g cap : Nat} {t : Tok} (h : Rw base vl vn tk nt w2) (hbw : base ≤ w2.heap.size) (HG : (w2.alloc o).grownBy w3 vn.ownBlock)
    (HOWN : w3.ownsRow base 45 3 (.slice (some ⟨g, 0, none⟩) (nt.length + 1) cap) (nt.length + 1) (flat nt ++ [.int .i64 t.kind, .string t.text, .int .i64 t.at_])) (HAT : vn.ownBlock = some g ∨ g = w2.heap.size + 1) :
    Rw base vl (.slice (some ⟨g, 0, none⟩) (nt.length + 1) cap) tk (nt ++ [t]) w3 ∧ Below base w2 w3 := by
  obtain ⟨h1, h2, h3⟩ := h
  refine ⟨⟨?_, ?_, ?_⟩, ?_⟩
  · refine (h1.alloc o).kept HG ?_
    cases hv : vl.ownBlock with
    | none => exact .inl rfl
    | some k => exact .inr (fun e => h3 k hv e.symm)
  · rw [flat_snoc, List.length_append]; exact HOWN
  · intro k e1 e2
    simp only [Value.ownBlock, Option.some.injEq] at e2
    subst e2
    rcases HAT with h | h
    · exact h3 _ e1 h
    · have := (h1.lt _ e1).2
      omega
  · have h4 : Below base w2 (w2.alloc o) := ((Below.refl _ _).alloc (Nat.le_refl _) o).mono hbw
    exact h4.grown HG (by simp; omega) (fun k hk => (h2.lt k hk).1)

theorem stop_call {P : Prop} (h : Hid P) : P := h.out
theorem own_nil_ref (w : World) (base : Nat) : w.ownsRow base 45 3 (.slice none 0 0) ([] : List Tok).length (flat []) := ⟨rfl, .inl ⟨rfl, rfl⟩⟩
theorem valid_239 {s : ByteArray} (hv : Valid s) (h0 : 0 < s.size) (h : byteN s 0 = 239) : 2 < s.size := by
  have hb := hv 0 (On.zero s) h0
  have hd := decode_B s 0 h0
  rw [h] at hd
  unfold decB at hd
  rw [if_neg (by omega), if_neg (by omega)] at hd
  by_cases c2 : 224 ≤ 239 ∧ 239 < 240 ∧ (1 < s.size - 0 ∧ 128 ≤ byteN s (0 + 1) ∧ byteN s (0 + 1) < 192) ∧ (2 < s.size - 0 ∧ 128 ≤ byteN s (0 + 2) ∧ byteN s (0 + 2) < 192)
  · omega
  · rw [if_neg c2, if_neg (by omega)] at hd
    exfalso
    have : badAt s 0 (Utf8.decode s 0).1 = true := (bad_iff s 0 h0).2 (.inl (by rw [signV_dec s 0 h0, if_pos hd]; omega))
    rw [hb] at this; cases this

theorem info_ref : (Tryd.prog.info? 45).map (fun i => (i.zero, i.size, i.bytes)) = some (some (.agg #[.int .i64 0, .string ByteArray.empty, .int .i64 0]), 3, 32) := by kernel_rfl

set_option maxRecDepth 100000 in
set_option maxHeartbeats 12800000 in
theorem refScan_inner (b o cap : Nat) (s : ByteArray) (w : World) (hb : BytesN w b o s) (hlt0 : b < w.heap.size) (hs : s.size ≤ 1000) (hcap : s.size ≤ cap) (hv : Valid s) (hneg : ¬ 0 ≤ wrongR s (s.size + 1) 0)
    (R : Except Nat (List Tok × List Tok)) (hR : refF s (s.size + 1) 0 [] [] = R) :
    Calls Tryd.prog 11 #[.slice (some ⟨b, o, none⟩) s.size cap] w (RefP w (upF R)) := by
  have hw := refWrong_any (some ⟨b, o, none⟩) cap s w (.inr ⟨b, o, rfl, hb, hlt0⟩) (by omega)
  generalize hx : wrongR s (s.size + 1) 0 = x at hw hneg
  clear hx
  obtain ⟨i0, hi0, hz0, hz1, hz2⟩ := info_parts info_ref
  have HB := Lib.hid hb
  have HV := Lib.hid hv
  have HRR := Lib.hid hR
  clear hb hR hv
  go_enter Tryd.func11, Tryd.ntmps11
  go_wp2_with (go_at_call 20; refine hw.mono ?_; rintro e w2 ⟨rfl, hw2⟩; replace hw2 := hw2.symm; subst hw2)
  go_loopw [7, 8, 9] (fun vl vn va wr => ∃ (f a : Nat) (tk nt : List Tok), va = .int .i64 a ∧ s.size < f + a ∧ On s a ∧ tk.length ≤ a ∧ nt.length ≤ a ∧ (∀ t ∈ tk, KOK t) ∧ R = refF s f a tk nt ∧ Rw w.heap.size vl vn tk nt wr ∧ Below w.heap.size w wr) (fun _ _ va _ => s.size - (intOf va).toNat)
  case atStart => exact ⟨s.size + 1, 0, [], [], rfl, by omega, On.zero s, Nat.le_refl _, Nat.le_refl _, by simp, HRR.out.symm, ⟨own_nil_ref _ _, own_nil_ref _ _, by simp [Value.ownBlock]⟩, Below.refl _ _⟩
  case round =>
    obtain ⟨f, a, tk, nt, rfl, hf, hon, htl, hnl, hkok, he, hrw, hbr⟩ := hrel
    obtain ⟨f, rfl⟩ : ∃ g, f = g + 1 := ⟨f - 1, by have := hon.le; omega⟩
    have hale := hon.le
    have HRW := Lib.hid hrw
    have HBR := Lib.hid hbr
    have HEQ := Lib.hid he
    have hbs := hbr.size
    clear hrw hbr he
    by_cases hlt : a < s.size
    · have hnext : ∀ tk' nt' m, refStepF s tk nt a = some (tk', nt', m) → R = refF s f (a + m) tk' nt' ∧ On s (a + m) ∧ m ≠ 0 ∧ (∀ t ∈ tk', KOK t) ∧ tk'.length ≤ tk.length + 1 ∧ nt'.length ≤ nt.length + 1 := by
        intro tk' nt' m hS
        have ht := take_ref (nt := nt) hlt hon (HV.out a hon hlt) hkok
        rw [hS] at ht
        have h1 := takeF_on hlt hon ht
        have h2 := takeF_len ht
        refine ⟨by rw [HEQ.out, refF, if_pos hlt, hS], h1.2, h1.1, kok_take hlt hkok ht, h2.1, h2.2⟩
      have hnone : refStepF s tk nt a = none → R = .error a := fun hS => by rw [HEQ.out, refF, if_pos hlt, hS]
      have HNEXT := Lib.hid hnext
      have HNONE := Lib.hid hnone
      clear hnext hnone
      obtain ⟨c, hc⟩ : ∃ c, byteN s a = c := ⟨_, rfl⟩
      have hcl : c < 256 := by rw [← hc]; exact byteN_lt s a
      have hBr : BytesN wr b o s := fun i hi => by rw [HBR.out.cell hlt0]; exact HB.out i hi
      have hd : wr.cell? ⟨b, o + a, none⟩ = some (.int .u8 c) := by rw [hBr a hlt, hc]
      have hltr : b < wr.heap.size := by omega
      have HBr := Lib.hid hBr
      have HC := Lib.hid hc
      clear hBr hc
      by_cases hM : a = 0 ∧ byteN s a = 239 ∧ byteN s 1 = 187 ∧ byteN s 2 = 191
      · have hS : refStepF s tk nt a = some (tk, nt, 3) := by unfold refStepF; rw [if_pos hM]
        have HN := Lib.hid (HNEXT.out _ _ _ hS)
        obtain ⟨rfl, m1, m2, m3⟩ := hM
        have hz := (HN.out.2.1).le
        have g1 : wr.cell? ⟨b, o + 1, none⟩ = some (.int .u8 187) := by rw [HBr.out 1 (by omega), m2]; rfl
        have g2 : wr.cell? ⟨b, o + 2, none⟩ = some (.int .u8 191) := by rw [HBr.out 2 (by omega), m3]; rfl
        have g0 : wr.cell? ⟨b, o, none⟩ = some (.int .u8 239) := by have := HBr.out 0 (by omega); rw [m1] at this; exact this
        clear hS m1 m2 m3 hd
        go_wp2_with fail
        go_roundw
        case rel => exact ⟨f, 0 + 3, tk, nt, by go_num, by omega, HN.out.2.1, by have := HN.out.2.2.2.2.1; omega, by have := HN.out.2.2.2.2.2; omega, HN.out.2.2.2.1, HN.out.1, HRW.out, HBR.out⟩
        case measure => (simp [intOf]; omega)
      have HMV : Hid (¬(((a : Int) == 0) = true ∧ c = 239) ∨ (a = 0 ∧ c = 239 ∧ 2 < s.size)) := Lib.hid (by
        by_cases h1 : a = 0
        · by_cases h2 : c = 239
          · exact .inr ⟨h1, h2, valid_239 HV.out (by omega) (by rw [← h1, HC.out]; exact h2)⟩
          · exact .inl (fun h => h2 h.2)
        · exact .inl (fun h => h1 (by simpa using h.1)))
      by_cases c10 : c = 10
      · have hS : refStepF s tk nt a = some (endsF tk a, nt, 1) := by unfold refStepF; rw [if_neg hM, HC.out, if_pos c10]
        have HN := Lib.hid (HNEXT.out _ _ _ hS)
        have hen := refEnds_any w.heap.size u7 tk wr HRW.out.1 (by omega)
        have hcase : Hid (endsF tk a = if endsB tk then tk ++ [⟨6, nlB, a⟩] else tk) := Lib.hid rfl
        clear hS hM
        subst c10
        generalize endsB tk = q at hen hcase
        have HEN := Lib.hid hen
        clear hen
        cases q with
        | false =>
          have hcf : Hid (endsF tk a = tk) := Lib.hid hcase.out
          rw [hcf.out] at HN
          cases hm0 : ((a : Int) == 0)
          all_goals
            as_aux_lemma =>
              go_wp2_with (go_at_call 21; refine HEN.out.mono ?_; rintro e w2 ⟨rfl, hb2⟩; have HR2 := Lib.hid (HRW.out.keep hb2); have HB2 := Lib.hid hb2; have hs2 := hb2.size; clear hb2)
              go_roundw
              case rel => exact ⟨f, a + 1, tk, nt, by go_num, by omega, HN.out.2.1, by have := HN.out.2.2.2.2.1; omega, by have := HN.out.2.2.2.2.2; omega, HN.out.2.2.2.1, HN.out.1, HR2.out, (HBR.out.trans (HB2.out.mono hbs))⟩
              case measure => (simp [intOf]; omega)
        | true =>
          have hct : Hid (endsF tk a = tk ++ [⟨6, nlB, a⟩]) := Lib.hid hcase.out
          rw [hct.out] at HN
          cases hm0 : ((a : Int) == 0)
          all_goals
            as_aux_lemma =>
              go_wp2_with (first
                | (go_at_call 21; refine HEN.out.mono ?_; rintro e w2 ⟨rfl, hb2⟩; have HR2 := Lib.hid (HRW.out.keep hb2); have HB2 := Lib.hid hb2; have hs2 := hb2.size; clear hb2)
                | (at_builtin; refine stop_list ?_))
              refine Lib.hid ?_
              refine wpList_append_lies _ rfl _ _ 27 rfl w.heap.size 45 i0 _ 3 32 Tryd.underlying27 hi0 hz0 hz1 hz2 rfl (by omega) u7 tk.length (flat tk) rfl (HR2.out.1.alloc _)
                      ⟨w2.heap.size, 0, none⟩ 1 1 [.int .i64 6, .string ⟨#[10]⟩, .int .i64 a] rfl rfl (World.news_of_block (cs := #[.int .i64 6, .string ⟨#[10]⟩, .int .i64 a]) (t := 45) (fr := (0, 0)) (heap_alloc_new w2 _)) (by simp [Value.oneCell'])
                      (by omega) (by unfold maxLen; omega) (by omega) (by simp; omega) (w2.heap.size + 1) (by simp) ?_
              intro gg cap2 w3 hown hgrow hat hlt3
              have happ := Rw.appL (t := ⟨6, nlB, a⟩) HR2.out (by omega) hgrow hown hat
              have HRN := Lib.hid happ.1
              have hbn := happ.2
              clear hown hgrow hat happ
              go_wp2_with fail
              go_roundw
              case rel => exact ⟨f, a + 1, _, nt, by go_num, by omega, HN.out.2.1, by have := HN.out.2.2.2.2.1; omega, by have := HN.out.2.2.2.2.2; omega, HN.out.2.2.2.1, HN.out.1, HRN.out, (HBR.out.trans ((HB2.out.mono hbs).trans hbn))⟩
              case measure => (simp [intOf]; omega)
      by_cases cb : c = 32 ∨ c = 9 ∨ c = 13
      · have hS : refStepF s tk nt a = some (tk, nt, 1) := by unfold refStepF; rw [if_neg hM, HC.out, if_neg c10, if_pos cb]
        have HN := Lib.hid (HNEXT.out _ _ _ hS)
        clear hS hM c10
        rcases cb with rfl | rfl | rfl
        all_goals
          cases hm0 : ((a : Int) == 0)
          all_goals
            as_aux_lemma =>
              go_wp2_with fail
              go_roundw
              case rel => exact ⟨f, a + 1, tk, nt, by go_num, by omega, HN.out.2.1, by have := HN.out.2.2.2.2.1; omega, by have := HN.out.2.2.2.2.2; omega, HN.out.2.2.2.1, HN.out.1, HRW.out, HBR.out⟩
              case measure => (simp [intOf]; omega)
      have n10 : ((c : Int) == 10) = false := by simp; omega
      have n32 : ((c : Int) == 32) = false := by simp; omega
      have n9 : ((c : Int) == 9) = false := by simp; omega
      have n13 : ((c : Int) == 13) = false := by simp; omega
      have hno := refNote_any b o cap s wr HBr.out (by omega) a hlt
      have HNO := Lib.hid hno
      have HBY : Hid (∀ w', Below w.heap.size w w' → BytesN w' b o s ∧ b < w'.heap.size) := Lib.hid (fun w' h => ⟨fun i hi => by rw [h.cell hlt0]; exact HB.out i hi, Nat.lt_of_lt_of_le hlt0 h.size⟩)
      have hcl2 := refLetter_any c hcl
      have hcf2 := refFigure_any c hcl
      have HLE := Lib.hid hcl2
      have HFI := Lib.hid hcf2
      clear hno hcl2 hcf2
      by_cases cn : refNoteF s a = 0
      · by_cases cl : (letterN c || figureN c) = true
        · have hno0 := HNO.out
          rw [cn] at hno0
          clear HNO
          have HNO := Lib.hid hno0
          clear hno0
          have hcn : ((c : Int) == 239) = false ∧ ((c : Int) == 34) = false ∧ ((c : Int) == 96) = false := by
            simp only [letterN, figureN, Bool.or_eq_true, Bool.and_eq_true, decide_eq_true_eq, beq_iff_eq] at cl
            refine ⟨by simp; omega, by simp; omega, by simp; omega⟩
          obtain ⟨q239, q34, q96⟩ := hcn
          have hS : refStepF s tk nt a = some (tk ++ [⟨if letterN c then 1 + wordL (s.extract a (wordEnd s (s.size + 1) (a + 1))).toList else 4, s.extract a (wordEnd s (s.size + 1) (a + 1)), a⟩], nt, wordEnd s (s.size + 1) (a + 1) - a) := by
            unfold refStepF
            rw [if_neg hM, HC.out, if_neg c10, if_neg cb, if_neg (show ¬ refNoteF s a ≠ 0 from fun h => h cn), if_pos cl]
          have hN0 := HNEXT.out _ _ _ hS
          obtain ⟨n, hn⟩ : ∃ n, wordEnd s (s.size + 1) (a + 1) - a = n := ⟨_, rfl⟩
          rw [hn] at hN0
          have hn0 : n ≠ 0 := hN0.2.2.1
          have hle := hN0.2.1.le
          have hzt : wordEnd s (s.size + 1) (a + 1) = a + n := by omega
          rw [hzt] at hN0
          have HN := Lib.hid hN0
          have HWE := Lib.hid hzt.symm
          clear hS hM hN0 hzt hn
          cases l1 : letterN c with
          | true =>
            have hle0 := HLE.out
            rw [l1] at hle0
            clear HLE
            have HLE := Lib.hid hle0
            clear hle0
            cases hm0 : ((a : Int) == 0)
            all_goals
              as_aux_lemma =>
                go_wp2_with (first | (go_at_call 22; refine HNO.out.mono ?_; rintro e w2 ⟨rfl, hw2⟩; replace hw2 := hw2.symm; subst hw2) | (go_at_call 23; with_reducible refine Calls.mono (HLE.out _) ?_; rintro e w2 ⟨rfl, hw2⟩; replace hw2 := hw2.symm; subst hw2))
                go_loopw [11] (fun v wq => ∃ (f2 k : Nat), v = .int .i64 k ∧ s.size < f2 + k ∧ k ≤ s.size ∧ a < k ∧ a + n = wordEnd s f2 k ∧ Rw w.heap.size u7 u8 tk nt wq ∧ Below w.heap.size w wq) (fun v _ => s.size - (intOf v).toNat)
                case atStart => exact ⟨s.size + 1, a + 1, by go_num, by omega, by omega, by omega, HWE.out, HRW.out, HBR.out⟩
                case round =>
                  obtain ⟨f2, k, rfl, hf2, hk, hak, hke, hrw2, hbr2⟩ := hrel
                  have HRW2 := Lib.hid hrw2
                  have HBR2 := Lib.hid hbr2
                  have hbs2 := hbr2.size
                  have hY2 := HBY.out wr hbr2
                  clear hrw2 hbr2
                  obtain ⟨f2, rfl⟩ : ∃ g, f2 = g + 1 := ⟨f2 - 1, by omega⟩
                  by_cases hlk : k < s.size
                  · have hdk := hY2.1 k hlk
                    have hdl := byteN_lt s k
                    rw [wordEnd, if_pos hlk] at hke
                    generalize byteN s k = d at hdk hdl hke
                    have dl1 : letterN d = true ∨ (letterN d = false ∧ figureN d = true) ∨ (letterN d = false ∧ figureN d = false) := by cases letterN d <;> cases figureN d <;> simp
                    have hlet := fun w => refLetter_any d hdl w
                    have hfig := fun w => refFigure_any d hdl w
                    rcases dl1 with x1 | ⟨x1, x2⟩ | ⟨x1, x2⟩
                    · rw [x1] at hlet
                      rw [if_pos (by rw [x1]; rfl)] at hke
                      have HLD := Lib.hid hlet
                      have HKE := Lib.hid hke
                      clear hlet hfig hke x1
                      go_wp2_with (go_at_call 23; with_reducible refine Calls.mono (HLD.out _) ?_; rintro e w2 ⟨rfl, hw2⟩; replace hw2 := hw2.symm; subst hw2)
                      go_roundw
                      case rel => exact ⟨f2, k + 1, by go_num, by omega, by omega, by omega, HKE.out, HRW2.out, HBR2.out⟩
                      case measure => (simp [intOf]; omega)
                    · rw [x1] at hlet
                      rw [x2] at hfig
                      rw [if_pos (by rw [x1, x2]; rfl)] at hke
                      have HLD := Lib.hid hlet
                      have HFD := Lib.hid hfig
                      have HKE := Lib.hid hke
                      clear hlet hfig hke x1 x2
                      go_wp2_with (first | (go_at_call 23; with_reducible refine Calls.mono (HLD.out _) ?_; rintro e w2 ⟨rfl, hw2⟩; replace hw2 := hw2.symm; subst hw2) | (go_at_call 24; with_reducible refine Calls.mono (HFD.out _) ?_; rintro e w2 ⟨rfl, hw2⟩; replace hw2 := hw2.symm; subst hw2))
                      go_roundw
                      case rel => exact ⟨f2, k + 1, by go_num, by omega, by omega, by omega, HKE.out, HRW2.out, HBR2.out⟩
                      case measure => (simp [intOf]; omega)
                    · rw [x1] at hlet
                      rw [x2] at hfig
                      rw [if_neg (by rw [x1, x2]; decide)] at hke
                      have HLD := Lib.hid hlet
                      have HFD := Lib.hid hfig
                      clear hlet hfig x1 x2 hf2
                      obtain rfl : k = a + n := hke.symm
                      clear hke
                      have hkn : ((a + n : Nat) : Int) = (a : Int) + (n : Int) := by omega
                      have hcv := conv_sub hY2.1 hY2.2 a n (by omega) (by omega) (cap - a)
                      have hwd := refWord_any (s.extract a (a + n)) wr
                      have hwc := wordL_cases (s.extract a (a + n)).toList
                      have hN1 := HN.out
                      rw [if_pos l1] at hN1
                      clear HN
                      generalize wordL (s.extract a (a + n)).toList = q at hwd hwc hN1
                      have HWD := Lib.hid hwd
                      clear hwd
                      have hq0 : decide ((0 : Int) < 1 + q) = true := by simp; omega
                      have hq1 : 0 ≤ q ∧ q ≤ 2 := by omega
                      obtain ⟨hq2, hq3⟩ := hq1
                      have HN := Lib.hid hN1
                      clear hN1 hwc
                      go_wp2_with (first | (go_at_call 23; with_reducible refine Calls.mono (HLD.out _) ?_; rintro e w2 ⟨rfl, hw2⟩; replace hw2 := hw2.symm; subst hw2) | (go_at_call 24; with_reducible refine Calls.mono (HFD.out _) ?_; rintro e w2 ⟨rfl, hw2⟩; replace hw2 := hw2.symm; subst hw2) | (go_at_call 23; with_reducible refine Calls.mono (HLE.out _) ?_; rintro e w2 ⟨rfl, hw2⟩; replace hw2 := hw2.symm; subst hw2) | (go_at_call 18; refine HWD.out.mono ?_; rintro e w2 ⟨rfl, hb2⟩; (have HR2 := Lib.hid (HRW2.out.keep hb2); have HB2 := Lib.hid hb2; have hs2 := hb2.size; have hY := HBY.out w2 (HBR2.out.trans (hb2.mono hbs2)); have hcv2 := conv_sub hY.1 hY.2 a n (by omega) (by omega) (cap - a); clear hb2 hY)) | (at_builtin; refine stop_list ?_))
                      refine Lib.hid ?_
                      refine wpList_append_lies _ rfl _ _ 27 rfl w.heap.size 45 i0 _ 3 32 Tryd.underlying27 hi0 hz0 hz1 hz2 rfl (by omega) u7 tk.length (flat tk) rfl (HR2.out.1.alloc _)
                              ⟨w2.heap.size, 0, none⟩ 1 1 [.int .i64 (1 + q), .string (s.extract a (a + n)), .int .i64 a] rfl rfl (World.news_of_block (cs := #[.int .i64 (1 + q), .string (s.extract a (a + n)), .int .i64 a]) (t := 45) (fr := (0, 0)) (heap_alloc_new w2 _)) (by simp [Value.oneCell'])
                              (by omega) (by unfold maxLen; omega) (by omega) (by simp; omega) (w2.heap.size + 1) (by simp) ?_
                      intro gg cap2 w3 hown hgrow hat hlt3
                      have happ := Rw.appL (t := ⟨1 + q, s.extract a (a + n), a⟩) HR2.out (by omega) hgrow hown hat
                      have HRN := Lib.hid happ.1
                      have hbn := happ.2
                      clear hown hgrow hat happ
                      clear hcv hcv2
                      go_wp2_with fail
                      go_roundw
                      case rel => exact ⟨f, a + n, _, nt, by go_num, by omega, HN.out.2.1, by have := HN.out.2.2.2.2.1; omega, by have := HN.out.2.2.2.2.2; omega, HN.out.2.2.2.1, HN.out.1, HRN.out, (HBR2.out.trans ((HB2.out.mono hbs2).trans hbn))⟩
                      case measure => (simp [intOf]; omega)
                  · rw [wordEnd, if_neg hlk] at hke
                    obtain rfl : k = a + n := hke.symm
                    clear hke hf2
                    have hkn : ((a + n : Nat) : Int) = (a : Int) + (n : Int) := by omega
                    have hcv := conv_sub hY2.1 hY2.2 a n (by omega) (by omega) (cap - a)
                    have hwd := refWord_any (s.extract a (a + n)) wr
                    have hwc := wordL_cases (s.extract a (a + n)).toList
                    have hN1 := HN.out
                    rw [if_pos l1] at hN1
                    clear HN
                    generalize wordL (s.extract a (a + n)).toList = q at hwd hwc hN1
                    have HWD := Lib.hid hwd
                    clear hwd
                    have hq0 : decide ((0 : Int) < 1 + q) = true := by simp; omega
                    have hq1 : 0 ≤ q ∧ q ≤ 2 := by omega
                    obtain ⟨hq2, hq3⟩ := hq1
                    have HN := Lib.hid hN1
                    clear hN1 hwc
                    go_wp2_with (first | (go_at_call 23; with_reducible refine Calls.mono (HLE.out _) ?_; rintro e w2 ⟨rfl, hw2⟩; replace hw2 := hw2.symm; subst hw2) | (go_at_call 18; refine HWD.out.mono ?_; rintro e w2 ⟨rfl, hb2⟩; (have HR2 := Lib.hid (HRW2.out.keep hb2); have HB2 := Lib.hid hb2; have hs2 := hb2.size; have hY := HBY.out w2 (HBR2.out.trans (hb2.mono hbs2)); have hcv2 := conv_sub hY.1 hY.2 a n (by omega) (by omega) (cap - a); clear hb2 hY)) | (at_builtin; refine stop_list ?_))
                    refine Lib.hid ?_
                    refine wpList_append_lies _ rfl _ _ 27 rfl w.heap.size 45 i0 _ 3 32 Tryd.underlying27 hi0 hz0 hz1 hz2 rfl (by omega) u7 tk.length (flat tk) rfl (HR2.out.1.alloc _)
                            ⟨w2.heap.size, 0, none⟩ 1 1 [.int .i64 (1 + q), .string (s.extract a (a + n)), .int .i64 a] rfl rfl (World.news_of_block (cs := #[.int .i64 (1 + q), .string (s.extract a (a + n)), .int .i64 a]) (t := 45) (fr := (0, 0)) (heap_alloc_new w2 _)) (by simp [Value.oneCell'])
                            (by omega) (by unfold maxLen; omega) (by omega) (by simp; omega) (w2.heap.size + 1) (by simp) ?_
                    intro gg cap2 w3 hown hgrow hat hlt3
                    have happ := Rw.appL (t := ⟨1 + q, s.extract a (a + n), a⟩) HR2.out (by omega) hgrow hown hat
                    have HRN := Lib.hid happ.1
                    have hbn := happ.2
                    clear hown hgrow hat happ
                    clear hcv hcv2
                    go_wp2_with fail
                    go_roundw
                    case rel => exact ⟨f, a + n, _, nt, by go_num, by omega, HN.out.2.1, by have := HN.out.2.2.2.2.1; omega, by have := HN.out.2.2.2.2.2; omega, HN.out.2.2.2.1, HN.out.1, HRN.out, (HBR2.out.trans ((HB2.out.mono hbs2).trans hbn))⟩
                    case measure => (simp [intOf]; omega)
          | false =>
            have l2 : figureN c = true := by rw [l1] at cl; simpa using cl
            have hle0 := HLE.out
            rw [l1] at hle0
            have hfi0 := HFI.out
            rw [l2] at hfi0
            clear HLE HFI
            have HLE := Lib.hid hle0
            have HFI := Lib.hid hfi0
            clear hle0 hfi0
            cases hm0 : ((a : Int) == 0)
            all_goals
              as_aux_lemma =>
                go_wp2_with (first | (go_at_call 22; refine HNO.out.mono ?_; rintro e w2 ⟨rfl, hw2⟩; replace hw2 := hw2.symm; subst hw2) | (go_at_call 23; with_reducible refine Calls.mono (HLE.out _) ?_; rintro e w2 ⟨rfl, hw2⟩; replace hw2 := hw2.symm; subst hw2) | (go_at_call 24; with_reducible refine Calls.mono (HFI.out _) ?_; rintro e w2 ⟨rfl, hw2⟩; replace hw2 := hw2.symm; subst hw2))
                go_loopw [11] (fun v wq => ∃ (f2 k : Nat), v = .int .i64 k ∧ s.size < f2 + k ∧ k ≤ s.size ∧ a < k ∧ a + n = wordEnd s f2 k ∧ Rw w.heap.size u7 u8 tk nt wq ∧ Below w.heap.size w wq) (fun v _ => s.size - (intOf v).toNat)
                case atStart => exact ⟨s.size + 1, a + 1, by go_num, by omega, by omega, by omega, HWE.out, HRW.out, HBR.out⟩
                case round =>
                  obtain ⟨f2, k, rfl, hf2, hk, hak, hke, hrw2, hbr2⟩ := hrel
                  have HRW2 := Lib.hid hrw2
                  have HBR2 := Lib.hid hbr2
                  have hbs2 := hbr2.size
                  have hY2 := HBY.out wr hbr2
                  clear hrw2 hbr2
                  obtain ⟨f2, rfl⟩ : ∃ g, f2 = g + 1 := ⟨f2 - 1, by omega⟩
                  by_cases hlk : k < s.size
                  · have hdk := hY2.1 k hlk
                    have hdl := byteN_lt s k
                    rw [wordEnd, if_pos hlk] at hke
                    generalize byteN s k = d at hdk hdl hke
                    have dl1 : letterN d = true ∨ (letterN d = false ∧ figureN d = true) ∨ (letterN d = false ∧ figureN d = false) := by cases letterN d <;> cases figureN d <;> simp
                    have hlet := fun w => refLetter_any d hdl w
                    have hfig := fun w => refFigure_any d hdl w
                    rcases dl1 with x1 | ⟨x1, x2⟩ | ⟨x1, x2⟩
                    · rw [x1] at hlet
                      rw [if_pos (by rw [x1]; rfl)] at hke
                      have HLD := Lib.hid hlet
                      have HKE := Lib.hid hke
                      clear hlet hfig hke x1
                      go_wp2_with (go_at_call 23; with_reducible refine Calls.mono (HLD.out _) ?_; rintro e w2 ⟨rfl, hw2⟩; replace hw2 := hw2.symm; subst hw2)
                      go_roundw
                      case rel => exact ⟨f2, k + 1, by go_num, by omega, by omega, by omega, HKE.out, HRW2.out, HBR2.out⟩
                      case measure => (simp [intOf]; omega)
                    · rw [x1] at hlet
                      rw [x2] at hfig
                      rw [if_pos (by rw [x1, x2]; rfl)] at hke
                      have HLD := Lib.hid hlet
                      have HFD := Lib.hid hfig
                      have HKE := Lib.hid hke
                      clear hlet hfig hke x1 x2
                      go_wp2_with (first | (go_at_call 23; with_reducible refine Calls.mono (HLD.out _) ?_; rintro e w2 ⟨rfl, hw2⟩; replace hw2 := hw2.symm; subst hw2) | (go_at_call 24; with_reducible refine Calls.mono (HFD.out _) ?_; rintro e w2 ⟨rfl, hw2⟩; replace hw2 := hw2.symm; subst hw2))
                      go_roundw
                      case rel => exact ⟨f2, k + 1, by go_num, by omega, by omega, by omega, HKE.out, HRW2.out, HBR2.out⟩
                      case measure => (simp [intOf]; omega)
                    · rw [x1] at hlet
                      rw [x2] at hfig
                      rw [if_neg (by rw [x1, x2]; decide)] at hke
                      have HLD := Lib.hid hlet
                      have HFD := Lib.hid hfig
                      clear hlet hfig x1 x2 hf2
                      obtain rfl : k = a + n := hke.symm
                      clear hke
                      have hkn : ((a + n : Nat) : Int) = (a : Int) + (n : Int) := by omega
                      have hcv := conv_sub hY2.1 hY2.2 a n (by omega) (by omega) (cap - a)
                      have hN1 := HN.out
                      rw [if_neg (show ¬ letterN c = true by rw [l1]; decide)] at hN1
                      clear HN
                      have HN := Lib.hid hN1
                      clear hN1
                      go_wp2_with (first | (go_at_call 23; with_reducible refine Calls.mono (HLD.out _) ?_; rintro e w2 ⟨rfl, hw2⟩; replace hw2 := hw2.symm; subst hw2) | (go_at_call 24; with_reducible refine Calls.mono (HFD.out _) ?_; rintro e w2 ⟨rfl, hw2⟩; replace hw2 := hw2.symm; subst hw2) | (go_at_call 23; with_reducible refine Calls.mono (HLE.out _) ?_; rintro e w2 ⟨rfl, hw2⟩; replace hw2 := hw2.symm; subst hw2) | (at_builtin; refine stop_list ?_))
                      refine Lib.hid ?_
                      refine wpList_append_lies _ rfl _ _ 27 rfl w.heap.size 45 i0 _ 3 32 Tryd.underlying27 hi0 hz0 hz1 hz2 rfl (by omega) u7 tk.length (flat tk) rfl (HRW2.out.1.alloc _)
                              ⟨wr.heap.size, 0, none⟩ 1 1 [.int .i64 4, .string (s.extract a (a + n)), .int .i64 a] rfl rfl (World.news_of_block (cs := #[.int .i64 4, .string (s.extract a (a + n)), .int .i64 a]) (t := 45) (fr := (0, 0)) (heap_alloc_new wr _)) (by simp [Value.oneCell'])
                              (by omega) (by unfold maxLen; omega) (by omega) (by simp; omega) (wr.heap.size + 1) (by simp) ?_
                      intro gg cap2 w3 hown hgrow hat hlt3
                      have happ := Rw.appL (t := ⟨4, s.extract a (a + n), a⟩) HRW2.out (by omega) hgrow hown hat
                      have HRN := Lib.hid happ.1
                      have hbn := happ.2
                      clear hown hgrow hat happ
                      clear hcv
                      go_wp2_with fail
                      go_roundw
                      case rel => exact ⟨f, a + n, _, nt, by go_num, by omega, HN.out.2.1, by have := HN.out.2.2.2.2.1; omega, by have := HN.out.2.2.2.2.2; omega, HN.out.2.2.2.1, HN.out.1, HRN.out, (HBR2.out.trans hbn)⟩
                      case measure => (simp [intOf]; omega)
                  · rw [wordEnd, if_neg hlk] at hke
                    obtain rfl : k = a + n := hke.symm
                    clear hke hf2
                    have hkn : ((a + n : Nat) : Int) = (a : Int) + (n : Int) := by omega
                    have hcv := conv_sub hY2.1 hY2.2 a n (by omega) (by omega) (cap - a)
                    have hN1 := HN.out
                    rw [if_neg (show ¬ letterN c = true by rw [l1]; decide)] at hN1
                    clear HN
                    have HN := Lib.hid hN1
                    clear hN1
                    go_wp2_with (first | (go_at_call 23; with_reducible refine Calls.mono (HLE.out _) ?_; rintro e w2 ⟨rfl, hw2⟩; replace hw2 := hw2.symm; subst hw2) | (at_builtin; refine stop_list ?_))
                    refine Lib.hid ?_
                    refine wpList_append_lies _ rfl _ _ 27 rfl w.heap.size 45 i0 _ 3 32 Tryd.underlying27 hi0 hz0 hz1 hz2 rfl (by omega) u7 tk.length (flat tk) rfl (HRW2.out.1.alloc _)
                            ⟨wr.heap.size, 0, none⟩ 1 1 [.int .i64 4, .string (s.extract a (a + n)), .int .i64 a] rfl rfl (World.news_of_block (cs := #[.int .i64 4, .string (s.extract a (a + n)), .int .i64 a]) (t := 45) (fr := (0, 0)) (heap_alloc_new wr _)) (by simp [Value.oneCell'])
                            (by omega) (by unfold maxLen; omega) (by omega) (by simp; omega) (wr.heap.size + 1) (by simp) ?_
                    intro gg cap2 w3 hown hgrow hat hlt3
                    have happ := Rw.appL (t := ⟨4, s.extract a (a + n), a⟩) HRW2.out (by omega) hgrow hown hat
                    have HRN := Lib.hid happ.1
                    have hbn := happ.2
                    clear hown hgrow hat happ
                    clear hcv
                    go_wp2_with fail
                    go_roundw
                    case rel => exact ⟨f, a + n, _, nt, by go_num, by omega, HN.out.2.1, by have := HN.out.2.2.2.2.1; omega, by have := HN.out.2.2.2.2.2; omega, HN.out.2.2.2.1, HN.out.1, HRN.out, (HBR2.out.trans hbn)⟩
                    case measure => (simp [intOf]; omega)
        by_cases cq : c = 34 ∨ c = 96
        · have hno0 := HNO.out
          rw [cn] at hno0
          have l1 : letterN c = false := by cases h : letterN c <;> simp_all
          have l2 : figureN c = false := by cases h : figureN c <;> simp_all
          have hle0 := HLE.out
          rw [l1] at hle0
          have hfi0 := HFI.out
          rw [l2] at hfi0
          clear HNO HLE HFI
          have HNO := Lib.hid hno0
          have HLE := Lib.hid hle0
          have HFI := Lib.hid hfi0
          clear hno0 hle0 hfi0
          have hqt := refQuoted_any b o cap s wr HBr.out hltr (by omega) a hlt (by rw [HC.out]; exact cq)
          rw [HC.out] at hqt
          by_cases hz : refQuotedF s c (s.size + 1) (a + 1) < 0
          · have hS : refStepF s tk nt a = none := by
              unfold refStepF
              rw [if_neg hM, HC.out, if_neg c10, if_neg cb, if_neg (show ¬ refNoteF s a ≠ 0 from fun h => h cn), if_neg cl, if_pos cq, if_pos hz]
            have HE := Lib.hid (HNONE.out hS)
            clear hS hM
            generalize refQuotedF s c (s.size + 1) (a + 1) = z at hqt hz
            have HQT := Lib.hid hqt
            clear hqt
            rcases cq with rfl | rfl
            all_goals
              cases hm0 : ((a : Int) == 0)
              all_goals
                as_aux_lemma =>
                  go_wp2_with (first | (go_at_call 22; refine HNO.out.mono ?_; rintro e w2 ⟨rfl, hw2⟩; replace hw2 := hw2.symm; subst hw2) | (go_at_call 23; with_reducible refine Calls.mono (HLE.out _) ?_; rintro e w2 ⟨rfl, hw2⟩; replace hw2 := hw2.symm; subst hw2) | (go_at_call 24; with_reducible refine Calls.mono (HFI.out _) ?_; rintro e w2 ⟨rfl, hw2⟩; replace hw2 := hw2.symm; subst hw2) | (go_at_call 25; refine HQT.out.mono ?_; rintro e w2 ⟨rfl, hb2⟩))
                  refine bodyPost_ret (v := .tuple #[.slice none 0 0, .slice none 0 0, .int .i64 a, .int .i64 3]) ?_ rfl ?_
                  · simp [results, Tryd.results11, go_sem]
                  · rw [HE.out]
                    exact ⟨rfl, HBR.out.trans (hb2.mono hbs)⟩
          · have hS : refStepF s tk nt a = some (tk ++ [⟨5, s.extract a (refQuotedF s c (s.size + 1) (a + 1)).toNat, a⟩], nt, (refQuotedF s c (s.size + 1) (a + 1)).toNat - a) := by
              unfold refStepF
              rw [if_neg hM, HC.out, if_neg c10, if_neg cb, if_neg (show ¬ refNoteF s a ≠ 0 from fun h => h cn), if_neg cl, if_pos cq, if_neg hz]
            have hN0 := HNEXT.out _ _ _ hS
            obtain ⟨n, hn⟩ : ∃ n, (refQuotedF s c (s.size + 1) (a + 1)).toNat - a = n := ⟨_, rfl⟩
            rw [hn] at hN0
            have hn0 : n ≠ 0 := hN0.2.2.1
            have hle := hN0.2.1.le
            have hzn : refQuotedF s c (s.size + 1) (a + 1) = (a : Int) + (n : Int) := by omega
            have hzt : (refQuotedF s c (s.size + 1) (a + 1)).toNat = a + n := by omega
            rw [hzt] at hN0
            have HN := Lib.hid hN0
            rw [hzn] at hqt
            have HQT := Lib.hid hqt
            have nend : decide ((a : Int) + (n : Int) < 0) = false := by simp; omega
            clear hS hM hqt hN0 hzn hzt hn hz
            rcases cq with rfl | rfl
            all_goals
              cases hm0 : ((a : Int) == 0)
              all_goals
                as_aux_lemma =>
                  go_wp2_with (first | (go_at_call 22; refine HNO.out.mono ?_; rintro e w2 ⟨rfl, hw2⟩; replace hw2 := hw2.symm; subst hw2) | (go_at_call 23; with_reducible refine Calls.mono (HLE.out _) ?_; rintro e w2 ⟨rfl, hw2⟩; replace hw2 := hw2.symm; subst hw2) | (go_at_call 24; with_reducible refine Calls.mono (HFI.out _) ?_; rintro e w2 ⟨rfl, hw2⟩; replace hw2 := hw2.symm; subst hw2) | (go_at_call 25; refine HQT.out.mono ?_; rintro e w2 ⟨rfl, hb2⟩; (have HR2 := Lib.hid (HRW.out.keep hb2); have HB2 := Lib.hid hb2; have hs2 := hb2.size; have hY := HBY.out w2 (HBR.out.trans (hb2.mono hbs)); have hcv := conv_sub hY.1 hY.2 a n (by omega) (by omega) (cap - a); clear hb2 hY)) | (at_builtin; refine stop_list ?_))
                  refine Lib.hid ?_
                  refine wpList_append_lies _ rfl _ _ 27 rfl w.heap.size 45 i0 _ 3 32 Tryd.underlying27 hi0 hz0 hz1 hz2 rfl (by omega) u7 tk.length (flat tk) rfl (HR2.out.1.alloc _)
                          ⟨w2.heap.size, 0, none⟩ 1 1 [.int .i64 5, .string (s.extract a (a + n)), .int .i64 a] rfl rfl (World.news_of_block (cs := #[.int .i64 5, .string (s.extract a (a + n)), .int .i64 a]) (t := 45) (fr := (0, 0)) (heap_alloc_new w2 _)) (by simp [Value.oneCell'])
                          (by omega) (by unfold maxLen; omega) (by omega) (by simp; omega) (w2.heap.size + 1) (by simp) ?_
                  intro gg cap2 w3 hown hgrow hat hlt3
                  have happ := Rw.appL (t := ⟨5, s.extract a (a + n), a⟩) HR2.out (by omega) hgrow hown hat
                  have HRN := Lib.hid happ.1
                  have hbn := happ.2
                  clear hown hgrow hat happ
                  clear hcv
                  go_wp2_with fail
                  go_roundw
                  case rel => exact ⟨f, a + n, _, nt, by go_num, by omega, HN.out.2.1, by have := HN.out.2.2.2.2.1; omega, by have := HN.out.2.2.2.2.2; omega, HN.out.2.2.2.1, HN.out.1, HRN.out, (HBR.out.trans ((HB2.out.mono hbs).trans hbn))⟩
                  case measure => (simp [intOf]; omega)
        have l1 : letterN c = false := by cases h : letterN c <;> simp_all
        have l2 : figureN c = false := by cases h : figureN c <;> simp_all
        have n34 : ((c : Int) == 34) = false := by simp; omega
        have n96 : ((c : Int) == 96) = false := by simp; omega
        have hno0 := HNO.out
        rw [cn] at hno0
        have hle0 := HLE.out
        rw [l1] at hle0
        have hfi0 := HFI.out
        rw [l2] at hfi0
        clear HNO HLE HFI
        have HNO := Lib.hid hno0
        have HLE := Lib.hid hle0
        have HFI := Lib.hid hfi0
        clear hno0 hle0 hfi0
        have hsg := refSign_any b o cap s wr HBr.out hltr (by omega) hcap a hlt
        have HSG := Lib.hid hsg
        have HV4 : (((a : Int) == 0) = false) ∨ ((((a : Int) == 0) = true) ∧ ((c : Int) == 239) = false) ∨ ((((a : Int) == 0) = true) ∧ ((c : Int) == 239) = true ∧ 2 < s.size ∧ ((byteN s 1 : Int) == 187) = false) ∨ ((((a : Int) == 0) = true) ∧ ((c : Int) == 239) = true ∧ 2 < s.size ∧ ((byteN s 1 : Int) == 187) = true ∧ ((byteN s 2 : Int) == 191) = false) := by
          by_cases h1 : a = 0
          · by_cases h2 : c = 239
            · have hz := valid_239 HV.out (by omega) (by rw [← h1, HC.out]; exact h2)
              by_cases h3 : byteN s 1 = 187
              · refine .inr (.inr (.inr ⟨by simp; omega, by simp; omega, hz, by simp; omega, ?_⟩))
                have : byteN s 2 ≠ 191 := fun h4 => hM ⟨h1, by rw [HC.out]; exact h2, h3, h4⟩
                simp; omega
              · exact .inr (.inr (.inl ⟨by simp; omega, by simp; omega, hz, by simp; omega⟩))
            · exact .inr (.inl ⟨by simp; omega, by simp; omega⟩)
          · exact .inl (by simp; omega)
        by_cases hz : refSignF s a = 0
        · have hS : refStepF s tk nt a = none := by
            unfold refStepF
            rw [if_neg hM, HC.out, if_neg c10, if_neg cb, if_neg (show ¬ refNoteF s a ≠ 0 from fun h => h cn), if_neg cl, if_neg cq, if_pos hz]
          have HE := Lib.hid (HNONE.out hS)
          rw [hz] at HSG
          clear hS hM hsg
          rcases HV4 with m0 | ⟨m0, m1⟩ | ⟨m0, m1, m2, m3⟩ | ⟨m0, m1, m2, m3, m4⟩
          · all_goals
              go_wp2_with (first | (go_at_call 22; refine HNO.out.mono ?_; rintro e w2 ⟨rfl, hw2⟩; replace hw2 := hw2.symm; subst hw2) | (go_at_call 23; with_reducible refine Calls.mono (HLE.out _) ?_; rintro e w2 ⟨rfl, hw2⟩; replace hw2 := hw2.symm; subst hw2) | (go_at_call 24; with_reducible refine Calls.mono (HFI.out _) ?_; rintro e w2 ⟨rfl, hw2⟩; replace hw2 := hw2.symm; subst hw2) | (go_at_call 26; refine HSG.out.mono ?_; rintro e w2 ⟨rfl, hb2⟩))
              refine bodyPost_ret (v := .tuple #[.slice none 0 0, .slice none 0 0, .int .i64 a, .int .i64 3]) ?_ rfl ?_
              · simp [results, Tryd.results11, go_sem]
              · rw [HE.out]
                exact ⟨rfl, HBR.out.trans (hb2.mono hbs)⟩
          · all_goals
              go_wp2_with (first | (go_at_call 22; refine HNO.out.mono ?_; rintro e w2 ⟨rfl, hw2⟩; replace hw2 := hw2.symm; subst hw2) | (go_at_call 23; with_reducible refine Calls.mono (HLE.out _) ?_; rintro e w2 ⟨rfl, hw2⟩; replace hw2 := hw2.symm; subst hw2) | (go_at_call 24; with_reducible refine Calls.mono (HFI.out _) ?_; rintro e w2 ⟨rfl, hw2⟩; replace hw2 := hw2.symm; subst hw2) | (go_at_call 26; refine HSG.out.mono ?_; rintro e w2 ⟨rfl, hb2⟩))
              refine bodyPost_ret (v := .tuple #[.slice none 0 0, .slice none 0 0, .int .i64 a, .int .i64 3]) ?_ rfl ?_
              · simp [results, Tryd.results11, go_sem]
              · rw [HE.out]
                exact ⟨rfl, HBR.out.trans (hb2.mono hbs)⟩
          · have g1 := HBr.out 1 (by omega)
            have g2 := HBr.out 2 (by omega)
            all_goals
              as_aux_lemma =>
                go_wp2_with (first | (go_at_call 22; refine HNO.out.mono ?_; rintro e w2 ⟨rfl, hw2⟩; replace hw2 := hw2.symm; subst hw2) | (go_at_call 23; with_reducible refine Calls.mono (HLE.out _) ?_; rintro e w2 ⟨rfl, hw2⟩; replace hw2 := hw2.symm; subst hw2) | (go_at_call 24; with_reducible refine Calls.mono (HFI.out _) ?_; rintro e w2 ⟨rfl, hw2⟩; replace hw2 := hw2.symm; subst hw2) | (go_at_call 26; refine HSG.out.mono ?_; rintro e w2 ⟨rfl, hb2⟩))
                refine bodyPost_ret (v := .tuple #[.slice none 0 0, .slice none 0 0, .int .i64 a, .int .i64 3]) ?_ rfl ?_
                · simp [results, Tryd.results11, go_sem]
                · rw [HE.out]
                  exact ⟨rfl, HBR.out.trans (hb2.mono hbs)⟩
          · have g1 := HBr.out 1 (by omega)
            have g2 := HBr.out 2 (by omega)
            all_goals
              as_aux_lemma =>
                go_wp2_with (first | (go_at_call 22; refine HNO.out.mono ?_; rintro e w2 ⟨rfl, hw2⟩; replace hw2 := hw2.symm; subst hw2) | (go_at_call 23; with_reducible refine Calls.mono (HLE.out _) ?_; rintro e w2 ⟨rfl, hw2⟩; replace hw2 := hw2.symm; subst hw2) | (go_at_call 24; with_reducible refine Calls.mono (HFI.out _) ?_; rintro e w2 ⟨rfl, hw2⟩; replace hw2 := hw2.symm; subst hw2) | (go_at_call 26; refine HSG.out.mono ?_; rintro e w2 ⟨rfl, hb2⟩))
                refine bodyPost_ret (v := .tuple #[.slice none 0 0, .slice none 0 0, .int .i64 a, .int .i64 3]) ?_ rfl ?_
                · simp [results, Tryd.results11, go_sem]
                · rw [HE.out]
                  exact ⟨rfl, HBR.out.trans (hb2.mono hbs)⟩
        · obtain ⟨n, hn⟩ : ∃ n, refSignF s a = n := ⟨_, rfl⟩
          have hS : refStepF s tk nt a = some (tk ++ [⟨6, s.extract a (a + n), a⟩], nt, n) := by
            unfold refStepF
            rw [if_neg hM, HC.out, if_neg c10, if_neg cb, if_neg (show ¬ refNoteF s a ≠ 0 from fun h => h cn), if_neg cl, if_neg cq, if_neg hz, hn]
          have HN := Lib.hid (HNEXT.out _ _ _ hS)
          have hle := HN.out.2.1.le
          have hn0 : n ≠ 0 := HN.out.2.2.1
          rw [hn] at HSG
          have nend : ((a : Int) + (n : Int) == (a : Int)) = false := by simp; omega
          clear hS hM hsg hz hn
          rcases HV4 with m0 | ⟨m0, m1⟩ | ⟨m0, m1, m2, m3⟩ | ⟨m0, m1, m2, m3, m4⟩
          · all_goals
              go_wp2_with (first | (go_at_call 22; refine HNO.out.mono ?_; rintro e w2 ⟨rfl, hw2⟩; replace hw2 := hw2.symm; subst hw2) | (go_at_call 23; with_reducible refine Calls.mono (HLE.out _) ?_; rintro e w2 ⟨rfl, hw2⟩; replace hw2 := hw2.symm; subst hw2) | (go_at_call 24; with_reducible refine Calls.mono (HFI.out _) ?_; rintro e w2 ⟨rfl, hw2⟩; replace hw2 := hw2.symm; subst hw2) | (go_at_call 26; refine HSG.out.mono ?_; rintro e w2 ⟨rfl, hb2⟩; (have HR2 := Lib.hid (HRW.out.keep hb2); have HB2 := Lib.hid hb2; have hs2 := hb2.size; have hY := HBY.out w2 (HBR.out.trans (hb2.mono hbs)); have hcv := conv_sub hY.1 hY.2 a n (by omega) (by omega) (cap - a); clear hb2 hY)) | (at_builtin; refine stop_list ?_))
              refine Lib.hid ?_
              refine wpList_append_lies _ rfl _ _ 27 rfl w.heap.size 45 i0 _ 3 32 Tryd.underlying27 hi0 hz0 hz1 hz2 rfl (by omega) u7 tk.length (flat tk) rfl (HR2.out.1.alloc _)
                      ⟨w2.heap.size, 0, none⟩ 1 1 [.int .i64 6, .string (s.extract a (a + n)), .int .i64 a] rfl rfl (World.news_of_block (cs := #[.int .i64 6, .string (s.extract a (a + n)), .int .i64 a]) (t := 45) (fr := (0, 0)) (heap_alloc_new w2 _)) (by simp [Value.oneCell'])
                      (by omega) (by unfold maxLen; omega) (by omega) (by simp; omega) (w2.heap.size + 1) (by simp) ?_
              intro gg cap2 w3 hown hgrow hat hlt3
              have happ := Rw.appL (t := ⟨6, s.extract a (a + n), a⟩) HR2.out (by omega) hgrow hown hat
              have HRN := Lib.hid happ.1
              have hbn := happ.2
              clear hown hgrow hat happ
              clear hcv
              go_wp2_with fail
              go_roundw
              case rel => exact ⟨f, a + n, _, nt, by go_num, by omega, HN.out.2.1, by have := HN.out.2.2.2.2.1; omega, by have := HN.out.2.2.2.2.2; omega, HN.out.2.2.2.1, HN.out.1, HRN.out, (HBR.out.trans ((HB2.out.mono hbs).trans hbn))⟩
              case measure => (simp [intOf]; omega)
          · all_goals
              go_wp2_with (first | (go_at_call 22; refine HNO.out.mono ?_; rintro e w2 ⟨rfl, hw2⟩; replace hw2 := hw2.symm; subst hw2) | (go_at_call 23; with_reducible refine Calls.mono (HLE.out _) ?_; rintro e w2 ⟨rfl, hw2⟩; replace hw2 := hw2.symm; subst hw2) | (go_at_call 24; with_reducible refine Calls.mono (HFI.out _) ?_; rintro e w2 ⟨rfl, hw2⟩; replace hw2 := hw2.symm; subst hw2) | (go_at_call 26; refine HSG.out.mono ?_; rintro e w2 ⟨rfl, hb2⟩; (have HR2 := Lib.hid (HRW.out.keep hb2); have HB2 := Lib.hid hb2; have hs2 := hb2.size; have hY := HBY.out w2 (HBR.out.trans (hb2.mono hbs)); have hcv := conv_sub hY.1 hY.2 a n (by omega) (by omega) (cap - a); clear hb2 hY)) | (at_builtin; refine stop_list ?_))
              refine Lib.hid ?_
              refine wpList_append_lies _ rfl _ _ 27 rfl w.heap.size 45 i0 _ 3 32 Tryd.underlying27 hi0 hz0 hz1 hz2 rfl (by omega) u7 tk.length (flat tk) rfl (HR2.out.1.alloc _)
                      ⟨w2.heap.size, 0, none⟩ 1 1 [.int .i64 6, .string (s.extract a (a + n)), .int .i64 a] rfl rfl (World.news_of_block (cs := #[.int .i64 6, .string (s.extract a (a + n)), .int .i64 a]) (t := 45) (fr := (0, 0)) (heap_alloc_new w2 _)) (by simp [Value.oneCell'])
                      (by omega) (by unfold maxLen; omega) (by omega) (by simp; omega) (w2.heap.size + 1) (by simp) ?_
              intro gg cap2 w3 hown hgrow hat hlt3
              have happ := Rw.appL (t := ⟨6, s.extract a (a + n), a⟩) HR2.out (by omega) hgrow hown hat
              have HRN := Lib.hid happ.1
              have hbn := happ.2
              clear hown hgrow hat happ
              clear hcv
              go_wp2_with fail
              go_roundw
              case rel => exact ⟨f, a + n, _, nt, by go_num, by omega, HN.out.2.1, by have := HN.out.2.2.2.2.1; omega, by have := HN.out.2.2.2.2.2; omega, HN.out.2.2.2.1, HN.out.1, HRN.out, (HBR.out.trans ((HB2.out.mono hbs).trans hbn))⟩
              case measure => (simp [intOf]; omega)
          · have g1 := HBr.out 1 (by omega)
            have g2 := HBr.out 2 (by omega)
            all_goals
              as_aux_lemma =>
                go_wp2_with (first | (go_at_call 22; refine HNO.out.mono ?_; rintro e w2 ⟨rfl, hw2⟩; replace hw2 := hw2.symm; subst hw2) | (go_at_call 23; with_reducible refine Calls.mono (HLE.out _) ?_; rintro e w2 ⟨rfl, hw2⟩; replace hw2 := hw2.symm; subst hw2) | (go_at_call 24; with_reducible refine Calls.mono (HFI.out _) ?_; rintro e w2 ⟨rfl, hw2⟩; replace hw2 := hw2.symm; subst hw2) | (go_at_call 26; refine HSG.out.mono ?_; rintro e w2 ⟨rfl, hb2⟩; (have HR2 := Lib.hid (HRW.out.keep hb2); have HB2 := Lib.hid hb2; have hs2 := hb2.size; have hY := HBY.out w2 (HBR.out.trans (hb2.mono hbs)); have hcv := conv_sub hY.1 hY.2 a n (by omega) (by omega) (cap - a); clear hb2 hY)) | (at_builtin; refine stop_list ?_))
                refine Lib.hid ?_
                refine wpList_append_lies _ rfl _ _ 27 rfl w.heap.size 45 i0 _ 3 32 Tryd.underlying27 hi0 hz0 hz1 hz2 rfl (by omega) u7 tk.length (flat tk) rfl (HR2.out.1.alloc _)
                        ⟨w2.heap.size, 0, none⟩ 1 1 [.int .i64 6, .string (s.extract a (a + n)), .int .i64 a] rfl rfl (World.news_of_block (cs := #[.int .i64 6, .string (s.extract a (a + n)), .int .i64 a]) (t := 45) (fr := (0, 0)) (heap_alloc_new w2 _)) (by simp [Value.oneCell'])
                        (by omega) (by unfold maxLen; omega) (by omega) (by simp; omega) (w2.heap.size + 1) (by simp) ?_
                intro gg cap2 w3 hown hgrow hat hlt3
                have happ := Rw.appL (t := ⟨6, s.extract a (a + n), a⟩) HR2.out (by omega) hgrow hown hat
                have HRN := Lib.hid happ.1
                have hbn := happ.2
                clear hown hgrow hat happ
                clear hcv
                go_wp2_with fail
                go_roundw
                case rel => exact ⟨f, a + n, _, nt, by go_num, by omega, HN.out.2.1, by have := HN.out.2.2.2.2.1; omega, by have := HN.out.2.2.2.2.2; omega, HN.out.2.2.2.1, HN.out.1, HRN.out, (HBR.out.trans ((HB2.out.mono hbs).trans hbn))⟩
                case measure => (simp [intOf]; omega)
          · have g1 := HBr.out 1 (by omega)
            have g2 := HBr.out 2 (by omega)
            all_goals
              as_aux_lemma =>
                go_wp2_with (first | (go_at_call 22; refine HNO.out.mono ?_; rintro e w2 ⟨rfl, hw2⟩; replace hw2 := hw2.symm; subst hw2) | (go_at_call 23; with_reducible refine Calls.mono (HLE.out _) ?_; rintro e w2 ⟨rfl, hw2⟩; replace hw2 := hw2.symm; subst hw2) | (go_at_call 24; with_reducible refine Calls.mono (HFI.out _) ?_; rintro e w2 ⟨rfl, hw2⟩; replace hw2 := hw2.symm; subst hw2) | (go_at_call 26; refine HSG.out.mono ?_; rintro e w2 ⟨rfl, hb2⟩; (have HR2 := Lib.hid (HRW.out.keep hb2); have HB2 := Lib.hid hb2; have hs2 := hb2.size; have hY := HBY.out w2 (HBR.out.trans (hb2.mono hbs)); have hcv := conv_sub hY.1 hY.2 a n (by omega) (by omega) (cap - a); clear hb2 hY)) | (at_builtin; refine stop_list ?_))
                refine Lib.hid ?_
                refine wpList_append_lies _ rfl _ _ 27 rfl w.heap.size 45 i0 _ 3 32 Tryd.underlying27 hi0 hz0 hz1 hz2 rfl (by omega) u7 tk.length (flat tk) rfl (HR2.out.1.alloc _)
                        ⟨w2.heap.size, 0, none⟩ 1 1 [.int .i64 6, .string (s.extract a (a + n)), .int .i64 a] rfl rfl (World.news_of_block (cs := #[.int .i64 6, .string (s.extract a (a + n)), .int .i64 a]) (t := 45) (fr := (0, 0)) (heap_alloc_new w2 _)) (by simp [Value.oneCell'])
                        (by omega) (by unfold maxLen; omega) (by omega) (by simp; omega) (w2.heap.size + 1) (by simp) ?_
                intro gg cap2 w3 hown hgrow hat hlt3
                have happ := Rw.appL (t := ⟨6, s.extract a (a + n), a⟩) HR2.out (by omega) hgrow hown hat
                have HRN := Lib.hid happ.1
                have hbn := happ.2
                clear hown hgrow hat happ
                clear hcv
                go_wp2_with fail
                go_roundw
                case rel => exact ⟨f, a + n, _, nt, by go_num, by omega, HN.out.2.1, by have := HN.out.2.2.2.2.1; omega, by have := HN.out.2.2.2.2.2; omega, HN.out.2.2.2.1, HN.out.1, HRN.out, (HBR.out.trans ((HB2.out.mono hbs).trans hbn))⟩
                case measure => (simp [intOf]; omega)
      · have c47 : c = 47 := by
          by_cases h : c = 47
          · exact h
          · exfalso
            apply cn
            unfold refNoteF
            rw [HC.out, if_neg h]
            split <;> rfl
        have hno0 := HNO.out
        clear HNO
        have z0 : (refNoteF s a != 0) = true := by simpa using cn
        by_cases hz : refNoteF s a < 0
        · have hS : refStepF s tk nt a = none := by
            unfold refStepF
            rw [if_neg hM, HC.out, if_neg c10, if_neg cb, if_pos cn, if_pos hz]
          have HE := Lib.hid (HNONE.out hS)
          have z1 : decide (refNoteF s a < 0) = true := by simpa using hz
          clear hS hM cn
          generalize refNoteF s a = z at hno0 hz z0 z1
          have HNO := Lib.hid hno0
          clear hno0
          subst c47
          cases hm0 : ((a : Int) == 0)
          all_goals
            as_aux_lemma =>
              go_wp2_with (go_at_call 22; refine HNO.out.mono ?_; rintro e w2 ⟨rfl, hw2⟩; replace hw2 := hw2.symm; subst hw2)
              refine bodyPost_ret (v := .tuple #[.slice none 0 0, .slice none 0 0, .int .i64 a, .int .i64 3]) ?_ rfl ?_
              · simp [results, Tryd.results11, go_sem]
              · rw [HE.out]
                exact ⟨rfl, HBR.out⟩
        · have hS : refStepF s tk nt a = some (if lineB s a ((refNoteF s a).toNat - a) then endsF tk a else tk, nt ++ [⟨0, s.extract a (refNoteF s a).toNat, a⟩], (refNoteF s a).toNat - a) := by
            unfold refStepF
            rw [if_neg hM, HC.out, if_neg c10, if_neg cb, if_pos cn, if_neg hz]
          have hN0 := HNEXT.out _ _ _ hS
          obtain ⟨n, hn⟩ : ∃ n, (refNoteF s a).toNat - a = n := ⟨_, rfl⟩
          rw [hn] at hN0
          have hn0 : n ≠ 0 := hN0.2.2.1
          have hle := hN0.2.1.le
          have hzn : refNoteF s a = (a : Int) + (n : Int) := by omega
          have hzt : (refNoteF s a).toNat = a + n := by omega
          rw [hzt] at hN0
          have HN0 := Lib.hid hN0
          rw [hzn] at hno0 z0
          have HNO := Lib.hid hno0
          have z1 : decide ((a : Int) + (n : Int) < 0) = false := by simp; omega
          clear hS hM hno0 hN0 hzn hzt hn hz cn
          subst c47
          cases hm0 : ((a : Int) == 0)
          all_goals
            as_aux_lemma =>
              go_wp2_with (go_at_call 22; refine HNO.out.mono ?_; rintro e w2 ⟨rfl, hw2⟩; replace hw2 := hw2.symm; subst hw2)
              go_loopw [13, 14] (fun vb vi wq => ∃ k : Nat, vb = .bool (lineB s a k) ∧ vi = .int .i64 ((a + k : Nat) : Int) ∧ k ≤ n ∧ Rw w.heap.size u7 u8 tk nt wq ∧ Below w.heap.size w wq) (fun _ vi _ => a + n - (intOf vi).toNat)
              case atStart => exact ⟨0, rfl, by go_num, by omega, HRW.out, HBR.out⟩
              case round =>
                obtain ⟨k, rfl, rfl, hk, hrw2, hbr2⟩ := hrel
                have HRW2 := Lib.hid hrw2
                have HBR2 := Lib.hid hbr2
                have hbs2 := hbr2.size
                have hY2 := HBY.out wr hbr2
                clear hrw2 hbr2
                have hak : ((a + k : Nat) : Int) = (a : Int) + (k : Int) := by omega
                by_cases hlk : k < n
                · have hdk := hY2.1 (a + k) (by omega)
                  have hdl := byteN_lt s (a + k)
                  have hls := lineB_succ s a k
                  generalize byteN s (a + k) = d at hdk hdl hls
                  cases hl : lineB s a k with
                  | true =>
                    rw [hl, Bool.true_or] at hls
                    have HLS := Lib.hid hls
                    clear hls hdk
                    go_wp2_with fail
                    go_roundw
                    case rel => exact ⟨k + 1, by rw [HLS.out], by go_num, by omega, HRW2.out, HBR2.out⟩
                    case measure => (simp [intOf]; omega)
                  | false =>
                    rw [hl, Bool.false_or] at hls
                    by_cases d10 : d = 10
                    · subst d10
                      have HLS : Hid (lineB s a (k + 1) = true) := Lib.hid (by rw [hls]; rfl)
                      clear hls
                      go_wp2_with fail
                      go_roundw
                      case rel => exact ⟨k + 1, by rw [HLS.out], by go_num, by omega, HRW2.out, HBR2.out⟩
                      case measure => (simp [intOf]; omega)
                    · have d11 : ((d : Int) == 10) = false := by simp; omega
                      have HLS : Hid (lineB s a (k + 1) = false) := Lib.hid (by rw [hls]; simp; omega)
                      clear hls
                      go_wp2_with fail
                      go_roundw
                      case rel => exact ⟨k + 1, by rw [HLS.out], by go_num, by omega, HRW2.out, HBR2.out⟩
                      case measure => (simp [intOf]; omega)
                · obtain rfl : k = n := by omega
                  have hcv := conv_sub hY2.1 hY2.2 a k (by omega) (by omega) (cap - a)
                  have hN1 := HN0.out
                  cases hl : lineB s a k with
                  | false =>
                    rw [hl, if_neg (by decide)] at hN1
                    have HN := Lib.hid hN1
                    clear hN1
                    go_wp2_with (at_builtin; refine stop_list ?_)
                    refine Lib.hid ?_
                    refine wpList_append_lies _ rfl _ _ 27 rfl w.heap.size 45 i0 _ 3 32 Tryd.underlying27 hi0 hz0 hz1 hz2 rfl (by omega) u8 nt.length (flat nt) rfl (HRW2.out.2.1.alloc _)
                            ⟨wr.heap.size, 0, none⟩ 1 1 [.int .i64 0, .string (s.extract a (a + k)), .int .i64 a] rfl rfl (World.news_of_block (cs := #[.int .i64 0, .string (s.extract a (a + k)), .int .i64 a]) (t := 45) (fr := (0, 0)) (heap_alloc_new wr _)) (by simp [Value.oneCell'])
                            (by omega) (by unfold maxLen; omega) (by omega) (by simp; omega) (wr.heap.size + 1) (by simp) ?_
                    intro gg cap2 w3 hown hgrow hat hlt3
                    have happ := Rw.appN (t := ⟨0, s.extract a (a + k), a⟩) HRW2.out (by omega) hgrow hown hat
                    have HRN := Lib.hid happ.1
                    have hbn := happ.2
                    clear hown hgrow hat happ
                    clear hcv
                    go_wp2_with fail
                    go_roundw
                    case rel => exact ⟨f, a + k, tk, _, by go_num, by omega, HN.out.2.1, by have := HN.out.2.2.2.2.1; omega, by have := HN.out.2.2.2.2.2; omega, HN.out.2.2.2.1, HN.out.1, HRN.out, (HBR2.out.trans hbn)⟩
                    case measure => (simp [intOf]; omega)
                  | true =>
                    rw [hl, if_pos rfl] at hN1
                    have hen := refEnds_any w.heap.size u7 tk wr HRW2.out.1 (by omega)
                    have hcase : Hid (endsF tk a = if endsB tk then tk ++ [⟨6, nlB, a⟩] else tk) := Lib.hid rfl
                    generalize endsB tk = q at hen hcase
                    have HEN := Lib.hid hen
                    clear hen
                    cases q with
                    | false =>
                      have hcf : endsF tk a = tk := hcase.out
                      rw [hcf] at hN1
                      have HN := Lib.hid hN1
                      clear hN1 hcf
                      go_wp2_with (first
                        | (go_at_call 21; refine HEN.out.mono ?_; rintro e w2 ⟨rfl, hb2⟩; have HR2 := Lib.hid (HRW2.out.keep hb2); have HB2 := Lib.hid hb2; have hs2 := hb2.size; have hY := HBY.out w2 (HBR2.out.trans (hb2.mono hbs2)); have hcv2 := conv_sub hY.1 hY.2 a k (by omega) (by omega) (cap - a); clear hb2 hY)
                        | (at_builtin; refine stop_list ?_))
                      refine Lib.hid ?_
                      refine wpList_append_lies _ rfl _ _ 27 rfl w.heap.size 45 i0 _ 3 32 Tryd.underlying27 hi0 hz0 hz1 hz2 rfl (by omega) u8 nt.length (flat nt) rfl (HR2.out.2.1.alloc _)
                              ⟨w2.heap.size, 0, none⟩ 1 1 [.int .i64 0, .string (s.extract a (a + k)), .int .i64 a] rfl rfl (World.news_of_block (cs := #[.int .i64 0, .string (s.extract a (a + k)), .int .i64 a]) (t := 45) (fr := (0, 0)) (heap_alloc_new w2 _)) (by simp [Value.oneCell'])
                              (by omega) (by unfold maxLen; omega) (by omega) (by simp; omega) (w2.heap.size + 1) (by simp) ?_
                      intro gg cap2 w3 hown hgrow hat hlt3
                      have happ := Rw.appN (t := ⟨0, s.extract a (a + k), a⟩) HR2.out (by omega) hgrow hown hat
                      have HRN := Lib.hid happ.1
                      have hbn := happ.2
                      clear hown hgrow hat happ
                      clear hcv hcv2
                      go_wp2_with fail
                      go_roundw
                      case rel => exact ⟨f, a + k, tk, _, by go_num, by omega, HN.out.2.1, by have := HN.out.2.2.2.2.1; omega, by have := HN.out.2.2.2.2.2; omega, HN.out.2.2.2.1, HN.out.1, HRN.out, (HBR2.out.trans ((HB2.out.mono hbs2).trans hbn))⟩
                      case measure => (simp [intOf]; omega)
                    | true =>
                      have hct : endsF tk a = tk ++ [⟨6, nlB, a⟩] := hcase.out
                      rw [hct] at hN1
                      have HN := Lib.hid hN1
                      clear hN1 hct
                      go_wp2_with (first
                        | (go_at_call 21; refine HEN.out.mono ?_; rintro e w2 ⟨rfl, hb2⟩; have HR2 := Lib.hid (HRW2.out.keep hb2); have HB2 := Lib.hid hb2; have hs2 := hb2.size; clear hb2)
                        | (at_builtin; refine stop_list ?_))
                      refine Lib.hid ?_
                      refine wpList_append_lies _ rfl _ _ 27 rfl w.heap.size 45 i0 _ 3 32 Tryd.underlying27 hi0 hz0 hz1 hz2 rfl (by omega) u7 tk.length (flat tk) rfl (HR2.out.1.alloc _)
                              ⟨w2.heap.size, 0, none⟩ 1 1 [.int .i64 6, .string ⟨#[10]⟩, .int .i64 a] rfl rfl (World.news_of_block (cs := #[.int .i64 6, .string ⟨#[10]⟩, .int .i64 a]) (t := 45) (fr := (0, 0)) (heap_alloc_new w2 _)) (by simp [Value.oneCell'])
                              (by omega) (by unfold maxLen; omega) (by omega) (by simp; omega) (w2.heap.size + 1) (by simp) ?_
                      intro gg cap2 w3 hown hgrow hat hlt3
                      have happ := Rw.appL (t := ⟨6, nlB, a⟩) HR2.out (by omega) hgrow hown hat
                      have HRN := Lib.hid happ.1
                      have hbn := happ.2
                      clear hown hgrow hat happ
                      have HRA := HRN
                      have hbA := hbn
                      have hs3 := hbA.size
                      have hY := HBY.out w3 (HBR2.out.trans ((HB2.out.mono hbs2).trans hbA))
                      have hcv3 := conv_sub hY.1 hY.2 a k (by omega) (by omega) (cap - a)
                      clear hY HRN hbn
                      go_wp2_with (at_builtin; refine stop_list ?_)
                      refine Lib.hid ?_
                      refine wpList_append_lies _ rfl _ _ 27 rfl w.heap.size 45 i0 _ 3 32 Tryd.underlying27 hi0 hz0 hz1 hz2 rfl (by omega) u8 nt.length (flat nt) rfl (HRA.out.2.1.alloc _)
                              ⟨w3.heap.size, 0, none⟩ 1 1 [.int .i64 0, .string (s.extract a (a + k)), .int .i64 a] rfl rfl (World.news_of_block (cs := #[.int .i64 0, .string (s.extract a (a + k)), .int .i64 a]) (t := 45) (fr := (0, 0)) (heap_alloc_new w3 _)) (by simp [Value.oneCell'])
                              (by omega) (by unfold maxLen; omega) (by omega) (by simp; omega) (w3.heap.size + 1) (by simp) ?_
                      intro gg cap2 w3 hown hgrow hat hlt3
                      have happ := Rw.appN (t := ⟨0, s.extract a (a + k), a⟩) HRA.out (by omega) hgrow hown hat
                      have HRN := Lib.hid happ.1
                      have hbn := happ.2
                      clear hown hgrow hat happ
                      clear hcv hcv3
                      go_wp2_with fail
                      go_roundw
                      case rel => exact ⟨f, a + k, _, _, by go_num, by omega, HN.out.2.1, by have := HN.out.2.2.2.2.1; omega, by have := HN.out.2.2.2.2.2; omega, HN.out.2.2.2.1, HN.out.1, HRN.out, (HBR2.out.trans ((HB2.out.mono hbs2).trans (hbA.trans hbn)))⟩
                      case measure => (simp [intOf]; omega)
    · have hae : a = s.size := by omega
      have HN : Hid (R = .ok (endsF tk s.size, nt)) := Lib.hid (by rw [HEQ.out, refF, if_neg hlt])
      have hen := refEnds_any w.heap.size u7 tk wr HRW.out.1 (by omega)
      have hcase : Hid (endsF tk s.size = if endsB tk then tk ++ [⟨6, nlB, s.size⟩] else tk) := Lib.hid rfl
      subst hae
      clear hkok hon hlt hale hf
      generalize endsB tk = q at hen hcase
      have HEN := Lib.hid hen
      clear hen
      cases q with
      | false =>
        go_wp2_with (go_at_call 21; refine HEN.out.mono ?_; rintro e w2 ⟨rfl, hb2⟩)
        have hcf : endsF tk s.size = tk := hcase.out
        refine bodyPost_ret (v := .tuple #[u7, u8, .int .i64 0, .int .i64 0]) ?_ rfl ?_
        · simp [results, Tryd.results11, go_sem]
        · rw [HN.out, hcf]
          have h2 := HRW.out.keep hb2
          exact ⟨_, _, rfl, HBR.out.trans (hb2.mono hbs), h2.1, h2.2.1⟩
      | true =>
        have hct : endsF tk s.size = tk ++ [⟨6, nlB, s.size⟩] := hcase.out
        have HCT := Lib.hid hct
        clear hct
        go_wp2_with (first
          | (go_at_call 21; refine HEN.out.mono ?_; rintro e w2 ⟨rfl, hb2⟩; have HR2 := Lib.hid (HRW.out.keep hb2); have HB2 := Lib.hid hb2; have hs2 := hb2.size; clear hb2)
          | (at_builtin; refine stop_list ?_))
        refine Lib.hid ?_
        refine wpList_append_lies _ rfl _ _ 27 rfl w.heap.size 45 i0 _ 3 32 Tryd.underlying27 hi0 hz0 hz1 hz2 rfl (by omega) u7 tk.length (flat tk) rfl (HR2.out.1.alloc _)
                ⟨w2.heap.size, 0, none⟩ 1 1 [.int .i64 6, .string ⟨#[10]⟩, .int .i64 s.size] rfl rfl (World.news_of_block (cs := #[.int .i64 6, .string ⟨#[10]⟩, .int .i64 s.size]) (t := 45) (fr := (0, 0)) (heap_alloc_new w2 _)) (by simp [Value.oneCell'])
                (by omega) (by unfold maxLen; omega) (by omega) (by simp; omega) (w2.heap.size + 1) (by simp) ?_
        intro gg cap2 w3 hown hgrow hat hlt3
        have happ := Rw.appL (t := ⟨6, nlB, s.size⟩) HR2.out (by omega) hgrow hown hat
        have HRN := Lib.hid happ.1
        have hbn := happ.2
        clear hown hgrow hat happ
        go_wp2_with fail
        refine bodyPost_ret (v := .tuple #[.slice (some ⟨gg, 0, none⟩) (tk.length + 1) cap2, u8, .int .i64 0, .int .i64 0]) ?_ rfl ?_
        · simp [results, Tryd.results11, go_sem]
        · rw [HN.out, HCT.out]
          exact ⟨_, _, rfl, HBR.out.trans ((HB2.out.mono hbs).trans hbn), HRN.out.1, HRN.out.2.1⟩
end Go.Proofs.YtaboimjnhocajaaDoor
