import Derived.Test.YtlddbelpbgmljaaDoorMb
import Derived.Test.YtlddbelpbgmljaaDoorMa
import Derived.Test.YtlddbelpbgmljaaDoorRows
import Derived.Lib.LaidTab
import Derived.Lib.IndexMore
namespace Go.Proofs.YtlddbelpbgmljaaDoor
open Go.RowKit
set_option linter.unusedSimpArgs false
set_option linter.unusedVariables false
set_option linter.unusedSectionVars false

/-- Is a name written from the byte i on? -/
def nameG (s : ByteArray) : Nat → Nat → Bool
  | 0, _ => true
  | f + 1, i => if i < s.size then (if !letterI (Utf8.decode s i).1 && (decide (i = 0) || !figureI (Utf8.decode s i).1) then false else nameG s f (i + (Utf8.decode s i).2)) else true
def nameF (s : ByteArray) : Bool := nameG s (s.size + 1) 0 && !s.toList.isEmpty && wordL s.toList == 0

def letterN (n : Nat) : Bool := (n == 95) || (decide (97 ≤ n) && decide (n ≤ 122)) || (decide (65 ≤ n) && decide (n ≤ 90))
def figureN (n : Nat) : Bool := decide (48 ≤ n) && decide (n ≤ 57)
/-- Is s among these? -/
def inB (s : ByteArray) : List ByteArray → Bool
  | [] => false
  | x :: r => x.toList == s.toList || inB s r
theorem inB_iff (s : ByteArray) (L : List ByteArray) : inB s L = decide (s.toList ∈ L.map ByteArray.toList) := by
  induction L with
  | nil => rfl
  | cons x r ih =>
    rw [inB, ih, Bool.eq_iff_iff]
    simp only [Bool.or_eq_true, beq_iff_eq, decide_eq_true_eq, List.map_cons, List.mem_cons]
    exact ⟨fun h => h.imp Eq.symm id, fun h => h.imp Eq.symm id⟩

def w1L : List ByteArray := words1.map fun l => ⟨l.toArray⟩
def w2L : List ByteArray := words2.map fun l => ⟨l.toArray⟩
theorem w1L_map : w1L.map ByteArray.toList = words1 := by kernel_rfl
theorem w2L_map : w2L.map ByteArray.toList = words2 := by kernel_rfl
theorem wordL_in (s : ByteArray) : wordL s.toList = if inB s w1L then 1 else if inB s w2L then 2 else 0 := by
  rw [inB_iff, inB_iff, w1L_map, w2L_map]; simp [wordL]

end Go.Proofs.YtlddbelpbgmljaaDoor
namespace Go.Proofs.YtlddbelpbgmljaaDoor
open Go.RowKit
set_option linter.unusedSimpArgs false
set_option linter.unusedVariables false
set_option linter.unusedSectionVars false

def refG (s : ByteArray) : Nat → Nat → Bool
  | 0, _ => true
  | f + 1, i => if i < s.size then (if !letterN (byteN s i) && !figureN (byteN s i) then false else refG s f (i + 1)) else true
def refNameF (s : ByteArray) : Bool := if s.toList.isEmpty then false else if figureN (byteN s 0) then false else if wordL s.toList = 0 then refG s (s.size + 1) 0 else false

theorem dec_byte (s : ByteArray) (i : Nat) (h : i < s.size) : ((Utf8.decode s i).1 = byteN s i ∧ (Utf8.decode s i).2 = 1 ∧ byteN s i < 128) ∨ (128 ≤ (Utf8.decode s i).1 ∧ 128 ≤ byteN s i) := by
  have := sc_dec s i
  rw [← decode_B s i h] at this
  generalize Utf8.decode s i = d at *
  rcases this with ⟨h1, h2, h3⟩ | ⟨h1, h2, h3⟩ | ⟨h1, h2, h3, h4⟩
  · refine .inl ⟨?_, h1, h2⟩
    split at h3
    · omega
    · omega
  · refine .inr ⟨?_, h2⟩
    split at h3
    · rename_i e; rw [e]; decide
    · omega
  · refine .inr ⟨?_, by have := h4 0 (by omega); simpa using this⟩
    split at h3
    · rename_i e; rw [e]; decide
    · omega

theorem letter_byte (n : Nat) : letterI n = letterN n := by
  unfold letterI letterN; rw [Bool.eq_iff_iff]; simp only [Bool.or_eq_true, Bool.and_eq_true, decide_eq_true_eq, beq_iff_eq]; omega
theorem figure_byte (n : Nat) : figureI n = figureN n := by
  unfold figureI figureN; rw [Bool.eq_iff_iff]; simp only [Bool.or_eq_true, Bool.and_eq_true, decide_eq_true_eq, beq_iff_eq]; omega
theorem letter_big (n : Nat) (h : 128 ≤ n) : letterN n = false := by
  rw [← Bool.not_eq_true]; unfold letterN; simp only [Bool.or_eq_true, Bool.and_eq_true, decide_eq_true_eq, beq_iff_eq]; omega
theorem figure_big (n : Nat) (h : 128 ≤ n) : figureN n = false := by
  rw [← Bool.not_eq_true]; unfold figureN; simp only [Bool.or_eq_true, Bool.and_eq_true, decide_eq_true_eq, beq_iff_eq]; omega

theorem nameG_ref (s : ByteArray) : ∀ (f i : Nat), 0 < i → nameG s f i = refG s f i := by
  intro f
  induction f with
  | zero => intro i _; rfl
  | succ f ih =>
    intro i hi
    rw [nameG, refG]
    by_cases h : i < s.size
    · rw [if_pos h, if_pos h, letter_byte, figure_byte, show decide (i = 0) = false from by simp; omega, Bool.false_or]
      rcases dec_byte s i h with ⟨h1, h2, _⟩ | ⟨h1, h2⟩
      · rw [h1, h2, ih (i + 1) (by omega)]
      · rw [letter_big _ h1, figure_big _ h1, letter_big _ h2, figure_big _ h2]; rfl
    · rw [if_neg h, if_neg h]

theorem empty_iff (s : ByteArray) : s.toList.isEmpty = decide (s.size = 0) := by
  have h : s.toList.length = s.size := by rw [Lib.toList_data]; simp
  rw [Bool.eq_iff_iff, List.isEmpty_iff, decide_eq_true_eq]
  constructor
  · intro e; rw [e] at h; simpa using h.symm
  · intro e; exact List.eq_nil_of_length_eq_zero (h.trans e)

theorem name_eq (s : ByteArray) : nameF s = refNameF s := by
  unfold nameF refNameF
  rw [empty_iff]
  by_cases h0 : s.size = 0
  · simp [h0]
  · have hp : 0 < s.size := by omega
    simp only [h0, decide_false, Bool.not_false, Bool.and_true, Bool.false_eq_true, if_false]
    rw [nameG, refG, if_pos hp, if_pos hp, letter_byte, figure_byte]
    simp only [decide_true, Bool.true_or, Bool.and_true, Nat.zero_add]
    rcases dec_byte s 0 hp with ⟨h1, h2, _⟩ | ⟨h1, h2⟩
    · rw [h1, h2, nameG_ref s _ 1 (by omega)]
      have hx : letterN (byteN s 0) = true → figureN (byteN s 0) = false := by
        intro h
        rw [← Bool.not_eq_true]
        unfold letterN at h
        unfold figureN
        simp only [Bool.or_eq_true, Bool.and_eq_true, decide_eq_true_eq, beq_iff_eq] at *
        omega
      cases hl : letterN (byteN s 0)
      · cases hf : figureN (byteN s 0) <;> by_cases hw : wordL s.toList = 0 <;> simp [hw]
      · rw [hx hl]; by_cases hw : wordL s.toList = 0 <;> simp [hw]
    · rw [letter_big _ h1, letter_big _ h2, figure_big _ h2]
      by_cases hw : wordL s.toList = 0 <;> simp [hw]

theorem byte_at (s : ByteArray) (i : Nat) (h : i < s.size) : s[i].toNat = byteN s i := by
  unfold byteN
  rw [List.getD_eq_getElem?_getD, List.getElem?_eq_getElem (by simpa using h)]
  simp
  rfl

end Go.Proofs.YtlddbelpbgmljaaDoor
namespace Go.Proofs.YtlddbelpbgmljaaDoor
open Go.RowKit
set_option linter.unusedSimpArgs false
set_option linter.unusedVariables false
set_option linter.unusedSectionVars false

/-- AN ARRAY OF TEXTS THAT READS AS THESE HOLDS THEM, CELL FOR CELL. -/
theorem cells_of_texts {H : Type} {enc : TypeId × Value → H} {P : Program} {w : World} {base : Nat} {sp : Nat → Bool} {held : Bool} {fuel : Nat} {t e : TypeId} {n : Nat} {cs : List Value} {zs : List ByteArray} {p : List MemPlace}
    (ht : P.underlying t = some (.array n e)) (he : P.underlying e = some .string) (hce : P.cellsOf e = 1) (hct : P.cellsOf t = n)
    (h : DataW.trod enc P w base sp held fuel t cs = some (.agg (zs.map fun z => .lit (.string z.data.toList)), p)) : cs = zs.map Value.string := by
  cases fuel with
  | zero => simp [DataW.trod] at h
  | succ fuel =>
    simp only [DataW.trod, ht, hce, hct, Nat.mul_one] at h
    split at h
    · rename_i hl
      obtain ⟨xs, hm, hx⟩ := Option.map_eq_some_iff.1 h
      have hxs : xs.map (·.1) = zs.map fun z => (DataW.lit (.string z.data.toList) : DataW H) := by
        have := congrArg Prod.fst hx
        simpa using this
      have hxl : xs.length = n := by simpa using Lib.mapM_length hm
      have hzl : zs.length = n := by
        have := congrArg List.length hxs
        simp at this
        omega
      apply List.ext_getElem?
      intro i
      by_cases hi : i < n
      · obtain ⟨b, hb, hf⟩ := Lib.mapM_at hm i i (by simp [hi])
        obtain ⟨z, hc, rfl, _⟩ := DataW.trod_string he hf
        have h1 : cs[i]? = some (.string z) := by
          have := congrArg (·[0]?) hc
          simpa [List.getElem?_take, List.getElem?_drop] using this
        have h2 : (xs.map (·.1))[i]? = some (DataW.lit (.string z.data.toList) : DataW H) := by simp [hb]
        rw [hxs] at h2
        simp only [List.getElem?_map, Option.map_eq_some_iff, DataW.lit.injEq, Lit.string.injEq] at h2
        obtain ⟨z', hz', hzz⟩ := h2
        have : z' = z := by
          apply ByteArray.ext
          exact Array.toList_inj.1 hzz
        subst this
        simp [h1, hz']
      · rw [List.getElem?_eq_none (by omega), List.getElem?_eq_none (by simp; omega)]
    · cases h

theorem gSigns : Tryd.prog.globalNamed "demotic/token.signs" = some 1 := by kernel_rfl
theorem gSignsT : (Tryd.prog.globals[1]?).map (·.type) = some 94 := by kernel_rfl
theorem cells72 : Tryd.prog.cellsOf 94 = 48 := by kernel_rfl
theorem cells9 : Tryd.prog.cellsOf 9 = 1 := by kernel_rfl
theorem signs_data {H : Type} : (Rows.laid_demotic_token_signs : DataW H) = .agg (signsL.map fun z => .lit (.string z.data.toList)) := by kernel_rfl
theorem signs_cells : signsL.map Value.string = signsV.toList := by kernel_rfl

/-- WHAT THE ROW's LIST GIVES: the table of signs. -/
theorem signs_of {W : World} (h : laidMetH Tryd.prog [("demotic/token.signs", Rows.laid_demotic_token_signs)] W) : SignsAt W := by
  obtain ⟨ps, ⟨g', t', cs, fuel, p, q, hg', ht', hvar, hd, _, _⟩, _⟩ := (show laidMet Tryd.prog [("demotic/token.signs", Rows.laid_demotic_token_signs)] W from h)
  obtain rfl := Option.some.inj (gSigns.symm.trans hg')
  obtain rfl := Option.some.inj (gSignsT.symm.trans ht')
  rw [signs_data] at hd
  have hc := cells_of_texts Tryd.underlying94 Tryd.underlying9 cells9 cells72 hd
  rw [signs_cells] at hc
  unfold World.var? at hvar
  rw [gSigns] at hvar
  simp only [Option.bind_some] at hvar
  split at hvar
  · rename_i c t fr hh
    simp only [Option.some.injEq] at hvar
    refine ⟨t, fr, ?_⟩
    rw [hh]
    subst hvar
    congr 2
    exact Array.toList_inj.1 hc
  · cases hvar

theorem env_of {W : World} (h : laidMetH Tryd.prog [("demotic/token.signs", Rows.laid_demotic_token_signs)] W) (hs : W.ShapedOpen Tryd.prog) : Env W ∧ 2 ≤ W.heap.size := by
  have hm := Tryd.laysM143.s1_3 W hs
  refine ⟨⟨signs_of h, hm⟩, ?_⟩
  obtain ⟨m, hm⟩ := hm
  obtain ⟨t, fr, hh⟩ := signs_of h
  have a : 0 < W.heap.size := World.block_lt_of_cell? _ _ hm
  have b : 1 < W.heap.size := lt_of_block hh
  omega

/-- A WORLD FOR THE WITNESS: the settled one, the table (block 0) holding what its initialiser lays. -/
noncomputable def laidWorld (os : Os) : World :=
  { World.holding Tryd.prog os ⟨#[], #[], []⟩ with heap := (World.holding Tryd.prog os ⟨#[], #[], []⟩).heap.modify 1 fun
      | .cells _ t frozen => .cells signsV t frozen
      | o => o }
theorem laid_met (os : Os) (args : Array Value) : laidMet Tryd.prog [("demotic/token.signs", Rows.laid_demotic_token_signs)] ((laidWorld os).forCall (fun _ _ => 0) ⟨#[], args, []⟩).memory :=
  laidMet_of_run' 8 (by kernel_rfl) (by kernel_rfl)
end Go.Proofs.YtlddbelpbgmljaaDoor
namespace Go.Proofs.YtlddbelpbgmljaaDoor
open Go.RowKit
set_option linter.unusedSimpArgs false
set_option linter.unusedVariables false
set_option linter.unusedSectionVars false

/-- A token is of the kind that its text has. -/
structure KOK (t : Tok) : Prop where
  lo : 1 ≤ t.kind
  hi : t.kind ≤ 6
  name : nameF t.text = (t.kind == 1)
  w1 : (wordL t.text.toList == 1) = (t.kind == 2)
  w2 : (wordL t.text.toList == 2) = (t.kind == 3)
  num : t.kind = 4 → 0 < t.text.size ∧ 48 ≤ byteN t.text 0 ∧ byteN t.text 0 ≤ 57
  txt : t.kind = 5 → 0 < t.text.size ∧ (byteN t.text 0 = 34 ∨ byteN t.text 0 = 96)

theorem kok_nl (at_ : Nat) : KOK ⟨6, nlB, at_⟩ :=
  ⟨(by show (1 : Int) ≤ 6; decide), (by show (6 : Int) ≤ 6; decide), by kernel_rfl, by kernel_rfl, by kernel_rfl, (fun h => absurd h (by show ¬ (6 : Int) = 4; decide)), (fun h => absurd h (by show ¬ (6 : Int) = 5; decide))⟩

theorem kok_end {tk : List Tok} (h : ∀ t ∈ tk, KOK t) (at_ : Nat) : ∀ t ∈ endF tk at_, KOK t := by
  unfold endF
  split
  · split
    · intro t ht
      rcases List.mem_append.1 ht with ht | ht
      · exact h t ht
      · rw [List.mem_singleton.1 ht]; exact kok_nl at_
    · exact h
  · exact h
theorem kok_note {tk : List Tok} (h : ∀ t ∈ tk, KOK t) (s : ByteArray) (at_ : Nat) : ∀ t ∈ noteF tk s at_, KOK t := by
  unfold noteF
  split
  · exact kok_end h at_
  · exact h

/-- Words begin with a small letter. -/
theorem word_head {l : List UInt8} (h : wordL l ≠ 0) : ∃ c r, l = c :: r ∧ 97 ≤ c.toNat ∧ c.toNat ≤ 122 := by
  have h1 : ∀ x ∈ words1 ++ words2, ∃ c r, x = c :: r ∧ 97 ≤ c.toNat ∧ c.toNat ≤ 122 := by
    intro x hx
    have hall : (words1 ++ words2).all (fun x => match x with | c :: _ => decide (97 ≤ c.toNat) && decide (c.toNat ≤ 122) | [] => false) = true := by decide
    have := List.all_eq_true.1 hall x hx
    match x, this with
    | c :: r, h => exact ⟨c, r, rfl, by simp at h; omega, by simp at h; omega⟩
  unfold wordL at h
  by_cases a : l ∈ words1
  · exact h1 l (by simp [a])
  · rw [if_neg a] at h
    by_cases b : l ∈ words2
    · exact h1 l (by simp [b])
    · rw [if_neg b] at h; exact absurd rfl h

theorem byteN_head {s : ByteArray} {c : UInt8} {r : List UInt8} (h : s.toList = c :: r) : byteN s 0 = c.toNat := by
  unfold byteN
  rw [← Lib.toList_data, h]; rfl
theorem word_zero {s : ByteArray} (h : byteN s 0 < 97) : wordL s.toList = 0 := by
  by_cases h0 : wordL s.toList = 0
  · exact h0
  · obtain ⟨c, r, e, h1, h2⟩ := word_head h0
    rw [byteN_head e] at h; omega
theorem name_zero {s : ByteArray} (hp : 0 < s.size) (h : letterN (byteN s 0) = false) : nameF s = false := by
  rw [name_eq]
  unfold refNameF
  rw [empty_iff, show decide (s.size = 0) = false from decide_eq_false (by omega)]
  simp only [Bool.false_eq_true, if_false]
  split
  · rfl
  · rename_i hf
    split
    · rw [refG, if_pos hp, h]; simp [hf]
    · rfl

theorem byteN_ext (s : ByteArray) (a b i : Nat) (h : i < b - a) (hb : b ≤ s.size) : byteN (s.extract a b) i = byteN s (a + i) := by
  unfold byteN
  congr 1
  rw [Lib.extract_data, List.getD_eq_getElem?_getD, List.getD_eq_getElem?_getD, List.getElem?_take, if_pos h, List.getElem?_drop]

theorem kok_num (s : ByteArray) (at_ : Nat) (hp : 0 < s.size) (h1 : 48 ≤ byteN s 0) (h2 : byteN s 0 ≤ 57) : KOK ⟨4, s, at_⟩ := by
  have hw : wordL s.toList = 0 := word_zero (by omega)
  have hn : nameF s = false := name_zero hp (by rw [← Bool.not_eq_true]; unfold letterN; simp only [Bool.or_eq_true, Bool.and_eq_true, decide_eq_true_eq, beq_iff_eq]; omega)
  exact ⟨(by show (1 : Int) ≤ 4; decide), (by show (4 : Int) ≤ 6; decide), hn, (by rw [hw]; rfl), (by rw [hw]; rfl), fun _ => ⟨hp, h1, h2⟩, (fun h => absurd h (by show ¬ (4 : Int) = 5; decide))⟩
theorem kok_txt (s : ByteArray) (at_ : Nat) (hp : 0 < s.size) (h1 : byteN s 0 = 34 ∨ byteN s 0 = 96) : KOK ⟨5, s, at_⟩ := by
  have hw : wordL s.toList = 0 := word_zero (by omega)
  have hn : nameF s = false := name_zero hp (by rw [← Bool.not_eq_true]; unfold letterN; simp only [Bool.or_eq_true, Bool.and_eq_true, decide_eq_true_eq, beq_iff_eq]; omega)
  exact ⟨(by show (1 : Int) ≤ 5; decide), (by show (5 : Int) ≤ 6; decide), hn, (by rw [hw]; rfl), (by rw [hw]; rfl), (fun h => absurd h (by show ¬ (5 : Int) = 4; decide)), fun _ => ⟨hp, h1⟩⟩
theorem kok_sign (s : ByteArray) (at_ : Nat) (h : s ∈ signsL) : KOK ⟨6, s, at_⟩ := by
  have hall : signsL.all (fun x => !nameF x && wordL x.toList == 0) = true := by kernel_rfl
  have := List.all_eq_true.1 hall s h
  simp only [Bool.and_eq_true, Bool.not_eq_true', beq_iff_eq] at this
  exact ⟨(by show (1 : Int) ≤ 6; decide), (by show (6 : Int) ≤ 6; decide), this.1, (by rw [this.2]; rfl), (by rw [this.2]; rfl), (fun h => absurd h (by show ¬ (6 : Int) = 4; decide)), (fun h => absurd h (by show ¬ (6 : Int) = 5; decide))⟩

theorem firstSign_mem (s : ByteArray) (l : List ByteArray) (h : firstSign s l ≠ 0) : s.extract 0 (firstSign s l) ∈ l := by
  induction l with
  | nil => exact absurd rfl h
  | cons x r ih =>
    rw [firstSign] at h ⊢
    split
    · rename_i hp
      simp only [pre, Bool.and_eq_true, decide_eq_true_eq, beq_iff_eq] at hp
      have : s.extract 0 x.size = x := by
        have h2 := hp.2
        rw [Lib.toList_data, Lib.toList_data] at h2
        apply ByteArray.ext
        exact Array.toList_inj.1 h2
      rw [this]; simp
    · rename_i hp
      rw [if_neg hp] at h
      exact List.mem_cons_of_mem _ (ih h)

/-- Ahead of the first sign outside stand letters and figures alone. -/
theorem before_in (s : ByteArray) : ∀ (f i j : Nat), s.size < f + i → i ≤ j → j < beforeF s outsideI f i → j < s.size ∧ (letterN (byteN s j) || figureN (byteN s j)) = true := by
  intro f
  induction f with
  | zero => intro i j h1 h2 h3; rw [beforeF] at h3; omega
  | succ f ih =>
    intro i j h1 h2 h3
    rw [beforeF] at h3
    by_cases hi : i < s.size
    · rw [if_pos hi] at h3
      by_cases ho : outsideI (Utf8.decode s i).1 = true
      · rw [if_pos ho] at h3; omega
      · rw [if_neg ho] at h3
        rcases dec_byte s i hi with ⟨e1, e2, _⟩ | ⟨e1, e2⟩
        · rw [e1] at ho
          rw [e2] at h3
          by_cases hj : j = i
          · subst hj
            refine ⟨hi, ?_⟩
            unfold outsideI at ho
            rw [letter_byte, figure_byte] at ho
            revert ho
            cases letterN (byteN s j) <;> cases figureN (byteN s j) <;> simp
          · exact ih (i + 1) j (by omega) (by omega) h3
        · exfalso
          apply ho
          unfold outsideI
          rw [letter_byte, figure_byte, letter_big _ e1, figure_big _ e1]; rfl
    · rw [if_neg hi] at h3; omega

theorem refG_all (s : ByteArray) : ∀ (f i : Nat), (∀ j, i ≤ j → j < s.size → (letterN (byteN s j) || figureN (byteN s j)) = true) → refG s f i = true := by
  intro f
  induction f with
  | zero => intro i _; rfl
  | succ f ih =>
    intro i h
    rw [refG]
    split
    · rename_i hi
      have := h i (Nat.le_refl _) hi
      rw [if_neg (by revert this; cases letterN (byteN s i) <;> cases figureN (byteN s i) <;> simp)]
      exact ih (i + 1) (fun j hj => h j (by omega))
    · rfl

theorem kok_word (s : ByteArray) (at_ : Nat) (hp : 0 < s.size) (h0 : letterN (byteN s 0) = true) (h : ∀ j, j < s.size → (letterN (byteN s j) || figureN (byteN s j)) = true) : KOK ⟨namedK s.toList, s, at_⟩ := by
  have hf : figureN (byteN s 0) = false := by
    rw [← Bool.not_eq_true]
    unfold letterN at h0
    unfold figureN
    simp only [Bool.or_eq_true, Bool.and_eq_true, decide_eq_true_eq, beq_iff_eq] at *
    omega
  have hn : nameF s = decide (wordL s.toList = 0) := by
    rw [name_eq]
    unfold refNameF
    rw [empty_iff, show decide (s.size = 0) = false from decide_eq_false (by omega), hf, refG_all s _ 0 (fun j _ hj => h j hj)]
    by_cases hw : wordL s.toList = 0 <;> simp [hw]
  rcases wordL_cases s.toList with hw | hw | hw
  · have e : namedK s.toList = 1 := by unfold namedK; rw [hw]; rfl
    rw [hw] at hn
    rw [e]
    exact ⟨(by show (1 : Int) ≤ 1; decide), (by show (1 : Int) ≤ 6; decide), (by rw [hn]; rfl), (by rw [hw]; rfl), (by rw [hw]; rfl), (fun h => absurd h (by show ¬ (1 : Int) = 4; decide)), (fun h => absurd h (by show ¬ (1 : Int) = 5; decide))⟩
  · have e : namedK s.toList = 2 := by unfold namedK; rw [hw]; rfl
    rw [hw] at hn
    rw [e]
    exact ⟨(by show (1 : Int) ≤ 2; decide), (by show (2 : Int) ≤ 6; decide), (by rw [hn]; rfl), (by rw [hw]; rfl), (by rw [hw]; rfl), (fun h => absurd h (by show ¬ (2 : Int) = 4; decide)), (fun h => absurd h (by show ¬ (2 : Int) = 5; decide))⟩
  · have e : namedK s.toList = 3 := by unfold namedK; rw [hw]; rfl
    rw [hw] at hn
    rw [e]
    exact ⟨(by show (1 : Int) ≤ 3; decide), (by show (3 : Int) ≤ 6; decide), (by rw [hn]; rfl), (by rw [hw]; rfl), (by rw [hw]; rfl), (fun h => absurd h (by show ¬ (3 : Int) = 4; decide)), (fun h => absurd h (by show ¬ (3 : Int) = 5; decide))⟩
end Go.Proofs.YtlddbelpbgmljaaDoor
namespace Go.Proofs.YtlddbelpbgmljaaDoor
open Go.RowKit
set_option linter.unusedSimpArgs false
set_option linter.unusedVariables false

theorem tokR_some {src : ByteArray} {tk nt tk' nt' : List Tok} {k : Int} {at_ size n : Nat} (h : tokR src tk nt k at_ size = some (tk', nt', n)) : size ≠ 0 ∧ tk' = tk ++ [⟨k, src.extract at_ (at_ + size), at_⟩] := by
  unfold tokR at h
  split at h
  · cases h
  · rename_i h0; cases h; exact ⟨h0, rfl⟩
theorem noteR_some {src : ByteArray} {tk nt tk' nt' : List Tok} {at_ size n : Nat} (h : noteR src tk nt at_ size = some (tk', nt', n)) : size ≠ 0 ∧ tk' = noteF tk (src.extract at_ (at_ + size)) at_ ∧ nt' = nt ++ [⟨0, src.extract at_ (at_ + size), at_⟩] := by
  unfold noteR at h
  split at h
  · cases h
  · rename_i h0; cases h; exact ⟨h0, rfl, rfl⟩
theorem ext_ext (s : ByteArray) (a n : Nat) (h : a + n ≤ s.size) : (s.extract a s.size).extract 0 n = s.extract a (a + n) := by
  apply ByteArray.ext
  apply Array.toList_inj.1
  rw [Lib.extract_data, Lib.extract_data, Lib.extract_data, List.drop_zero, Nat.sub_zero, List.take_take, show min n (s.size - a) = a + n - a from by omega]
theorem all_snoc {tk : List Tok} {t : Tok} (h : ∀ x ∈ tk, KOK x) (ht : KOK t) : ∀ x ∈ tk ++ [t], KOK x := by
  intro x hx
  rcases List.mem_append.1 hx with hx | hx
  · exact h x hx
  · rw [List.mem_singleton.1 hx]; exact ht
theorem dec_low {s : ByteArray} {i : Nat} (h : i < s.size) (hr : (Utf8.decode s i).1 < 128) : byteN s i = (Utf8.decode s i).1 := by
  rcases dec_byte s i h with ⟨h1, _⟩ | ⟨h1, _⟩ <;> omega

theorem kok_take {src : ByteArray} {tk nt tk' nt' : List Tok} {at_ n : Nat} (ha : at_ < src.size) (hk : ∀ t ∈ tk, KOK t)
    (h : takeF src (src.extract at_ src.size) tk nt at_ ((Utf8.decode src at_).1 : Nat) = some (tk', nt', n)) : ∀ t ∈ tk', KOK t := by
  have hz : (src.extract at_ src.size).size = src.size - at_ := by simp
  have hb : ∀ i, at_ + i < src.size → byteN (src.extract at_ src.size) i = byteN src (at_ + i) := fun i hi => byteN_ext src at_ src.size i (by omega) (Nat.le_refl _)
  have hlow := dec_low ha
  have hb0 := hb 0 (by omega)
  rw [Nat.add_zero] at hb0
  generalize (Utf8.decode src at_).1 = r at h hlow
  have hext : ∀ m, m ≠ 0 → at_ + m ≤ src.size → 0 < (src.extract at_ (at_ + m)).size ∧ byteN (src.extract at_ (at_ + m)) 0 = byteN src at_ := by
    intro m h0 hm
    refine ⟨by simp; omega, ?_⟩
    have := byteN_ext src at_ (at_ + m) 0 (by omega) hm
    simpa using this
  unfold takeF at h
  split at h
  · cases h; exact kok_end hk _
  split at h
  · cases h; exact hk
  split at h
  · rw [(noteR_some h).2.1]; exact kok_note hk _ _
  split at h
  · rw [(noteR_some h).2.1]; exact kok_note hk _ _
  split at h
  · rename_i hl
    obtain ⟨h0, rfl⟩ := tokR_some h
    have hle := beforeF_le (src.extract at_ src.size) outsideI ((src.extract at_ src.size).size + 1) 0
    have hin := before_in (src.extract at_ src.size) ((src.extract at_ src.size).size + 1) 0
    generalize beforeF (src.extract at_ src.size) outsideI ((src.extract at_ src.size).size + 1) 0 = m at *
    rw [ext_ext src at_ m (by omega)]
    obtain ⟨hp, h1⟩ := hext m h0 (by omega)
    have hr : r < 128 := by
      rw [letter_byte] at hl
      by_cases hr : r < 128
      · exact hr
      · rw [letter_big r (by omega)] at hl; cases hl
    refine all_snoc hk (kok_word _ _ hp ?_ ?_)
    · rw [h1, hlow hr, ← letter_byte]; exact hl
    · intro j hj
      have hj2 : j < m := by
        have : (src.extract at_ (at_ + m)).size = m := by simp; omega
        omega
      have := (hin j (by omega) (Nat.zero_le _) hj2).2
      rw [hb j (by omega)] at this
      rw [byteN_ext src at_ (at_ + m) j (by omega) (by omega)]
      exact this
  split at h
  · rename_i hf
    obtain ⟨h0, rfl⟩ := tokR_some h
    have hle := beforeF_le (src.extract at_ src.size) outsideI ((src.extract at_ src.size).size + 1) 0
    generalize beforeF (src.extract at_ src.size) outsideI ((src.extract at_ src.size).size + 1) 0 = m at *
    obtain ⟨hp, h1⟩ := hext m h0 (by omega)
    unfold figureI at hf
    simp only [Bool.and_eq_true, decide_eq_true_eq] at hf
    have h2 := hlow (by omega)
    exact all_snoc hk (kok_num _ _ hp (by omega) (by omega))
  split at h
  · rename_i h34
    obtain ⟨m, hm, hle⟩ := quotedF_nat ((src.extract at_ src.size).extract 1 (src.extract at_ src.size).size) (src.extract at_ src.size).size 0 false
    rw [hm, Int.toNat_natCast] at h
    obtain ⟨h0, rfl⟩ := tokR_some h
    have hs1 : ((src.extract at_ src.size).extract 1 (src.extract at_ src.size).size).size = (src.extract at_ src.size).size - 1 := by simp
    obtain ⟨hp, h1⟩ := hext m h0 (by omega)
    have h2 := hlow (by omega)
    exact all_snoc hk (kok_txt _ _ hp (by omega))
  split at h
  · rename_i h96
    obtain ⟨m, hm, hle⟩ := throughF_nat (src.extract at_ src.size) tick tick (by show 1 ≤ _; omega)
    rw [hm, Int.toNat_natCast] at h
    obtain ⟨h0, rfl⟩ := tokR_some h
    obtain ⟨hp, h1⟩ := hext m h0 (by omega)
    have h2 := hlow (by omega)
    exact all_snoc hk (kok_txt _ _ hp (by omega))
  · obtain ⟨h0, rfl⟩ := tokR_some h
    have hle := firstSign_le (src.extract at_ src.size) signsL
    have hm := firstSign_mem _ _ h0
    generalize firstSign (src.extract at_ src.size) signsL = m at *
    rw [ext_ext src at_ m (by omega)] at hm
    exact all_snoc hk (kok_sign _ _ hm)

theorem kok_all (src : ByteArray) : ∀ (f pos next : Nat) (tk nt : List Tok) (r : List Tok × List Tok), (∀ t ∈ tk, KOK t) → allF src f pos next tk nt = .ok r → ∀ t ∈ r.1, KOK t := by
  intro f
  induction f with
  | zero => intro pos next tk nt r h he; rw [allF] at he; cases he; exact h
  | succ f ih =>
    intro pos next tk nt r h he
    rw [allF] at he
    split at he
    · rename_i hp
      split at he
      · exact ih _ _ _ _ _ h he
      · split at he
        · cases he
        · rename_i hx
          exact ih _ _ _ _ _ (kok_take hp h hx) he
    · cases he; exact kok_end h _

theorem kok_scan {s : ByteArray} {tk nt : List Tok} (h : scanF s = .ok (tk, nt)) : ∀ t ∈ tk, KOK t := by
  unfold scanF at h
  split at h
  · cases h
  split at h
  · cases h
  split at h
  · rename_i r hr
    cases h
    exact kok_all s _ _ _ _ _ _ (by simp) hr
  · cases h
end Go.Proofs.YtlddbelpbgmljaaDoor
namespace Go.Proofs.YtlddbelpbgmljaaDoor
open Go.RowKit
set_option linter.unusedSimpArgs false
set_option linter.unusedVariables false

/-- Where the walk over the signs of s stands after k signs. -/
def walkN (s : ByteArray) : Nat → Nat
  | 0 => 0
  | k + 1 => if walkN s k < s.size then walkN s k + (Utf8.decode s (walkN s k)).2 else walkN s k
/-- A sign begins at p, or s ends there. -/
def On (s : ByteArray) (p : Nat) : Prop := ∃ k, walkN s k = p

theorem walkN_le (s : ByteArray) : ∀ k, walkN s k ≤ s.size
  | 0 => Nat.zero_le _
  | k + 1 => by
    rw [walkN]
    split
    · rename_i h; exact (dec_width s _ h).2
    · exact walkN_le s k
theorem walkN_succ (s : ByteArray) (k : Nat) : walkN s k ≤ walkN s (k + 1) := by
  rw [walkN]; split <;> omega
theorem walkN_mono (s : ByteArray) {i j : Nat} (h : i ≤ j) : walkN s i ≤ walkN s j := by
  induction h with
  | refl => exact Nat.le_refl _
  | step _ ih => exact Nat.le_trans ih (walkN_succ s _)
theorem On.zero (s : ByteArray) : On s 0 := ⟨0, rfl⟩
theorem On.le {s : ByteArray} {p : Nat} (h : On s p) : p ≤ s.size := by obtain ⟨k, rfl⟩ := h; exact walkN_le s k
theorem On.step {s : ByteArray} {p : Nat} (h : On s p) (hp : p < s.size) : On s (p + (Utf8.decode s p).2) := by
  obtain ⟨k, rfl⟩ := h
  exact ⟨k + 1, by rw [walkN, if_pos hp]⟩
theorem On.lin {s : ByteArray} {p n : Nat} (hp : On s p) (hn : On s n) (h : p < n) : p + (Utf8.decode s p).2 ≤ n := by
  obtain ⟨i, rfl⟩ := hp
  obtain ⟨j, rfl⟩ := hn
  have hij : i + 1 ≤ j := by
    by_cases hc : j ≤ i
    · have := walkN_mono s hc; omega
    · omega
  have h1 := walkN_mono s hij
  have h2 := walkN_le s j
  rw [walkN, if_pos (by omega)] at h1
  exact h1
theorem inner_hi (s : ByteArray) (p j : Nat) (hp : p < s.size) (h0 : 0 < j) (hj : j < (Utf8.decode s p).2) : 128 ≤ byteN s (p + j) := by
  rw [signN_dec s p hp] at hj
  rcases sign_cases s p hp with ⟨h, _⟩ | ⟨h, _⟩ | ⟨_, _, _, h⟩
  · omega
  · omega
  · exact h j hj
/-- A sign of one byte stands wherever such a byte stands. -/
theorem on_low {s : ByteArray} {q : Nat} (hq : q < s.size) (hb : byteN s q < 128) : On s q := by
  have H : ∀ m k, q - walkN s k < m → walkN s k ≤ q → On s q := by
    intro m
    induction m with
    | zero => intro k h; omega
    | succ m ih =>
      intro k h1 h2
      by_cases he : walkN s k = q
      · exact ⟨k, he⟩
      · have hw : walkN s (k + 1) = walkN s k + (Utf8.decode s (walkN s k)).2 := by rw [walkN, if_pos (by omega)]
        have hd := dec_width s (walkN s k) (by omega)
        by_cases hle : walkN s (k + 1) ≤ q
        · exact ih (k + 1) (by omega) hle
        · have := inner_hi s (walkN s k) (q - walkN s k) (by omega) (by omega) (by omega)
          rw [show walkN s k + (q - walkN s k) = q from by omega] at this
          omega
  exact H (q + 1) 0 (by simp [walkN]) (Nat.zero_le _)
theorem on_low_next {s : ByteArray} {q : Nat} (hq : q < s.size) (hb : byteN s q < 128) : On s (q + 1) := by
  have h := (on_low hq hb).step hq
  have hd : (Utf8.decode s q).2 = 1 := by
    rcases dec_byte s q hq with ⟨_, h, _⟩ | ⟨_, h⟩
    · exact h
    · omega
  rw [hd] at h
  exact h

theorem byteN_tail (s : ByteArray) (a j : Nat) : byteN (s.extract a s.size) j = byteN s (a + j) := by
  by_cases h : j < s.size - a
  · exact byteN_ext s a s.size j h (Nat.le_refl _)
  · have h1 : (s.extract a s.size).data.toList.length ≤ j := by simp; omega
    have h2 : s.data.toList.length ≤ a + j := by simp; omega
    unfold byteN
    rw [List.getD_eq_getElem?_getD, List.getD_eq_getElem?_getD, List.getElem?_eq_none h1, List.getElem?_eq_none h2]
theorem decode_tail (s : ByteArray) (a i : Nat) (h : a + i < s.size) : Utf8.decode (s.extract a s.size) i = Utf8.decode s (a + i) := by
  rw [decode_B _ i (by simp; omega), decode_B s (a + i) h]
  simp only [byteN_tail]
  rw [show (s.extract a s.size).size - i = s.size - (a + i) from by simp; omega]
  simp only [Nat.add_assoc]

theorem before_on (s : ByteArray) (a : Nat) (q : Int → Bool) : ∀ (f i : Nat), (s.extract a s.size).size < f + i → On s (a + i) → a + i ≤ s.size →
    On s (a + beforeF (s.extract a s.size) q f i) := by
  intro f
  induction f with
  | zero =>
    intro i h1 h2 h3
    have : (s.extract a s.size).size = s.size - a := by simp
    omega
  | succ f ih =>
    intro i h1 h2 h3
    have hz : (s.extract a s.size).size = s.size - a := by simp
    rw [beforeF]
    by_cases hlt : i < (s.extract a s.size).size
    · rw [if_pos hlt, decode_tail s a i (by omega)]
      split
      · exact h2
      · have hs := h2.step (by omega)
        have hw := dec_width s (a + i) (by omega)
        rw [Nat.add_assoc] at hs
        exact ih _ (by omega) hs (by omega)
    · rw [if_neg hlt]
      rw [show a + (s.extract a s.size).size = a + i from by omega]
      exact h2

theorem pre_byte {l p : List UInt8} (h : p.isPrefixOf l = true) : ∀ j, j < p.length → l.getD j 0 = p.getD j 0 := by
  obtain ⟨t, rfl⟩ := List.isPrefixOf_iff_prefix.1 h
  intro j hj
  simp [List.getD_eq_getElem?_getD, List.getElem?_append_left hj]

theorem through_on (s : ByteArray) (a : Nat) (o c : ByteArray) (hc : 0 < c.size) (hl : byteN c (c.size - 1) < 128) (ho : o.size ≤ s.size - a)
    (h0 : (throughF (s.extract a s.size) o c).toNat ≠ 0) : On s (a + (throughF (s.extract a s.size) o c).toNat) := by
  unfold throughF at h0 ⊢
  rcases Lib.index_spec ((s.extract a s.size).data.toList.drop o.size) c.data.toList with ⟨h, _⟩ | ⟨i, h, hi, hocc, _⟩
  · simp only [h] at h0
    rw [if_pos (by decide)] at h0
    exact absurd rfl h0
  · have hroom := Lib.index_room ((s.extract a s.size).data.toList.drop o.size) c.data.toList (by rw [h]; omega)
    simp only [h] at h0 ⊢
    rw [if_neg (by omega)] at h0 ⊢
    rw [h] at hroom
    have hlen : ((s.extract a s.size).data.toList.drop o.size).length = s.size - a - o.size := by simp
    have hcl : c.data.toList.length = c.size := by simp
    rw [hlen, hcl] at hroom
    have hb := pre_byte hocc (c.size - 1) (by omega)
    have hb2 : byteN s (a + (o.size + i + (c.size - 1))) < 128 := by
      rw [← byteN_tail]
      unfold byteN at hl ⊢
      have e : (s.extract a s.size).data.toList.getD (o.size + i + (c.size - 1)) 0 = c.data.toList.getD (c.size - 1) 0 := by
        rw [← hb]
        simp [List.getD_eq_getElem?_getD, List.getElem?_drop, Nat.add_assoc]
      rw [e]; exact hl
    have := on_low_next (by omega) hb2
    rw [show a + ((o.size : Int) + (i : Int) + (c.size : Int)).toNat = a + (o.size + i + (c.size - 1)) + 1 from by omega]
    exact this

theorem quoted_byte (t : ByteArray) : ∀ (f i : Nat) (b : Bool), quotedF t f i b = 0 ∨ ∃ j, j < t.size ∧ byteN t j = 34 ∧ quotedF t f i b = (j : Int) + 2 := by
  intro f
  induction f with
  | zero => intro i b; exact .inl rfl
  | succ f ih =>
    intro i b
    rw [quotedF]
    split
    · rename_i hlt
      split
      · exact .inl rfl
      split
      · exact ih _ _
      split
      · exact ih _ _
      split
      · rename_i h34
        exact .inr ⟨i, hlt, by rw [dec_low hlt (by omega)]; exact h34, rfl⟩
      · exact ih _ _
    · exact .inl rfl

theorem signs_low : ∀ x ∈ signsL, 0 < x.size ∧ byteN x (x.size - 1) < 128 := by decide +kernel

theorem decB_mark {b0 b1 b2 b3 n : Nat} (h0 : b0 < 256) (h1 : b1 < 256) (h2 : b2 < 256) (h3 : b3 < 256) (h : (decB b0 b1 b2 b3 n).1 = 65279) : (decB b0 b1 b2 b3 n).2 = 3 ∧ b0 = 239 ∧ b1 = 187 ∧ b2 = 191 := by
  unfold decB at h ⊢
  by_cases c0 : b0 < 128
  · rw [if_pos c0] at h; simp only at h; omega
  rw [if_neg c0] at h ⊢
  by_cases c1 : 192 ≤ b0 ∧ b0 < 224 ∧ 1 < n ∧ 128 ≤ b1 ∧ b1 < 192
  · rw [if_pos c1] at h
    split at h <;> (simp only at h; omega)
  rw [if_neg c1] at h ⊢
  by_cases c2 : 224 ≤ b0 ∧ b0 < 240 ∧ (1 < n ∧ 128 ≤ b1 ∧ b1 < 192) ∧ (2 < n ∧ 128 ≤ b2 ∧ b2 < 192)
  · rw [if_pos c2] at h ⊢
    split at h
    · rename_i hc
      rw [if_pos hc]
      simp only at h
      refine ⟨rfl, ?_, ?_, ?_⟩ <;> omega
    · simp only at h; omega
  rw [if_neg c2] at h ⊢
  split at h
  · split at h
    · rename_i hc _; simp only at h; omega
    · simp only at h; omega
  · simp only at h; omega
theorem dec_mark {s : ByteArray} {i : Nat} (h : i < s.size) (hr : (Utf8.decode s i).1 = 65279) : (Utf8.decode s i).2 = 3 ∧ byteN s i = 239 ∧ byteN s (i + 1) = 187 ∧ byteN s (i + 2) = 191 := by
  rw [decode_B s i h] at hr ⊢
  exact decB_mark (byteN_lt s i) (byteN_lt s (i + 1)) (byteN_lt s (i + 2)) (byteN_lt s (i + 3)) hr
/-- The mark's three bytes are read as it. -/
theorem mark_dec {s : ByteArray} {i : Nat} (h0 : byteN s i = 239) (h1 : byteN s (i + 1) = 187) (h2 : byteN s (i + 2) = 191) : i + 2 < s.size ∧ Utf8.decode s i = (65279, 3) := by
  have hs : i + 2 < s.size := by
    by_cases hc : i + 2 < s.size
    · exact hc
    · exfalso
      have hl : s.data.toList.length ≤ i + 2 := by simp; omega
      unfold byteN at h2
      rw [List.getD_eq_getElem?_getD, List.getElem?_eq_none hl] at h2
      simp at h2
  refine ⟨hs, ?_⟩
  rw [decode_B s i (by omega), h0, h1, h2]
  unfold decB
  rw [if_neg (by omega), if_neg (by omega), if_pos (by omega), if_pos (by omega)]
end Go.Proofs.YtlddbelpbgmljaaDoor
namespace Go.Proofs.YtlddbelpbgmljaaDoor
open Go.RowKit
set_option linter.unusedSimpArgs false
set_option linter.unusedVariables false

/-- What a step takes is not empty, and a sign begins behind it, or the end is there. -/
theorem takeF_on {src : ByteArray} {tk nt tk' nt' : List Tok} {at_ n : Nat} (ha : at_ < src.size) (hon : On src at_)
    (h : takeF src (src.extract at_ src.size) tk nt at_ ((Utf8.decode src at_).1 : Nat) = some (tk', nt', n)) : n ≠ 0 ∧ On src (at_ + n) := by
  have hz : (src.extract at_ src.size).size = src.size - at_ := by simp
  have hlow : (Utf8.decode src at_).1 < 128 → byteN src at_ = (Utf8.decode src at_).1 ∧ (Utf8.decode src at_).2 = 1 := fun hr => by
    rcases dec_byte src at_ ha with ⟨h1, h2, _⟩ | ⟨h1, _⟩
    · exact ⟨h1.symm, h2⟩
    · omega
  have hbef : ∀ q, On src (at_ + beforeF (src.extract at_ src.size) q ((src.extract at_ src.size).size + 1) 0) := fun q => before_on src at_ q _ 0 (by omega) hon (by omega)
  have hstep := hon.step ha
  unfold takeF at h
  split at h
  · rename_i h10
    cases h
    rw [(hlow (by omega)).2] at hstep
    exact ⟨by omega, hstep⟩
  split at h
  · rename_i hbl
    cases h
    have hr : (Utf8.decode src at_).1 = 32 ∨ (Utf8.decode src at_).1 = 9 ∨ (Utf8.decode src at_).1 = 13 ∨ (Utf8.decode src at_).1 = 65279 := by
      simp only [blankI, Bool.or_eq_true, beq_iff_eq] at hbl; omega
    unfold blankN
    by_cases hm : (Utf8.decode src at_).1 = 65279
    · rw [if_pos (by omega)]
      rw [(dec_mark ha hm).1] at hstep
      exact ⟨by decide, hstep⟩
    · rw [if_neg (by omega)]
      rw [(hlow (by omega)).2] at hstep
      exact ⟨by decide, hstep⟩
  split at h
  · unfold noteR at h
    split at h
    · cases h
    · rename_i hn; cases h; exact ⟨hn, hbef _⟩
  split at h
  · rename_i hp
    have ho : slashStar.size ≤ (src.extract at_ src.size).size := by simp [pre] at hp; simpa using hp.1
    unfold noteR at h
    split at h
    · cases h
    · rename_i hn; cases h
      exact ⟨hn, through_on src at_ slashStar starSlash (by decide) (by decide) (by omega) hn⟩
  split at h
  · unfold tokR at h
    split at h
    · cases h
    · rename_i hn; cases h; exact ⟨hn, hbef _⟩
  split at h
  · unfold tokR at h
    split at h
    · cases h
    · rename_i hn; cases h; exact ⟨hn, hbef _⟩
  split at h
  · unfold tokR at h
    split at h
    · cases h
    · rename_i hn; cases h
      refine ⟨hn, ?_⟩
      rcases quoted_byte ((src.extract at_ src.size).extract 1 (src.extract at_ src.size).size) (src.extract at_ src.size).size 0 false with h0 | ⟨j, hj, h34, he⟩
      · rw [h0] at hn; simp at hn
      · rw [he]
        rw [byteN_tail, byteN_tail] at h34
        have hj2 : j < src.size - at_ - 1 := by simpa using hj
        have := on_low_next (s := src) (q := at_ + (1 + j)) (by omega) (by omega)
        rw [show at_ + ((j : Int) + 2).toNat = at_ + (1 + j) + 1 from by omega]
        exact this
  split at h
  · unfold tokR at h
    split at h
    · cases h
    · rename_i hn; cases h
      exact ⟨hn, through_on src at_ tick tick (by decide) (by decide) (by show 1 ≤ _; omega) hn⟩
  · unfold tokR at h
    split at h
    · cases h
    · rename_i hn; cases h
      refine ⟨hn, ?_⟩
      have hle := firstSign_le (src.extract at_ src.size) signsL
      have hm := firstSign_mem _ _ hn
      generalize firstSign (src.extract at_ src.size) signsL = m at *
      rw [ext_ext src at_ m (by omega)] at hm
      obtain ⟨h1, h2⟩ := signs_low _ hm
      have hsz : (src.extract at_ (at_ + m)).size = m := by simp; omega
      rw [hsz, byteN_ext src at_ (at_ + m) (m - 1) (by omega) (by omega)] at h2
      have := on_low_next (s := src) (q := at_ + (m - 1)) (by omega) h2
      rw [show at_ + (m - 1) + 1 = at_ + m from by omega] at this
      exact this

/-- The scanner again, from token to token. -/
def cleanF (src : ByteArray) : Nat → Nat → List Tok → List Tok → Except Nat (List Tok × List Tok)
  | 0, _, tk, nt => .ok (tk, nt)
  | f + 1, at_, tk, nt => if at_ < src.size then
      (match takeF src (src.extract at_ src.size) tk nt at_ ((Utf8.decode src at_).1 : Nat) with
        | none => .error at_
        | some (tk', nt', m) => cleanF src f (at_ + m) tk' nt')
    else .ok (endF tk src.size, nt)

theorem all_clean (src : ByteArray) : ∀ (f g pos next : Nat) (tk nt : List Tok), On src pos → On src next → pos ≤ next → src.size < f + pos → src.size < g + next →
    allF src f pos next tk nt = cleanF src g next tk nt := by
  intro f
  induction f with
  | zero => intro g pos next tk nt h1; have := h1.le; omega
  | succ f ih =>
    intro g pos next tk nt h1 h2 h3 h4 h5
    obtain ⟨g, rfl⟩ : ∃ k, g = k + 1 := ⟨g - 1, by have := h2.le; omega⟩
    rw [allF]
    by_cases hlt : pos < src.size
    · rw [if_pos hlt]
      by_cases hn : pos < next
      · rw [if_pos hn]
        have := h1.lin h2 hn
        have hd := dec_width src pos hlt
        exact ih _ _ _ _ _ (h1.step hlt) h2 this (by omega) h5
      · obtain rfl : pos = next := by omega
        rw [if_neg hn, cleanF, if_pos hlt]
        have ht := fun tk' nt' n => takeF_on (tk := tk) (nt := nt) (tk' := tk') (nt' := nt') (n := n) hlt h1
        cases hT : takeF src (src.extract pos src.size) tk nt pos ((Utf8.decode src pos).1 : Nat) with
        | none => rfl
        | some r =>
          obtain ⟨tk', nt', m⟩ := r
          obtain ⟨hm, hon⟩ := ht _ _ _ hT
          have := h1.lin hon (by omega)
          have hd := dec_width src pos hlt
          exact ih _ _ _ _ _ (h1.step hlt) hon this (by omega) (by omega)
    · rw [if_neg hlt]
      have e1 := h1.le
      have e2 := h2.le
      obtain rfl : pos = src.size := by omega
      obtain rfl : next = src.size := by omega
      rw [cleanF, if_neg hlt]

theorem all_clean0 (src : ByteArray) : allF src (src.size + 1) 0 0 [] [] = cleanF src (src.size + 1) 0 [] [] :=
  all_clean src _ _ _ _ _ _ (On.zero _) (On.zero _) (Nat.le_refl _) (by omega) (by omega)
end Go.Proofs.YtlddbelpbgmljaaDoor
namespace Go.Proofs.YtlddbelpbgmljaaDoor
open Go.RowKit
set_option linter.unusedSimpArgs false
set_option linter.unusedVariables false

/-- No semicolon that was put in. -/
def Real (t : Tok) : Prop := ¬(t.kind = 6 ∧ t.text.toList = ([10] : List UInt8))
/-- It stands in src, and ends at most at cur. -/
def Stand (src : ByteArray) (cur : Nat) (t : Tok) : Prop := ∃ a : Nat, t.at_ = (a : Int) ∧ 0 < t.text.size ∧ a + t.text.size ≤ cur ∧ t.text = src.extract a (a + t.text.size)
/-- One ends ahead of the other. -/
def Ahead (t u : Tok) : Prop := t.at_ + (t.text.size : Int) ≤ u.at_
/-- A byte that may stand between tokens. -/
def Blk (src : ByteArray) (k : Nat) : Prop := byteN src k = 32 ∨ byteN src k = 9 ∨ byteN src k = 13 ∨ byteN src k = 10 ∨ (k < 3 ∧ 3 ≤ src.size ∧ byteN src 0 = 239)
def Cov (t : Tok) (k : Nat) : Prop := Real t ∧ t.at_ ≤ (k : Int) ∧ (k : Int) < t.at_ + (t.text.size : Int)

structure SOK (src : ByteArray) (cur : Nat) (tk nt : List Tok) : Prop where
  tks : ∀ t ∈ tk, (∃ a : Nat, t.at_ = (a : Int) ∧ a ≤ cur) ∧ (Real t → Stand src cur t)
  nts : ∀ t ∈ nt, Real t ∧ Stand src cur t
  order : tk.Pairwise fun t u => Real t → Ahead t u
  norder : nt.Pairwise Ahead
  apart : ∀ t ∈ tk, Real t → ∀ u ∈ nt, Ahead t u ∨ Ahead u t
  cover : ∀ k, k < cur → Blk src k ∨ (∃ t ∈ tk, Cov t k) ∨ (∃ t ∈ nt, Cov t k)

theorem Stand.mono {src : ByteArray} {a b : Nat} {t : Tok} (h : Stand src a t) (hab : a ≤ b) : Stand src b t := by
  obtain ⟨k, h1, h2, h3, h4⟩ := h
  exact ⟨k, h1, h2, by omega, h4⟩
theorem Stand.ahead {src : ByteArray} {a : Nat} {t u : Tok} (h : Stand src a t) {n : Nat} (hu : u.at_ = (n : Int)) (han : a ≤ n) : Ahead t u := by
  obtain ⟨k, h1, h2, h3, h4⟩ := h
  unfold Ahead
  rw [h1, hu]; omega

theorem sok_nil (src : ByteArray) : SOK src 0 [] [] :=
  ⟨by simp, by simp, List.Pairwise.nil, List.Pairwise.nil, by simp, by intro k h; omega⟩

/-- Going on over blanks. -/
theorem SOK.skip {src : ByteArray} {cur m : Nat} {tk nt : List Tok} (h : SOK src cur tk nt) (hb : ∀ k, cur ≤ k → k < cur + m → Blk src k) : SOK src (cur + m) tk nt where
  tks t ht := by
    obtain ⟨⟨a, h1, h2⟩, h3⟩ := h.tks t ht
    exact ⟨⟨a, h1, by omega⟩, fun hr => (h3 hr).mono (by omega)⟩
  nts t ht := ⟨(h.nts t ht).1, (h.nts t ht).2.mono (by omega)⟩
  order := h.order
  norder := h.norder
  apart := h.apart
  cover k hk := by
    by_cases hc : k < cur
    · exact h.cover k hc
    · exact .inl (hb k (by omega) hk)

theorem nl_list : nlB.toList = ([10] : List UInt8) := by kernel_rfl
/-- A semicolon is put in. -/
theorem SOK.nl {src : ByteArray} {cur : Nat} {tk nt : List Tok} (h : SOK src cur tk nt) : SOK src cur (tk ++ [⟨6, nlB, (cur : Nat)⟩]) nt where
  tks t ht := by
    rcases List.mem_append.1 ht with ht | ht
    · exact h.tks t ht
    · rw [List.mem_singleton.1 ht]
      exact ⟨⟨cur, rfl, Nat.le_refl _⟩, fun hr => absurd ⟨rfl, nl_list⟩ hr⟩
  nts := h.nts
  order := by
    rw [List.pairwise_append]
    refine ⟨h.order, by simp, fun t ht u hu hr => ?_⟩
    rw [List.mem_singleton.1 hu]
    exact ((h.tks t ht).2 hr).ahead rfl (Nat.le_refl _)
  norder := h.norder
  apart t ht hr u hu := by
    rcases List.mem_append.1 ht with ht | ht
    · exact h.apart t ht hr u hu
    · rw [List.mem_singleton.1 ht] at hr
      exact absurd ⟨rfl, nl_list⟩ hr
  cover k hk := by
    rcases h.cover k hk with h1 | ⟨t, h1, h2⟩ | h1
    · exact .inl h1
    · exact .inr (.inl ⟨t, List.mem_append.2 (.inl h1), h2⟩)
    · exact .inr (.inr h1)
theorem SOK.endF {src : ByteArray} {cur : Nat} {tk nt : List Tok} (h : SOK src cur tk nt) : SOK src cur (endF tk cur) nt := by
  unfold Go.Proofs.YtlddbelpbgmljaaDoor.endF
  split
  · split
    · exact h.nl
    · exact h
  · exact h

theorem ext_size {src : ByteArray} {a n : Nat} (h : a + n ≤ src.size) : (src.extract a (a + n)).size = n := by simp; omega

/-- A token more. -/
theorem SOK.tok {src : ByteArray} {cur n : Nat} {k : Int} {tk nt : List Tok} (h : SOK src cur tk nt) (hn : n ≠ 0) (hs : cur + n ≤ src.size) (h10 : byteN src cur ≠ 10) :
    SOK src (cur + n) (tk ++ [⟨k, src.extract cur (cur + n), (cur : Nat)⟩]) nt := by
  have hz := ext_size hs
  have hst : Stand src (cur + n) ⟨k, src.extract cur (cur + n), (cur : Nat)⟩ := ⟨cur, rfl, by simp only [hz]; omega, by simp only [hz]; omega, by simp only [hz]⟩
  have hre : Real ⟨k, src.extract cur (cur + n), (cur : Nat)⟩ := by
    rintro ⟨_, h2⟩
    have e : byteN (src.extract cur (cur + n)) 0 = 10 := byteN_head h2
    rw [byteN_ext src cur (cur + n) 0 (by omega) hs] at e
    exact h10 e
  refine ⟨fun t ht => ?_, fun t ht => ⟨(h.nts t ht).1, (h.nts t ht).2.mono (by omega)⟩, ?_, h.norder, fun t ht hr u hu => ?_, fun j hj => ?_⟩
  · rcases List.mem_append.1 ht with ht | ht
    · obtain ⟨⟨a, h1, h2⟩, h3⟩ := h.tks t ht
      exact ⟨⟨a, h1, by omega⟩, fun hr => (h3 hr).mono (by omega)⟩
    · rw [List.mem_singleton.1 ht]
      exact ⟨⟨cur, rfl, by omega⟩, fun _ => hst⟩
  · rw [List.pairwise_append]
    refine ⟨h.order, by simp, fun t ht u hu hr => ?_⟩
    rw [List.mem_singleton.1 hu]
    exact ((h.tks t ht).2 hr).ahead rfl (Nat.le_refl _)
  · rcases List.mem_append.1 ht with ht | ht
    · exact h.apart t ht hr u hu
    · rw [List.mem_singleton.1 ht]
      exact .inr ((h.nts u hu).2.ahead rfl (Nat.le_refl _))
  · by_cases hc : j < cur
    · rcases h.cover j hc with h1 | ⟨t, h1, h2⟩ | h1
      · exact .inl h1
      · exact .inr (.inl ⟨t, List.mem_append.2 (.inl h1), h2⟩)
      · exact .inr (.inr h1)
    · exact .inr (.inl ⟨_, List.mem_append.2 (.inr (List.mem_singleton.2 rfl)), hre, by simp only; omega, by simp only [hz]; omega⟩)
/-- A note more. -/
theorem SOK.note {src : ByteArray} {cur n : Nat} {tk nt : List Tok} (h : SOK src cur tk nt) (hn : n ≠ 0) (hs : cur + n ≤ src.size) :
    SOK src (cur + n) tk (nt ++ [⟨0, src.extract cur (cur + n), (cur : Nat)⟩]) := by
  have hz := ext_size hs
  have hst : Stand src (cur + n) ⟨0, src.extract cur (cur + n), (cur : Nat)⟩ := ⟨cur, rfl, by simp only [hz]; omega, by simp only [hz]; omega, by simp only [hz]⟩
  have hre : Real ⟨0, src.extract cur (cur + n), (cur : Nat)⟩ := by rintro ⟨h1, _⟩; simp at h1
  refine ⟨fun t ht => ?_, fun t ht => ?_, h.order, ?_, fun t ht hr u hu => ?_, fun j hj => ?_⟩
  · obtain ⟨⟨a, h1, h2⟩, h3⟩ := h.tks t ht
    exact ⟨⟨a, h1, by omega⟩, fun hr => (h3 hr).mono (by omega)⟩
  · rcases List.mem_append.1 ht with ht | ht
    · exact ⟨(h.nts t ht).1, (h.nts t ht).2.mono (by omega)⟩
    · rw [List.mem_singleton.1 ht]
      exact ⟨hre, hst⟩
  · rw [List.pairwise_append]
    refine ⟨h.norder, by simp, fun t ht u hu => ?_⟩
    rw [List.mem_singleton.1 hu]
    exact (h.nts t ht).2.ahead rfl (Nat.le_refl _)
  · rcases List.mem_append.1 hu with hu | hu
    · exact h.apart t ht hr u hu
    · rw [List.mem_singleton.1 hu]
      exact .inl (((h.tks t ht).2 hr).ahead rfl (Nat.le_refl _))
  · by_cases hc : j < cur
    · rcases h.cover j hc with h1 | h1 | ⟨t, h1, h2⟩
      · exact .inl h1
      · exact .inr (.inl h1)
      · exact .inr (.inr ⟨t, List.mem_append.2 (.inl h1), h2⟩)
    · exact .inr (.inr ⟨_, List.mem_append.2 (.inr (List.mem_singleton.2 rfl)), hre, by simp only; omega, by simp only [hz]; omega⟩)

theorem sok_note {src : ByteArray} {tk nt tk' nt' : List Tok} {at_ size n : Nat} (h : SOK src at_ tk nt) (hon : at_ + n ≤ src.size) (he : noteR src tk nt at_ size = some (tk', nt', n)) : SOK src (at_ + n) tk' nt' := by
  unfold noteR at he
  split at he
  · cases he
  · rename_i h0
    cases he
    refine SOK.note ?_ h0 hon
    unfold noteF
    split
    · exact h.endF
    · exact h
theorem sok_tok {src : ByteArray} {tk nt tk' nt' : List Tok} {k : Int} {at_ size n : Nat} (h : SOK src at_ tk nt) (hon : at_ + n ≤ src.size) (h10 : byteN src at_ ≠ 10) (he : tokR src tk nt k at_ size = some (tk', nt', n)) : SOK src (at_ + n) tk' nt' := by
  unfold tokR at he
  split at he
  · cases he
  · rename_i h0
    cases he
    exact h.tok h0 hon h10

theorem sok_take {src : ByteArray} {tk nt tk' nt' : List Tok} {at_ n : Nat} (ha : at_ < src.size) (hon : On src at_) (hv : badAt src at_ (Utf8.decode src at_).1 = false) (hk : SOK src at_ tk nt)
    (h : takeF src (src.extract at_ src.size) tk nt at_ ((Utf8.decode src at_).1 : Nat) = some (tk', nt', n)) : SOK src (at_ + n) tk' nt' := by
  have hend := (takeF_on ha hon h).2.le
  have hlow : (Utf8.decode src at_).1 < 128 → byteN src at_ = (Utf8.decode src at_).1 ∧ (Utf8.decode src at_).2 = 1 := fun hr => by
    rcases dec_byte src at_ ha with ⟨h1, h2, _⟩ | ⟨h1, _⟩
    · exact ⟨h1.symm, h2⟩
    · omega
  have h10 : ((Utf8.decode src at_).1 : Int) ≠ 10 → byteN src at_ ≠ 10 := by
    intro hne he
    rcases dec_byte src at_ ha with ⟨h1, h2, _⟩ | ⟨h1, h2⟩
    · omega
    · omega
  unfold takeF at h
  split at h
  · rename_i hr
    cases h
    refine hk.endF.skip fun k h1 h2 => ?_
    obtain rfl : k = at_ := by omega
    exact .inr (.inr (.inr (.inl (by rw [(hlow (by omega)).1]; omega))))
  rename_i hne
  split at h
  · rename_i hbl
    cases h
    have hr : (Utf8.decode src at_).1 = 32 ∨ (Utf8.decode src at_).1 = 9 ∨ (Utf8.decode src at_).1 = 13 ∨ (Utf8.decode src at_).1 = 65279 := by
      simp only [blankI, Bool.or_eq_true, beq_iff_eq] at hbl; omega
    unfold blankN at hend ⊢
    by_cases hm : (Utf8.decode src at_).1 = 65279
    · rw [if_pos (by omega)] at hend ⊢
      have hz : at_ = 0 := by
        unfold badAt at hv
        simp only [Bool.or_eq_false_iff, Bool.and_eq_false_imp, beq_iff_eq, decide_eq_false_iff_not] at hv
        have := hv.1.2 (by omega)
        omega
      subst hz
      have hb := (dec_mark ha hm).2.1
      have hend' : 3 ≤ src.size := by simpa using hend
      refine hk.skip fun k h1 h2 => ?_
      have h2' : k < 3 := by simpa using h2
      exact .inr (.inr (.inr (.inr ⟨h2', hend', hb⟩)))
    · rw [if_neg (by omega)] at hend ⊢
      refine hk.skip fun k h1 h2 => ?_
      have h2' : k < at_ + 1 := by simpa using h2
      obtain rfl : k = at_ := by omega
      have hb := (hlow (by omega)).1
      unfold Blk
      omega
  split at h
  · exact sok_note hk hend h
  split at h
  · exact sok_note hk hend h
  split at h
  · exact sok_tok hk hend (h10 hne) h
  split at h
  · exact sok_tok hk hend (h10 hne) h
  split at h
  · exact sok_tok hk hend (h10 hne) h
  split at h
  · exact sok_tok hk hend (h10 hne) h
  · exact sok_tok hk hend (h10 hne) h

/-- No sign is wrong. -/
def Valid (s : ByteArray) : Prop := ∀ p, On s p → p < s.size → badAt s p (Utf8.decode s p).1 = false
theorem valid_each (s : ByteArray) : ∀ (f l c k : Nat), s.size < f + walkN s k → eachF s (wrongStep s) f (-1) (walkN s k) l c < 0 → ∀ j, k ≤ j → walkN s j < s.size → badAt s (walkN s j) (Utf8.decode s (walkN s j)).1 = false := by
  intro f
  induction f with
  | zero => intro l c k h1; have := walkN_le s k; omega
  | succ f ih =>
    intro l c k h1 h2 j hkj hj
    have hm := walkN_mono s hkj
    have hlt : walkN s k < s.size := by omega
    have hd := dec_width s _ hlt
    have hw : walkN s (k + 1) = walkN s k + (Utf8.decode s (walkN s k)).2 := by rw [walkN, if_pos hlt]
    by_cases hbad : badAt s (walkN s k) (Utf8.decode s (walkN s k)).1 = true
    · rw [eachF_stop hlt (st2 := ((walkN s k : Nat) : Int)) (by simp [wrongStep, hbad])] at h2
      omega
    · have hbad' : badAt s (walkN s k) (Utf8.decode s (walkN s k)).1 = false := by simpa using hbad
      rw [eachF_go hlt (st2 := (-1 : Int)) (by simp [wrongStep, hbad']), ← hw] at h2
      by_cases he : j = k
      · subst he; exact hbad'
      · exact ih _ _ (k + 1) (by omega) h2 j (by omega) hj
theorem valid_of {s : ByteArray} (h : ¬ 0 ≤ wrongF s) : Valid s := by
  rintro p ⟨j, rfl⟩ hp
  exact valid_each s (s.size + 1) 1 1 0 (by omega) (by unfold wrongF at h; simp only [walkN]; omega) j (Nat.zero_le _) hp

theorem sok_clean (src : ByteArray) (hv : Valid src) : ∀ (f at_ : Nat) (tk nt : List Tok) (r : List Tok × List Tok), On src at_ → src.size < f + at_ → SOK src at_ tk nt → cleanF src f at_ tk nt = .ok r → SOK src src.size r.1 r.2 := by
  intro f
  induction f with
  | zero => intro at_ tk nt r h1; have := h1.le; omega
  | succ f ih =>
    intro at_ tk nt r h1 h2 h3 h
    rw [cleanF] at h
    by_cases hlt : at_ < src.size
    · rw [if_pos hlt] at h
      cases hT : takeF src (src.extract at_ src.size) tk nt at_ ((Utf8.decode src at_).1 : Nat) with
      | none => rw [hT] at h; cases h
      | some x =>
        obtain ⟨tk', nt', m⟩ := x
        rw [hT] at h
        obtain ⟨hm, hon⟩ := takeF_on hlt h1 hT
        exact ih _ _ _ _ hon (by omega) (sok_take hlt h1 (hv _ h1 hlt) h3 hT) h
    · rw [if_neg hlt] at h
      cases h
      have := h1.le
      obtain rfl : at_ = src.size := by omega
      exact h3.endF
theorem sok_scan {s : ByteArray} {tk nt : List Tok} (h : scanF s = .ok (tk, nt)) : SOK s s.size tk nt := by
  unfold scanF at h
  split at h
  · cases h
  split at h
  · cases h
  · rename_i hw
    rw [all_clean0] at h
    cases hc : cleanF s (s.size + 1) 0 [] [] with
    | error k => rw [hc] at h; cases h
    | ok r =>
      rw [hc] at h
      cases h
      exact sok_clean s (valid_of hw) _ _ _ _ _ (On.zero s) (by omega) (sok_nil s) hc
end Go.Proofs.YtlddbelpbgmljaaDoor
namespace Go.Proofs.YtlddbelpbgmljaaDoor
open Go.RowKit
set_option linter.unusedSimpArgs false
set_option linter.unusedVariables false

/-- The first line's end from k on, or the end. -/
def nlAt (s : ByteArray) : Nat → Nat → Nat
  | 0, k => k
  | f + 1, k => if k < s.size then (if byteN s k = 10 then k else nlAt s f (k + 1)) else k
/-- The end of a note of that kind. -/
def starAt (s : ByteArray) : Nat → Nat → Int
  | 0, _ => -1
  | f + 1, k => if k + 4 ≤ s.size then (if byteN s (k + 2) = 42 then (if byteN s (k + 3) = 47 then (k : Int) + 4 else starAt s f (k + 1)) else starAt s f (k + 1)) else -1
def refNoteF (s : ByteArray) (at_ : Nat) : Int :=
  if s.size < at_ + 2 then 0
  else if byteN s at_ = 47 then
    (if byteN s (at_ + 1) = 47 then ((nlAt s (s.size + 1) at_ : Nat) : Int)
     else if byteN s (at_ + 1) = 42 then starAt s (s.size + 1) at_ else 0)
  else 0

/-- The end of a text, from k on; q: the byte that it began with. -/
def refQuotedF (s : ByteArray) (q : Nat) : Nat → Nat → Int
  | 0, _ => -1
  | f + 1, k => if k < s.size then
      (if q = 34 ∧ byteN s k = 10 then -1
       else if byteN s k = q then (k : Int) + 1
       else if q = 34 ∧ byteN s k = 92 then (if k + 1 < s.size ∧ byteN s (k + 1) = 10 then -1 else refQuotedF s q f (k + 2))
       else refQuotedF s q f (k + 1))
    else -1

end Go.Proofs.YtlddbelpbgmljaaDoor
namespace Go.Proofs.YtlddbelpbgmljaaDoor
open Go.RowKit
set_option linter.unusedSimpArgs false
set_option linter.unusedVariables false

def sg3 : List ByteArray := signsL.take 4
def sg2 : List ByteArray := (signsL.drop 4).take 21
def sg1 : List ByteArray := signsL.drop 25
theorem sg_all : signsL = sg3 ++ (sg2 ++ sg1) := by kernel_rfl
def refSignF (s : ByteArray) (a : Nat) : Nat :=
  if a + 3 ≤ s.size ∧ inB (s.extract a (a + 3)) sg3 = true then 3
  else if a + 2 ≤ s.size ∧ inB (s.extract a (a + 2)) sg2 = true then 2
  else if inB (s.extract a (a + 1)) sg1 then 1 else 0

theorem ext_self (x : ByteArray) : x.extract 0 x.size = x := by
  apply ByteArray.ext
  apply Array.toList_inj.1
  rw [Lib.extract_data]
  exact List.take_of_length_le (by simp)
theorem pre_iff {s p : ByteArray} : pre s p = true ↔ p.size ≤ s.size ∧ s.extract 0 p.size = p := by
  unfold pre
  rw [Bool.and_eq_true, decide_eq_true_eq, beq_iff_eq]
  refine ⟨fun ⟨h1, h2⟩ => ⟨h1, ?_⟩, fun ⟨h1, h2⟩ => ⟨h1, by rw [h2]⟩⟩
  rw [ofL h2]
  apply ByteArray.ext
  apply Array.toList_inj.1
  simp [Lib.toList_data]
theorem firstSign_app {l r : List ByteArray} (s : ByteArray) (h : ∀ x ∈ l, 0 < x.size) : firstSign s (l ++ r) = if firstSign s l = 0 then firstSign s r else firstSign s l := by
  induction l with
  | nil => rfl
  | cons x l ih =>
    rw [List.cons_append, firstSign, firstSign, ih (fun y hy => h y (List.mem_cons_of_mem _ hy))]
    have := h x (List.mem_cons_self ..)
    by_cases hp : pre s x = true
    · rw [if_pos hp, if_pos hp, if_neg (by omega)]
    · rw [if_neg hp, if_neg hp]
theorem firstSign_of {l : List ByteArray} (s : ByteArray) (n : Nat) (h : ∀ x ∈ l, x.size = n) : firstSign s l = if n ≤ s.size ∧ inB (s.extract 0 n) l = true then n else 0 := by
  induction l with
  | nil => simp [firstSign, inB]
  | cons x l ih =>
    have hx := h x (List.mem_cons_self ..)
    rw [firstSign, ih (fun y hy => h y (List.mem_cons_of_mem _ hy)), inB]
    by_cases hp : pre s x = true
    · rw [if_pos hp]
      obtain ⟨h1, h2⟩ := pre_iff.1 hp
      rw [hx] at h1 h2
      rw [if_pos ⟨h1, by rw [h2]; simp⟩, hx]
    · rw [if_neg hp]
      have hne : n ≤ s.size → (x.toList == (s.extract 0 n).toList) = false := by
        intro hn
        simp only [beq_eq_false_iff_ne, ne_eq]
        intro e
        apply hp
        rw [pre_yes (by rw [hx]; exact hn), hx, ← e]
        simp
      by_cases hn : n ≤ s.size
      · simp only [hn, true_and, hne hn, Bool.false_or]
      · simp only [hn, false_and, if_false]
theorem sg3_size : ∀ x ∈ sg3, x.size = 3 := by decide +kernel
theorem sg2_size : ∀ x ∈ sg2, x.size = 2 := by decide +kernel
theorem sg1_size : ∀ x ∈ sg1, x.size = 1 := by decide +kernel
theorem refSign_first (s : ByteArray) (a : Nat) (h : a < s.size) : refSignF s a = firstSign (s.extract a s.size) signsL := by
  have hz : (s.extract a s.size).size = s.size - a := by simp
  rw [sg_all, firstSign_app _ (fun x hx => by rw [sg3_size x hx]; omega), firstSign_app _ (fun x hx => by rw [sg2_size x hx]; omega),
    firstSign_of _ 3 sg3_size, firstSign_of _ 2 sg2_size, firstSign_of _ 1 sg1_size, hz]
  unfold refSignF
  have e : ∀ n, a + n ≤ s.size → (s.extract a s.size).extract 0 n = s.extract a (a + n) := by
    intro n hn
    apply ByteArray.ext
    apply Array.toList_inj.1
    rw [Lib.extract_data, Lib.extract_data, Lib.extract_data]
    simp [List.take_take, List.drop_take]
  by_cases h3 : a + 3 ≤ s.size
  · rw [e 3 h3, e 2 (by omega), e 1 (by omega)]
    have e3 : 3 ≤ s.size - a := by omega
    have e2 : 2 ≤ s.size - a := by omega
    have e1 : 1 ≤ s.size - a := by omega
    have h2 : a + 2 ≤ s.size := by omega
    simp only [h3, h2, e3, e2, e1, true_and]
    repeat' split
    all_goals first | rfl | omega
  · have e3 : ¬ 3 ≤ s.size - a := by omega
    by_cases h2 : a + 2 ≤ s.size
    · rw [e 2 (by omega), e 1 (by omega)]
      have e2 : 2 ≤ s.size - a := by omega
      have e1 : 1 ≤ s.size - a := by omega
      simp only [h3, h2, e3, e2, e1, true_and, false_and, if_false, if_true]
      repeat' split
      all_goals first | rfl | omega
    · rw [e 1 (by omega)]
      have e2 : ¬ 2 ≤ s.size - a := by omega
      have e1 : 1 ≤ s.size - a := by omega
      simp only [h3, h2, e3, e2, e1, true_and, false_and, if_false, if_true]

/-- A text cut out of bytes. -/
theorem conv_sub {w : World} {b o : Nat} {s : ByteArray} (hb : BytesN w b o s) (hlt : b < w.heap.size) (a n : Nat) (hn : 0 < n) (ha : a + n ≤ s.size) (cap : Nat) :
    (convert 29 9 (.slice (some ⟨b, o + a, none⟩) n cap)).run Tryd.prog w = .ok (.string (s.extract a (a + n))) w := by
  have hz : (s.extract a (a + n)).size = n := by simp; omega
  have hB : BSl w (some ⟨b, o + a, none⟩) (s.extract a (a + n)) := by
    refine .inr ⟨b, o + a, rfl, fun i hi => ?_, hlt⟩
    rw [hz] at hi
    have := hb (a + i) (by omega)
    rw [byteN_ext s a (a + n) i (by omega) ha, Nat.add_assoc]
    exact this
  have h := conv_at hB cap
  rw [hz] at h
  exact h

end Go.Proofs.YtlddbelpbgmljaaDoor
namespace Go.Proofs.YtlddbelpbgmljaaDoor
open Go.RowKit
set_option linter.unusedSimpArgs false
set_option linter.unusedVariables false

/-! The document's own scanner, as a plain function, and that it is the program's. -/
def fourL : List ByteArray := [⟨#[98, 114, 101, 97, 107]⟩, ⟨#[99, 111, 110, 116, 105, 110, 117, 101]⟩, ⟨#[114, 101, 116, 117, 114, 110]⟩, ⟨#[102, 97, 108, 108, 116, 104, 114, 111, 117, 103, 104]⟩]
def fiveL : List ByteArray := [⟨#[43, 43]⟩, ⟨#[45, 45]⟩, ⟨#[41]⟩, ⟨#[93]⟩, ⟨#[125]⟩]
def endsT (t : Tok) : Bool := if t.kind = 1 ∨ t.kind = 4 ∨ t.kind = 5 then true else if t.kind = 2 ∨ t.kind = 3 then inB t.text fourL else inB t.text fiveL
def endsB (tk : List Tok) : Bool := match tk.getLast? with
  | some t => endsT t
  | none => false
def endsF (tk : List Tok) (at_ : Nat) : List Tok := if endsB tk then tk ++ [⟨6, nlB, at_⟩] else tk

theorem closers_split : closers = fourL.map ByteArray.toList ++ fiveL.map ByteArray.toList := by kernel_rfl
theorem four_word : ∀ x ∈ fourL.map ByteArray.toList, wordL x = 1 ∨ wordL x = 2 := by decide +kernel
theorem five_word : ∀ x ∈ fiveL.map ByteArray.toList, wordL x = 0 := by decide +kernel
theorem endsT_eq {t : Tok} (h : KOK t) : endsT t = closesB t.kind t.text.toList := by
  have hlo := h.lo
  have hhi := h.hi
  have hw1 := h.w1
  have hw2 := h.w2
  unfold endsT closesB
  rw [closers_split]
  by_cases h1 : t.kind = 1 ∨ t.kind = 4 ∨ t.kind = 5
  · rw [if_pos h1]
    rcases h1 with e | e | e <;> simp [e]
  · rw [if_neg h1]
    have n1 : (t.kind == 1) = false := by simp; omega
    have n4 : (t.kind == 4) = false := by simp; omega
    have n5 : (t.kind == 5) = false := by simp; omega
    rw [n1, n4, n5]
    simp only [Bool.false_or, List.mem_append]
    by_cases h2 : t.kind = 2 ∨ t.kind = 3
    · rw [if_pos h2, inB_iff]
      have hw : wordL t.text.toList = 1 ∨ wordL t.text.toList = 2 := by
        rcases h2 with e | e
        · rw [e] at hw1; left; simpa using hw1
        · rw [e] at hw2; right; simpa using hw2
      have hno : ¬ t.text.toList ∈ fiveL.map ByteArray.toList := fun hm => by have := five_word _ hm; omega
      simp only [hno, or_false]
    · rw [if_neg h2, inB_iff]
      have hw : wordL t.text.toList ≠ 1 ∧ wordL t.text.toList ≠ 2 := by
        constructor
        · intro e; rw [e] at hw1; simp at hw1; omega
        · intro e; rw [e] at hw2; simp at hw2; omega
      have hno : ¬ t.text.toList ∈ fourL.map ByteArray.toList := fun hm => by have := four_word _ hm; omega
      simp only [hno, false_or]
theorem endsF_eq {tk : List Tok} (h : ∀ t ∈ tk, KOK t) (at_ : Nat) : endsF tk at_ = endF tk at_ := by
  unfold endsF endsB endF
  cases hl : tk.getLast? with
  | none => rfl
  | some t => simp only [endsT_eq (h t (List.mem_of_getLast? hl))]

def lineB (s : ByteArray) (a n : Nat) : Bool := (List.range n).any fun j => byteN s (a + j) == 10
theorem lineB_succ (s : ByteArray) (a n : Nat) : lineB s a (n + 1) = (lineB s a n || byteN s (a + n) == 10) := by
  simp [lineB, List.range_succ]
theorem line_eq (s : ByteArray) (a n : Nat) (h : a + n ≤ s.size) : lineB s a n = decide (0 ≤ Lib.indexByte (s.extract a (a + n)).data.toList 10) := by
  have hz : (s.extract a (a + n)).size = n := ext_size h
  have hbyte : ∀ j, j < n → ((s.extract a (a + n)).data.toList[j]? = some 10 ↔ byteN s (a + j) = 10) := by
    intro j hj
    rw [← byteN_ext s a (a + n) j (by omega) h]
    unfold byteN
    have hl : j < (s.extract a (a + n)).data.toList.length := by
      have : (s.extract a (a + n)).data.toList.length = (s.extract a (a + n)).size := rfl
      omega
    rw [List.getD_eq_getElem?_getD, List.getElem?_eq_getElem hl]
    simp only [Option.some.injEq, Option.getD_some]
    exact ⟨fun e => by rw [e]; rfl, fun e => UInt8.toNat_inj.1 e⟩
  have hge := Lib.indexByte_ge (s.extract a (a + n)).data.toList 10
  by_cases hn : Lib.indexByte (s.extract a (a + n)).data.toList 10 = -1
  · rw [hn]
    have := Lib.indexByte_none hn
    rw [show decide ((0 : Int) ≤ -1) = false from by decide]
    unfold lineB
    rw [List.any_eq_false]
    intro j hj
    rw [List.mem_range] at hj
    simp only [beq_iff_eq]
    intro e
    exact this j ((hbyte j hj).2 e)
  · obtain ⟨o, ho⟩ : ∃ o : Nat, Lib.indexByte (s.extract a (a + n)).data.toList 10 = o := ⟨(Lib.indexByte (s.extract a (a + n)).data.toList 10).toNat, by omega⟩
    obtain ⟨h1, _⟩ := Lib.indexByte_some ho
    rw [ho, show decide ((0 : Int) ≤ (o : Int)) = true from by simp]
    have hon : o < n := by
      by_cases hc : o < (s.extract a (a + n)).data.toList.length
      · have : (s.extract a (a + n)).data.toList.length = (s.extract a (a + n)).size := rfl
        omega
      · rw [List.getElem?_eq_none (by omega)] at h1; cases h1
    exact List.any_eq_true.2 ⟨o, List.mem_range.2 hon, by simpa using (hbyte o hon).1 h1⟩

def wordEnd (s : ByteArray) : Nat → Nat → Nat
  | 0, k => k
  | f + 1, k => if k < s.size then (if letterN (byteN s k) || figureN (byteN s k) then wordEnd s f (k + 1) else k) else k

/-- One step of the document's scanner. -/
def refStepF (s : ByteArray) (tk nt : List Tok) (a : Nat) : Res :=
  if a = 0 ∧ byteN s a = 239 ∧ byteN s 1 = 187 ∧ byteN s 2 = 191 then some (tk, nt, 3)
  else if byteN s a = 10 then some (endsF tk a, nt, 1)
  else if byteN s a = 32 ∨ byteN s a = 9 ∨ byteN s a = 13 then some (tk, nt, 1)
  else if refNoteF s a ≠ 0 then
    (if refNoteF s a < 0 then none
     else some (if lineB s a ((refNoteF s a).toNat - a) then endsF tk a else tk, nt ++ [⟨0, s.extract a (refNoteF s a).toNat, a⟩], (refNoteF s a).toNat - a))
  else if letterN (byteN s a) || figureN (byteN s a) then
    some (tk ++ [⟨if letterN (byteN s a) then 1 + wordL (s.extract a (wordEnd s (s.size + 1) (a + 1))).toList else 4, s.extract a (wordEnd s (s.size + 1) (a + 1)), a⟩], nt, wordEnd s (s.size + 1) (a + 1) - a)
  else if byteN s a = 34 ∨ byteN s a = 96 then
    (if refQuotedF s (byteN s a) (s.size + 1) (a + 1) < 0 then none
     else some (tk ++ [⟨5, s.extract a (refQuotedF s (byteN s a) (s.size + 1) (a + 1)).toNat, a⟩], nt, (refQuotedF s (byteN s a) (s.size + 1) (a + 1)).toNat - a))
  else if refSignF s a = 0 then none
  else some (tk ++ [⟨6, s.extract a (a + refSignF s a), a⟩], nt, refSignF s a)

/-- e is the first place from k on where p holds of the byte, or the end. -/
def FirstAt (s : ByteArray) (p : Nat → Bool) (k e : Nat) : Prop := k ≤ e ∧ e ≤ s.size ∧ (∀ j, k ≤ j → j < e → p (byteN s j) = false) ∧ (e < s.size → p (byteN s e) = true)
theorem FirstAt.uniq {s : ByteArray} {p : Nat → Bool} {k a b : Nat} (h : FirstAt s p k a) (g : FirstAt s p k b) : a = b := by
  obtain ⟨h1, h2, h3, h4⟩ := h
  obtain ⟨g1, g2, g3, g4⟩ := g
  rcases Nat.lt_trichotomy a b with hc | hc | hc
  · have e1 := h4 (by omega)
    rw [g3 a h1 hc] at e1; cases e1
  · exact hc
  · have e1 := g4 (by omega)
    rw [h3 b g1 hc] at e1; cases e1
theorem nlAt_first (s : ByteArray) : ∀ (g k : Nat), s.size < g + k → k ≤ s.size → FirstAt s (fun c => c == 10) k (nlAt s g k) := by
  intro g
  induction g with
  | zero => intro k h1 h2; omega
  | succ g ih =>
    intro k h1 h2
    rw [nlAt]
    by_cases hlt : k < s.size
    · rw [if_pos hlt]
      by_cases h10 : byteN s k = 10
      · rw [if_pos h10]
        exact ⟨Nat.le_refl _, h2, fun j a b => by omega, fun _ => by simp [h10]⟩
      · rw [if_neg h10]
        obtain ⟨i1, i2, i3, i4⟩ := ih (k + 1) (by omega) (by omega)
        refine ⟨by omega, i2, fun j a b => ?_, i4⟩
        by_cases hj : j = k
        · subst hj; simp [h10]
        · exact i3 j (by omega) b
    · rw [if_neg hlt]
      exact ⟨Nat.le_refl _, h2, fun j a b => by omega, fun h => by omega⟩
theorem wordEnd_first (s : ByteArray) : ∀ (g k : Nat), s.size < g + k → k ≤ s.size → FirstAt s (fun c => !(letterN c || figureN c)) k (wordEnd s g k) := by
  intro g
  induction g with
  | zero => intro k h1 h2; omega
  | succ g ih =>
    intro k h1 h2
    rw [wordEnd]
    by_cases hlt : k < s.size
    · rw [if_pos hlt]
      cases h10 : letterN (byteN s k) || figureN (byteN s k) with
      | false =>
        rw [if_neg (by decide)]
        exact ⟨Nat.le_refl _, h2, fun j a b => by omega, fun _ => by simp only [h10]; rfl⟩
      | true =>
        rw [if_pos rfl]
        obtain ⟨i1, i2, i3, i4⟩ := ih (k + 1) (by omega) (by omega)
        refine ⟨by omega, i2, fun j a b => ?_, i4⟩
        by_cases hj : j = k
        · subst hj; simp only [h10]; rfl
        · exact i3 j (by omega) b
    · rw [if_neg hlt]
      exact ⟨Nat.le_refl _, h2, fun j a b => by omega, fun h => by omega⟩
theorem before_first (s : ByteArray) (a : Nat) (q : Int → Bool) (p : Nat → Bool) (v : Bool) (hq : ∀ n : Nat, n < 128 → q (n : Int) = p n) (hv : ∀ n : Nat, 128 ≤ n → q (n : Int) = v ∧ p n = v) :
    ∀ (f i : Nat), (s.extract a s.size).size < f + i → a + i ≤ s.size → FirstAt s p (a + i) (a + beforeF (s.extract a s.size) q f i) := by
  intro f
  induction f with
  | zero =>
    intro i h1 h2
    have hz : (s.extract a s.size).size = s.size - a := by simp
    omega
  | succ f ih =>
    intro i h1 h2
    have hz : (s.extract a s.size).size = s.size - a := by simp
    rw [beforeF]
    by_cases hlt : a + i < s.size
    · rw [if_pos (by omega), decode_tail s a i hlt]
      have hw := dec_width s (a + i) hlt
      cases hqq : q ((Utf8.decode s (a + i)).1 : Nat) with
      | true =>
        rw [if_pos rfl]
        refine ⟨Nat.le_refl _, h2, fun j x y => by omega, fun _ => ?_⟩
        rcases dec_byte s (a + i) hlt with ⟨h4, h5, h6⟩ | ⟨h4, h5⟩
        · rw [h4, hq _ h6] at hqq; exact hqq
        · rw [(hv _ h4).1] at hqq; rw [(hv _ h5).2]; exact hqq
      | false =>
        rw [if_neg (by decide)]
        obtain ⟨i1, i2, i3, i4⟩ := ih (i + (Utf8.decode s (a + i)).2) (by omega) (by omega)
        refine ⟨by omega, i2, fun j x y => ?_, i4⟩
        by_cases hj : a + (i + (Utf8.decode s (a + i)).2) ≤ j
        · exact i3 j hj y
        · rcases dec_byte s (a + i) hlt with ⟨h4, h5, h6⟩ | ⟨h4, h5⟩
          · obtain rfl : j = a + i := by omega
            rw [h4, hq _ h6] at hqq; exact hqq
          · rw [(hv _ h4).1] at hqq
            have hb : 128 ≤ byteN s j := by
              by_cases h0 : j = a + i
              · subst h0; exact h5
              · have := inner_hi s (a + i) (j - (a + i)) hlt (by omega) (by omega)
                rw [show a + i + (j - (a + i)) = j from by omega] at this
                exact this
            rw [(hv _ hb).2]; exact hqq
    · rw [if_neg (by omega)]
      have e : a + (s.extract a s.size).size = a + i := by omega
      rw [e]
      exact ⟨Nat.le_refl _, h2, fun j x y => by omega, fun h => by omega⟩
theorem before_nl (s : ByteArray) (a : Nat) (ha : a ≤ s.size) : a + beforeF (s.extract a s.size) newlineI ((s.extract a s.size).size + 1) 0 = nlAt s (s.size + 1) a :=
  (before_first s a newlineI (fun c => c == 10) false (fun n _ => by rw [Bool.eq_iff_iff]; simp [newlineI]; omega) (fun n h => ⟨by simp [newlineI]; omega, by simp; omega⟩) _ 0 (by omega) ha).uniq (nlAt_first s _ _ (by omega) ha)
theorem before_word (s : ByteArray) (a : Nat) (ha : a < s.size) (hc : (letterN (byteN s a) || figureN (byteN s a)) = true) : a + beforeF (s.extract a s.size) outsideI ((s.extract a s.size).size + 1) 0 = wordEnd s (s.size + 1) (a + 1) := by
  have h1 := before_first s a outsideI (fun c => !(letterN c || figureN c)) true (fun n _ => by simp only [outsideI, letter_byte, figure_byte, Bool.not_or])
    (fun n h => ⟨by simp only [outsideI, letter_byte, figure_byte, letter_big n h, figure_big n h]; rfl, by simp only [letter_big n h, figure_big n h]; rfl⟩) ((s.extract a s.size).size + 1) 0 (by omega) (by omega)
  have h2 := wordEnd_first s (s.size + 1) (a + 1) (by omega) (by omega)
  refine h1.uniq ⟨by have := h2.1; omega, h2.2.1, fun j x y => ?_, h2.2.2.2⟩
  by_cases hj : j = a
  · subst hj; simp only [hc]; rfl
  · exact h2.2.2.1 j (by omega) y

/-! The note over several lines. -/
theorem star_index (s : ByteArray) : ∀ (g k : Nat), s.size < g + k → k ≤ s.size →
    starAt s g k = if Lib.index (s.data.toList.drop (k + 2)) [42, 47] = -1 then -1 else (k : Int) + Lib.index (s.data.toList.drop (k + 2)) [42, 47] + 4 := by
  intro g
  induction g with
  | zero => intro k h1 h2; omega
  | succ g ih =>
    intro k h1 h2
    have hlen : s.data.toList.length = s.size := by simp
    have hb : ∀ j, j < s.size → s.data.toList[j]? = some (s.data.toList.getD j 0) := by
      intro j hj; rw [List.getD_eq_getElem?_getD, List.getElem?_eq_getElem (by omega)]; rfl
    rw [starAt]
    by_cases h4 : k + 4 ≤ s.size
    · rw [if_pos h4]
      have hd : s.data.toList.drop (k + 2) = s.data.toList.getD (k + 2) 0 :: s.data.toList.getD (k + 3) 0 :: s.data.toList.drop (k + 4) := by
        rw [List.drop_eq_getElem_cons (by omega), List.drop_eq_getElem_cons (by omega)]
        simp only [List.getD_eq_getElem?_getD, List.getElem?_eq_getElem (show k + 2 < s.data.toList.length by omega), List.getElem?_eq_getElem (show k + 3 < s.data.toList.length by omega), Option.getD_some]
      have hd3 : s.data.toList.drop (k + 1 + 2) = s.data.toList.getD (k + 3) 0 :: s.data.toList.drop (k + 4) := by
        rw [List.drop_eq_getElem_cons (by omega)]
        simp only [List.getD_eq_getElem?_getD, List.getElem?_eq_getElem (show k + 1 + 2 < s.data.toList.length by omega), Option.getD_some]
      have hi := ih (k + 1) (by omega) (by omega)
      rw [hd3] at hi
      rw [hd, Lib.index]
      have hp : List.isPrefixOf [42, 47] (s.data.toList.getD (k + 2) 0 :: s.data.toList.getD (k + 3) 0 :: s.data.toList.drop (k + 4)) = (decide (byteN s (k + 2) = 42) && decide (byteN s (k + 3) = 47)) := by
        simp only [List.isPrefixOf, Bool.and_true]
        rw [Bool.eq_iff_iff]
        rw [Bool.and_eq_true, Bool.and_eq_true, beq_iff_eq, beq_iff_eq, decide_eq_true_eq, decide_eq_true_eq]
        unfold byteN
        constructor
        · rintro ⟨e1, e2⟩; rw [← e1, ← e2]; exact ⟨rfl, rfl⟩
        · rintro ⟨e1, e2⟩; exact ⟨(UInt8.toNat_inj.1 e1).symm, (UInt8.toNat_inj.1 e2).symm⟩
      rw [hp]
      have hge := Lib.index_ge (s.data.toList.getD (k + 3) 0 :: s.data.toList.drop (k + 4)) [42, 47]
      generalize Lib.index (s.data.toList.getD (k + 3) 0 :: s.data.toList.drop (k + 4)) [42, 47] = x at hi hge
      by_cases a1 : byteN s (k + 2) = 42
      · by_cases a2 : byteN s (k + 3) = 47
        · simp [a1, a2]
        · simp only [a1, a2, if_true, if_false, decide_true, decide_false, Bool.and_false, Bool.false_eq_true]
          rw [hi]
          by_cases hx : x = -1
          · simp [hx]
          · have hx' : (x == -1) = false := by simpa using hx
            rw [if_neg hx, hx']
            simp only [Bool.false_eq_true, if_false]
            rw [if_neg (by omega)]; push_cast; omega
      · simp only [a1, if_true, if_false, decide_false, Bool.false_and, Bool.false_eq_true]
        rw [hi]
        by_cases hx : x = -1
        · simp [hx]
        · have hx' : (x == -1) = false := by simpa using hx
          rw [if_neg hx, hx']
          simp only [Bool.false_eq_true, if_false]
          rw [if_neg (by omega)]; push_cast; omega
    · rw [if_neg h4]
      rcases Lib.index_spec (s.data.toList.drop (k + 2)) [42, 47] with ⟨h, _⟩ | ⟨i, h, _⟩
      · rw [if_pos h]
      · have hr := Lib.index_room (s.data.toList.drop (k + 2)) [42, 47] (by rw [h]; omega)
        rw [h] at hr
        simp at hr
        omega

/-! Texts. -/
theorem rq_fuel (s : ByteArray) (q : Nat) : ∀ (f g k : Nat), s.size < f + k → s.size < g + k → refQuotedF s q f k = refQuotedF s q g k := by
  intro f
  induction f with
  | zero =>
    intro g k h1 h2
    cases g with
    | zero => rfl
    | succ g => rw [refQuotedF, refQuotedF, if_neg (by omega)]
  | succ f ih =>
    intro g k h1 h2
    cases g with
    | zero => rw [refQuotedF, refQuotedF, if_neg (by omega)]
    | succ g =>
      rw [refQuotedF, refQuotedF, ih g (k + 2) (by omega) (by omega), ih g (k + 1) (by omega) (by omega)]
def RQ (s : ByteArray) (q k : Nat) : Int := refQuotedF s q (s.size + 1) k
theorem rq_step (s : ByteArray) (q k : Nat) : RQ s q k = if k < s.size then
      (if q = 34 ∧ byteN s k = 10 then -1
       else if byteN s k = q then (k : Int) + 1
       else if q = 34 ∧ byteN s k = 92 then (if k + 1 < s.size ∧ byteN s (k + 1) = 10 then -1 else RQ s q (k + 2))
       else RQ s q (k + 1))
    else -1 := by
  unfold RQ
  rw [refQuotedF, rq_fuel s q s.size (s.size + 1) (k + 2) (by omega) (by omega), rq_fuel s q s.size (s.size + 1) (k + 1) (by omega) (by omega)]
theorem rq_high (s : ByteArray) (k : Nat) : ∀ m, (∀ j, j < m → k + j < s.size ∧ 128 ≤ byteN s (k + j)) → RQ s 34 k = RQ s 34 (k + m) := by
  intro m
  induction m with
  | zero => intro _; rfl
  | succ m ih =>
    intro h
    rw [ih (fun j hj => h j (by omega)), rq_step s 34 (k + m)]
    obtain ⟨h1, h2⟩ := h m (by omega)
    rw [if_pos h1, if_neg (by omega), if_neg (by omega), if_neg (by omega)]
    rfl
/-- What the document tells of a place behind a backslash. -/
def RB (s : ByteArray) (k : Nat) : Int := if k < s.size ∧ byteN s k = 10 then -1 else RQ s 34 (k + 1)
def toRef (a : Nat) (x : Int) : Int := if x = 0 then -1 else (a : Int) + x
theorem toRef_0 (a : Nat) : toRef a 0 = -1 := rfl
theorem toRef_2 (a i : Nat) : toRef a ((i : Int) + 2) = (a : Int) + i + 2 := by unfold toRef; rw [if_neg (by omega)]; omega
theorem quoted_ref (s : ByteArray) (a : Nat) (ha : a + 1 ≤ s.size) : ∀ (f i : Nat) (b : Bool), s.size < f + (a + 1 + i) → a + 1 + i ≤ s.size →
    toRef a (quotedF (s.extract (a + 1) s.size) f i b) = if b then RB s (a + 1 + i) else RQ s 34 (a + 1 + i) := by
  intro f
  induction f with
  | zero => intro i b h1 h2; omega
  | succ f ih =>
    intro i b h1 h2
    have hz : (s.extract (a + 1) s.size).size = s.size - (a + 1) := by simp
    rw [quotedF]
    by_cases hlt : a + 1 + i < s.size
    · rw [if_pos (show i < (s.extract (a + 1) s.size).size by omega), decode_tail s (a + 1) i hlt]
      have hw := dec_width s (a + 1 + i) hlt
      have I1 := ih (i + (Utf8.decode s (a + 1 + i)).2) false (by omega) (by omega)
      have I2 := ih (i + (Utf8.decode s (a + 1 + i)).2) true (by omega) (by omega)
      simp only [Bool.false_eq_true, if_false, if_true] at I1 I2
      rw [show a + 1 + (i + (Utf8.decode s (a + 1 + i)).2) = a + 1 + i + (Utf8.decode s (a + 1 + i)).2 from by omega] at I1 I2
      rcases dec_byte s (a + 1 + i) hlt with ⟨h4, h5, h6⟩ | ⟨h4, h5⟩
      · rw [h5] at I1 I2 ⊢
        rw [h4]
        by_cases h10 : byteN s (a + 1 + i) = 10
        · rw [if_pos h10, toRef_0]
          cases b
          · simp only [Bool.false_eq_true, if_false]
            rw [rq_step, if_pos hlt, if_pos ⟨rfl, h10⟩]
          · simp only [if_true]
            rw [RB, if_pos ⟨hlt, h10⟩]
        · rw [if_neg h10]
          cases b
          · simp only [Bool.false_eq_true, if_false]
            rw [rq_step, if_pos hlt, if_neg (show ¬((34 : Nat) = 34 ∧ byteN s (a + 1 + i) = 10) by omega)]
            by_cases h92 : byteN s (a + 1 + i) = 92
            · rw [if_pos h92, if_neg (show ¬ byteN s (a + 1 + i) = 34 by omega), if_pos ⟨rfl, h92⟩, I2, RB]
            · rw [if_neg h92]
              by_cases h34 : byteN s (a + 1 + i) = 34
              · rw [if_pos h34, if_pos h34, toRef_2]
                push_cast; omega
              · rw [if_neg h34, if_neg h34, if_neg (by omega), I1]
          · simp only [if_true]
            rw [RB, if_neg (by omega), I1]
      · rw [if_neg (show ¬ (Utf8.decode s (a + 1 + i)).1 = 10 by omega)]
        have hin : ∀ j, j < (Utf8.decode s (a + 1 + i)).2 → a + 1 + i + j < s.size ∧ 128 ≤ byteN s (a + 1 + i + j) := by
          intro j hj
          refine ⟨by omega, ?_⟩
          by_cases h0 : j = 0
          · subst h0; exact h5
          · exact inner_hi s (a + 1 + i) j hlt (by omega) hj
        cases b
        · simp only [Bool.false_eq_true, if_false]
          rw [if_neg (show ¬ (Utf8.decode s (a + 1 + i)).1 = 92 by omega), if_neg (show ¬ (Utf8.decode s (a + 1 + i)).1 = 34 by omega), I1]
          exact (rq_high s _ _ hin).symm
        · simp only [if_true]
          rw [RB, if_neg (by omega), I1]
          have := rq_high s (a + 1 + i + 1) ((Utf8.decode s (a + 1 + i)).2 - 1) (fun j hj => by
            have := hin (j + 1) (by omega)
            rw [show a + 1 + i + 1 + j = a + 1 + i + (j + 1) from by omega]
            exact this)
          rw [this]
          congr 1; omega
    · rw [if_neg (show ¬ i < (s.extract (a + 1) s.size).size by omega), toRef_0]
      cases b
      · simp only [Bool.false_eq_true, if_false]
        rw [rq_step, if_neg hlt]
      · simp only [if_true]
        rw [RB, if_neg (by omega), rq_step, if_neg (by omega)]
theorem tick_ref (s : ByteArray) : ∀ (m k : Nat), s.size < m + k → k ≤ s.size →
    RQ s 96 k = if Lib.index (s.data.toList.drop k) [96] = -1 then -1 else (k : Int) + Lib.index (s.data.toList.drop k) [96] + 1 := by
  intro m
  induction m with
  | zero => intro k h1 h2; omega
  | succ m ih =>
    intro k h1 h2
    have hlen : s.data.toList.length = s.size := by simp
    rw [rq_step]
    by_cases hlt : k < s.size
    · rw [if_pos hlt, if_neg (by omega)]
      have hd : s.data.toList.drop k = s.data.toList.getD k 0 :: s.data.toList.drop (k + 1) := by
        rw [List.drop_eq_getElem_cons (by omega)]
        simp only [List.getD_eq_getElem?_getD, List.getElem?_eq_getElem (show k < s.data.toList.length by omega), Option.getD_some]
      have hi := ih (k + 1) (by omega) (by omega)
      have hge := Lib.index_ge (s.data.toList.drop (k + 1)) [96]
      rw [hd, Lib.index]
      generalize Lib.index (s.data.toList.drop (k + 1)) [96] = x at hi hge
      have hp : List.isPrefixOf [96] (s.data.toList.getD k 0 :: s.data.toList.drop (k + 1)) = decide (byteN s k = 96) := by
        simp only [List.isPrefixOf, Bool.and_true]
        rw [Bool.eq_iff_iff, beq_iff_eq, decide_eq_true_eq]
        unfold byteN
        exact ⟨fun e => by rw [← e]; rfl, fun e => (UInt8.toNat_inj.1 e).symm⟩
      rw [hp]
      by_cases a1 : byteN s k = 96
      · simp [a1]
      · rw [if_neg a1, if_neg (by omega), hi]
        simp only [a1, decide_false, Bool.false_eq_true, if_false]
        by_cases hx : x = -1
        · simp [hx]
        · have hx' : (x == -1) = false := by simpa using hx
          rw [if_neg hx, hx']
          simp only [Bool.false_eq_true, if_false]
          rw [if_neg (by omega)]; push_cast; omega
    · rw [if_neg hlt]
      have : s.data.toList.drop k = [] := List.drop_eq_nil_of_le (by omega)
      rw [this]; rfl
end Go.Proofs.YtlddbelpbgmljaaDoor
namespace Go.Proofs.YtlddbelpbgmljaaDoor
open Go.RowKit
set_option linter.unusedSimpArgs false
set_option linter.unusedVariables false

theorem ext2 (s : ByteArray) (a : Nat) (h : a + 2 ≤ s.size) : (s.extract a (a + 2)).toList = [s.data.toList.getD a 0, s.data.toList.getD (a + 1) 0] := by
  have hlen : s.data.toList.length = s.size := by simp
  rw [Lib.toList_data, Lib.extract_data, List.drop_eq_getElem_cons (by omega), List.drop_eq_getElem_cons (by omega), show a + 2 - a = 2 from by omega]
  simp only [List.take_succ_cons, List.take_zero, List.getD_eq_getElem?_getD, List.getElem?_eq_getElem (show a < s.data.toList.length by omega), List.getElem?_eq_getElem (show a + 1 < s.data.toList.length by omega), Option.getD_some]
theorem pre2 (s : ByteArray) (a : Nat) (x y : UInt8) : pre (s.extract a s.size) ⟨#[x, y]⟩ = (decide (a + 2 ≤ s.size) && (decide (byteN s a = x.toNat) && decide (byteN s (a + 1) = y.toNat))) := by
  have hz : (s.extract a s.size).size = s.size - a := by simp
  have hp : (⟨#[x, y]⟩ : ByteArray).size = 2 := rfl
  by_cases h : a + 2 ≤ s.size
  · rw [pre_yes (by rw [hp, hz]; omega), hp, ext_ext s a 2 h, ext2 s a h]
    have e : (⟨#[x, y]⟩ : ByteArray).toList = [x, y] := by rw [Lib.toList_data]
    rw [e, Bool.eq_iff_iff]
    simp only [h, decide_true, Bool.true_and, Bool.and_eq_true, decide_eq_true_eq, beq_iff_eq, List.cons.injEq, and_true, byteN, UInt8.toNat_inj]
  · rw [pre_no (by rw [hp, hz]; omega)]
    simp [h]

theorem take_ref {s : ByteArray} {tk nt : List Tok} {a : Nat} (ha : a < s.size) (hon : On s a) (hv : badAt s a (Utf8.decode s a).1 = false) (hk : ∀ t ∈ tk, KOK t) :
    takeF s (s.extract a s.size) tk nt a ((Utf8.decode s a).1 : Nat) = refStepF s tk nt a := by
  have hz : (s.extract a s.size).size = s.size - a := by simp
  have h2 : pre (s.extract a s.size) slash2 = (decide (a + 2 ≤ s.size) && (decide (byteN s a = 47) && decide (byteN s (a + 1) = 47))) := pre2 s a 47 47
  have h3 : pre (s.extract a s.size) slashStar = (decide (a + 2 ≤ s.size) && (decide (byteN s a = 47) && decide (byteN s (a + 1) = 42))) := pre2 s a 47 42
  have hsg := refSign_first s a ha
  have hsl := firstSign_le (s.extract a s.size) signsL
  unfold takeF refStepF
  rw [h2, h3]
  rcases dec_byte s a ha with ⟨d1, d2, d3⟩ | ⟨d1, d2⟩
  · -- a sign of one byte
    rw [d1]
    have hnm : ¬(a = 0 ∧ byteN s a = 239 ∧ byteN s 1 = 187 ∧ byteN s 2 = 191) := by omega
    rw [if_neg hnm]
    by_cases c10 : byteN s a = 10
    · rw [if_pos (by omega), if_pos c10, endsF_eq hk]
    rw [if_neg (by omega), if_neg c10]
    by_cases cb : byteN s a = 32 ∨ byteN s a = 9 ∨ byteN s a = 13
    · have : blankI ((byteN s a : Nat) : Int) = true := by simp [blankI]; omega
      rw [if_pos this, if_pos cb, blankN, if_neg (by omega)]
      rfl
    have hnb : blankI ((byteN s a : Nat) : Int) = false := by simp [blankI]; omega
    rw [hnb, if_neg (by decide), if_neg cb]
    have e1 : letterI ((47 : Nat) : Int) = false := by decide
    have e2 : figureI ((47 : Nat) : Int) = false := by decide
    have e3 : letterN 47 = false := by decide
    have e4 : figureN 47 = false := by decide
    have e5 : (((47 : Nat) : Int) = 34) = False := by simp
    have e6 : (((47 : Nat) : Int) = 96) = False := by simp
    have e7 : ((47 : Nat) = 34 ∨ (47 : Nat) = 96) = False := by simp
    have e8 : ((0 : Int) ≠ 0) = False := by simp
    by_cases c47 : byteN s a = 47
    · by_cases hroom : a + 2 ≤ s.size
      · by_cases n47 : byteN s (a + 1) = 47
        · -- a note to the line's end
          have hR : refNoteF s a = ((nlAt s (s.size + 1) a : Nat) : Int) := by
            unfold refNoteF
            rw [if_neg (by omega), if_pos c47, if_pos n47]
          obtain ⟨f1, f2, f3, f4⟩ := nlAt_first s (s.size + 1) a (by omega) (by omega)
          have hbe := before_nl s a (by omega)
          have hgt : a + 2 ≤ nlAt s (s.size + 1) a := by
            by_cases e0 : nlAt s (s.size + 1) a = a
            · have := f4 (by omega); rw [e0] at this; simp at this; omega
            · by_cases e1 : nlAt s (s.size + 1) a = a + 1
              · have := f4 (by omega); rw [e1] at this; simp at this; omega
              · omega
          rw [if_pos (by simp [hroom, c47, n47]), hR, if_pos (by omega), if_neg (by omega), Int.toNat_natCast]
          generalize beforeF (s.extract a s.size) newlineI ((s.extract a s.size).size + 1) 0 = m at hbe ⊢
          generalize nlAt s (s.size + 1) a = e at hbe hgt f2 ⊢
          obtain rfl : e = a + m := hbe.symm
          unfold noteR noteF
          rw [if_neg (by omega), show a + m - a = m from by omega, line_eq s a m (by omega)]
          simp only [decide_eq_true_eq, endsF_eq hk]
        · rw [if_neg (by simp [n47])]
          by_cases n42 : byteN s (a + 1) = 42
          · -- a note over lines
            have hR : refNoteF s a = starAt s (s.size + 1) a := by
              unfold refNoteF
              rw [if_neg (by omega), if_pos c47, if_neg n47, if_pos n42]
            have hst := star_index s (s.size + 1) a (by omega) (by omega)
            rw [if_pos (by simp [hroom, c47, n42]), hR, hst]
            have hdr : (s.extract a s.size).data.toList.drop slashStar.size = s.data.toList.drop (a + 2) := by
              rw [Lib.extract_data, List.take_of_length_le (by simp), List.drop_drop]; rfl
            have hth : throughF (s.extract a s.size) slashStar starSlash = if Lib.index (s.data.toList.drop (a + 2)) [42, 47] < 0 then 0 else 2 + Lib.index (s.data.toList.drop (a + 2)) [42, 47] + 2 := by
              unfold throughF
              rw [hdr]; rfl
            rw [hth]
            rcases Lib.index_spec (s.data.toList.drop (a + 2)) [42, 47] with ⟨h, _⟩ | ⟨i, h, _⟩
            · rw [h, if_pos (by decide), if_pos rfl, if_pos (by decide), if_pos (by decide)]
              rfl
            · have hr := Lib.index_room (s.data.toList.drop (a + 2)) [42, 47] (by rw [h]; omega)
              rw [h] at hr ⊢
              have hr2 : i + 2 ≤ s.size - (a + 2) := by simp at hr; omega
              rw [if_neg (show ¬ ((i : Nat) : Int) < 0 by omega), if_neg (show ¬ ((i : Nat) : Int) = -1 by omega), if_pos (show ((a : Int) + (i : Int) + 4 ≠ 0) by omega), if_neg (show ¬ ((a : Int) + (i : Int) + 4 < 0) by omega)]
              rw [show ((2 : Int) + (i : Int) + 2).toNat = i + 4 from by omega, show ((a : Int) + (i : Int) + 4).toNat = a + (i + 4) from by omega]
              unfold noteR noteF
              rw [if_neg (by omega), show a + (i + 4) - a = i + 4 from by omega, line_eq s a (i + 4) (by omega)]
              simp only [decide_eq_true_eq, endsF_eq hk]
          · -- a stroke
            have hR : refNoteF s a = 0 := by
              unfold refNoteF
              rw [if_neg (by omega), if_pos c47, if_neg n47, if_neg n42]
            rw [if_neg (by simp [n42]), hR, c47, hsg]
            simp only [e1, e2, e3, e4, e5, e6, e7, e8, Bool.or_false, Bool.false_eq_true, if_false]
            rfl
      · have hR : refNoteF s a = 0 := by
          unfold refNoteF
          rw [if_pos (by omega)]
        rw [if_neg (by simp [hroom]), if_neg (by simp [hroom]), hR, c47, hsg]
        simp only [e1, e2, e3, e4, e5, e6, e7, e8, Bool.or_false, Bool.false_eq_true, if_false]
        rfl
    · have hR : refNoteF s a = 0 := by
        unfold refNoteF
        rw [if_neg c47]; split <;> rfl
      rw [if_neg (by simp [c47]), if_neg (by simp [c47]), hR, if_neg (show ¬((0 : Int) ≠ 0) by decide), letter_byte, figure_byte]
      by_cases cl : letterN (byteN s a) = true
      · -- a word
        have hbe := before_word s a ha (by simp [cl])
        have hfi := wordEnd_first s (s.size + 1) (a + 1) (by omega) (by omega)
        have hlt := hfi.1
        have hle := hfi.2.1
        rw [if_pos cl, if_pos (by simp [cl])]
        generalize beforeF (s.extract a s.size) outsideI ((s.extract a s.size).size + 1) 0 = m at hbe ⊢
        generalize wordEnd s (s.size + 1) (a + 1) = e at hbe hlt hle ⊢
        obtain rfl : e = a + m := hbe.symm
        unfold tokR
        rw [if_neg (by omega), ext_ext s a m (by omega), if_pos cl, show a + m - a = m from by omega]
        rfl
      rw [if_neg cl]
      by_cases cf : figureN (byteN s a) = true
      · have hbe := before_word s a ha (by simp [cf])
        have hfi := wordEnd_first s (s.size + 1) (a + 1) (by omega) (by omega)
        have hlt := hfi.1
        have hle := hfi.2.1
        rw [if_pos cf, if_pos (by simp [cf])]
        generalize beforeF (s.extract a s.size) outsideI ((s.extract a s.size).size + 1) 0 = m at hbe ⊢
        generalize wordEnd s (s.size + 1) (a + 1) = e at hbe hlt hle ⊢
        obtain rfl : e = a + m := hbe.symm
        unfold tokR
        rw [if_neg (by omega), if_neg cl, show a + m - a = m from by omega]
      rw [if_neg cf, if_neg (show ¬((letterN (byteN s a) || figureN (byteN s a)) = true) by simp [cl, cf])]
      by_cases c34 : byteN s a = 34
      · -- a text in quotes
        have hq := quoted_ref s a (by omega) (s.extract a s.size).size 0 false (by omega) (by omega)
        simp only [Bool.false_eq_true, if_false, Nat.add_zero] at hq
        have hx : (s.extract a s.size).extract 1 (s.extract a s.size).size = s.extract (a + 1) s.size := by
          apply ByteArray.ext
          apply Array.toList_inj.1
          rw [Lib.extract_data, Lib.extract_data, Lib.extract_data]
          simp [List.take_take, List.drop_take, List.drop_drop]
          omega
        rw [if_pos (show ((byteN s a : Nat) : Int) = 34 by omega), if_pos (show byteN s a = 34 ∨ byteN s a = 96 from .inl c34), hx, c34]
        rw [show refQuotedF s 34 (s.size + 1) (a + 1) = RQ s 34 (a + 1) from rfl, ← hq]
        obtain ⟨m, hm, hle⟩ := quotedF_nat (s.extract (a + 1) s.size) (s.extract a s.size).size 0 false
        have hz1 : (s.extract (a + 1) s.size).size = s.size - (a + 1) := by simp
        rw [hm]
        by_cases h0 : m = 0
        · subst h0
          rw [show toRef a ((0 : Nat) : Int) = -1 from rfl, if_pos (show (-1 : Int) < 0 by decide)]
          rfl
        · have hto : toRef a ((m : Nat) : Int) = (a : Int) + (m : Int) := by unfold toRef; rw [if_neg (by omega)]
          rw [hto, if_neg (show ¬((a : Int) + (m : Int) < 0) by omega), Int.toNat_natCast, show ((a : Int) + (m : Int)).toNat = a + m from by omega, show a + m - a = m from by omega]
          unfold tokR
          rw [if_neg h0]
      rw [if_neg (show ¬ ((byteN s a : Nat) : Int) = 34 by omega)]
      by_cases c96 : byteN s a = 96
      · have ht := tick_ref s (s.size + 1) (a + 1) (by omega) (by omega)
        have hdr : (s.extract a s.size).data.toList.drop tick.size = s.data.toList.drop (a + 1) := by
          rw [Lib.extract_data, List.take_of_length_le (by simp), List.drop_drop]; rfl
        have hth : throughF (s.extract a s.size) tick tick = if Lib.index (s.data.toList.drop (a + 1)) [96] < 0 then 0 else 1 + Lib.index (s.data.toList.drop (a + 1)) [96] + 1 := by
          unfold throughF
          rw [hdr]; rfl
        rw [if_pos (show ((byteN s a : Nat) : Int) = 96 by omega), if_pos (show byteN s a = 34 ∨ byteN s a = 96 from .inr c96), c96, hth]
        rw [show refQuotedF s 96 (s.size + 1) (a + 1) = RQ s 96 (a + 1) from rfl, ht]
        rcases Lib.index_spec (s.data.toList.drop (a + 1)) [96] with ⟨h, _⟩ | ⟨i, h, _⟩
        · rw [h, if_pos (by decide), if_pos rfl, if_pos (by decide)]
          rfl
        · rw [h]
          rw [if_neg (show ¬ ((i : Nat) : Int) < 0 by omega), if_neg (show ¬ ((i : Nat) : Int) = -1 by omega), if_neg (show ¬ (((a + 1 : Nat) : Int) + (i : Int) + 1 < 0) by omega), show ((1 : Int) + (i : Int) + 1).toNat = i + 2 from by omega, show (((a + 1 : Nat) : Int) + (i : Int) + 1).toNat = a + (i + 2) from by omega, show a + (i + 2) - a = i + 2 from by omega]
          unfold tokR
          rw [if_neg (by omega)]
      rw [if_neg (show ¬ ((byteN s a : Nat) : Int) = 96 by omega), if_neg (show ¬(byteN s a = 34 ∨ byteN s a = 96) by omega), hsg]
      rfl
  · -- a sign of several bytes, or none
    have hR : refNoteF s a = 0 := by
      unfold refNoteF
      rw [if_neg (show ¬ byteN s a = 47 by omega)]; split <;> rfl
    have b47 : (decide (byteN s a = 47)) = false := by simp; omega
    rw [b47]
    simp only [Bool.false_and, Bool.and_false, Bool.false_eq_true, if_false]
    rw [if_neg (show ¬ (((Utf8.decode s a).1 : Nat) : Int) = 10 by omega)]
    by_cases cm : (Utf8.decode s a).1 = 65279
    · obtain ⟨m1, m2, m3, m4⟩ := dec_mark ha cm
      have hz0 : a = 0 := by
        unfold badAt at hv
        simp only [Bool.or_eq_false_iff, Bool.and_eq_false_imp, beq_iff_eq, decide_eq_false_iff_not] at hv
        have := hv.1.2 (by omega)
        omega
      subst hz0
      have hb : blankI (((Utf8.decode s 0).1 : Nat) : Int) = true := by simp [blankI]; omega
      rw [if_pos hb, if_pos ⟨rfl, m2, m3, m4⟩, blankN, if_pos (by omega)]
      rfl
    · have hb : blankI (((Utf8.decode s a).1 : Nat) : Int) = false := by simp [blankI]; omega
      have hnm : ¬(a = 0 ∧ byteN s a = 239 ∧ byteN s 1 = 187 ∧ byteN s 2 = 191) := by
        rintro ⟨rfl, e1, e2, e3⟩
        exact cm (by rw [(mark_dec (i := 0) e1 e2 e3).2])
      have g1 : ((((Utf8.decode s a).1 : Nat) : Int) = 34) = False := eq_false (by omega)
      have g2 : ((((Utf8.decode s a).1 : Nat) : Int) = 96) = False := eq_false (by omega)
      have g3 : (byteN s a = 34 ∨ byteN s a = 96) = False := eq_false (by omega)
      have g4 : (byteN s a = 32 ∨ byteN s a = 9 ∨ byteN s a = 13) = False := eq_false (by omega)
      have g5 : (byteN s a = 10) = False := eq_false (by omega)
      have e8 : ((0 : Int) ≠ 0) = False := by simp
      rw [hb, if_neg hnm, hR, letter_byte, figure_byte, letter_big _ d1, figure_big _ d1, letter_big _ d2, figure_big _ d2, hsg]
      simp only [g1, g2, g3, g4, g5, e8, Bool.or_false, Bool.false_eq_true, if_false]
      rfl

/-- The document's scanner, from token to token. -/
def refF (s : ByteArray) : Nat → Nat → List Tok → List Tok → Except Nat (List Tok × List Tok)
  | 0, _, tk, nt => .ok (tk, nt)
  | f + 1, a, tk, nt => if a < s.size then
      (match refStepF s tk nt a with
        | none => .error a
        | some (tk', nt', m) => refF s f (a + m) tk' nt')
    else .ok (endsF tk s.size, nt)
theorem ref_clean (s : ByteArray) (hv : Valid s) : ∀ (f a : Nat) (tk nt : List Tok), On s a → (∀ t ∈ tk, KOK t) → refF s f a tk nt = cleanF s f a tk nt := by
  intro f
  induction f with
  | zero => intro a tk nt _ _; rfl
  | succ f ih =>
    intro a tk nt hon hk
    rw [refF, cleanF]
    by_cases hlt : a < s.size
    · rw [if_pos hlt, if_pos hlt, ← take_ref hlt hon (hv a hon hlt) hk]
      cases hT : takeF s (s.extract a s.size) tk nt a ((Utf8.decode s a).1 : Nat) with
      | none => rfl
      | some r =>
        obtain ⟨tk', nt', m⟩ := r
        exact ih _ _ _ (takeF_on hlt hon hT).2 (kok_take hlt hk hT)
    · rw [if_neg hlt, if_neg hlt, endsF_eq hk]
def refScanF (s : ByteArray) : Except (Int × Int) (List Tok × List Tok) :=
  if 65536 < s.size then .error (65536, 12)
  else if 0 ≤ wrongR s (s.size + 1) 0 then .error (wrongR s (s.size + 1) 0, 2)
  else match refF s (s.size + 1) 0 [] [] with
    | .ok r => .ok r
    | .error at_ => .error (at_, 3)
theorem ref_scan (s : ByteArray) : refScanF s = scanF s := by
  unfold refScanF scanF
  rw [wrongF_eq]
  by_cases h1 : 65536 < s.size
  · rw [if_pos h1, if_pos h1]
  rw [if_neg h1, if_neg h1]
  by_cases h2 : 0 ≤ wrongR s (s.size + 1) 0
  · rw [if_pos h2, if_pos h2]
  rw [if_neg h2, if_neg h2, all_clean0, ref_clean s (valid_of (by rw [wrongF_eq]; exact h2)) _ _ _ _ (On.zero s) (by simp)]
  cases cleanF s (s.size + 1) 0 [] [] <;> rfl
end Go.Proofs.YtlddbelpbgmljaaDoor
