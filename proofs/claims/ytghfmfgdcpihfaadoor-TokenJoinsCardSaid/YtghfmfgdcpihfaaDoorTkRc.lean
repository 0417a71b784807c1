import Derived.Test.YtghfmfgdcpihfaaDoorTkRb
import Derived.Test.YtghfmfgdcpihfaaDoorTkW
namespace Go.Proofs.YtghfmfgdcpihfaaDoor
open Go.RowKit
set_option linter.unusedSimpArgs false
set_option linter.unusedVariables false

/-! The document's own scanner, as a plain function, and that it is the program's. -/
def fourL : List ByteArray := [⟨#[98, 114, 101, 97, 107]⟩, ⟨#[99, 111, 110, 116, 105, 110, 117, 101]⟩, ⟨#[114, 101, 116, 117, 114, 110]⟩, ⟨#[102, 97, 108, 108, 116, 104, 114, 111, 117, 103, 104]⟩]
def fiveL : List ByteArray := [⟨#[43, 43]⟩, ⟨#[45, 45]⟩, ⟨#[41]⟩, ⟨#[93]⟩, ⟨#[125]⟩]
def endsT (t : Tok) : Bool := if t.kind = 1 ∨ t.kind = 4 ∨ t.kind = 5 then true else if t.kind = 2 ∨ t.kind = 3 then inB t.text fourL else inB t.text fiveL
def endsB (tk : List Tok) : Bool := match tk.getLast? with
  | some t => endsT t
  | none => false
def endsF (tk : List Tok) (at_ : Nat) : List Tok := if endsB tk then tk ++ [⟨6, nlB, at_⟩] else tk

theorem closers_split : closers = fourL.map ByteArray.toList ++ fiveL.map ByteArray.toList := by kernel_rfl
theorem four_word : ∀ x ∈ fourL.map ByteArray.toList, wordL x = 1 ∨ wordL x = 2 := by decide +kernel
theorem five_word : ∀ x ∈ fiveL.map ByteArray.toList, wordL x = 0 := by decide +kernel
theorem endsT_eq {t : Tok} (h : KOK t) : endsT t = closesB t.kind t.text.toList := by
  have hlo := h.lo
  have hhi := h.hi
  have hw1 := h.w1
  have hw2 := h.w2
  unfold endsT closesB
  rw [closers_split]
  by_cases h1 : t.kind = 1 ∨ t.kind = 4 ∨ t.kind = 5
  · rw [if_pos h1]
    rcases h1 with e | e | e <;> simp [e]
  · rw [if_neg h1]
    have n1 : (t.kind == 1) = false := by simp; omega
    have n4 : (t.kind == 4) = false := by simp; omega
    have n5 : (t.kind == 5) = false := by simp; omega
    rw [n1, n4, n5]
    simp only [Bool.false_or, List.mem_append]
    by_cases h2 : t.kind = 2 ∨ t.kind = 3
    · rw [if_pos h2, inB_iff]
      have hw : wordL t.text.toList = 1 ∨ wordL t.text.toList = 2 := by
        rcases h2 with e | e
        · rw [e] at hw1; left; simpa using hw1
        · rw [e] at hw2; right; simpa using hw2
      have hno : ¬ t.text.toList ∈ fiveL.map ByteArray.toList := fun hm => by have := five_word _ hm; omega
      simp only [hno, or_false]
    · rw [if_neg h2, inB_iff]
      have hw : wordL t.text.toList ≠ 1 ∧ wordL t.text.toList ≠ 2 := by
        constructor
        · intro e; rw [e] at hw1; simp at hw1; omega
        · intro e; rw [e] at hw2; simp at hw2; omega
      have hno : ¬ t.text.toList ∈ fourL.map ByteArray.toList := fun hm => by have := four_word _ hm; omega
      simp only [hno, false_or]
theorem endsF_eq {tk : List Tok} (h : ∀ t ∈ tk, KOK t) (at_ : Nat) : endsF tk at_ = endF tk at_ := by
  unfold endsF endsB endF
  cases hl : tk.getLast? with
  | none => rfl
  | some t => simp only [endsT_eq (h t (List.mem_of_getLast? hl))]

def lineB (s : ByteArray) (a n : Nat) : Bool := (List.range n).any fun j => byteN s (a + j) == 10
theorem lineB_succ (s : ByteArray) (a n : Nat) : lineB s a (n + 1) = (lineB s a n || byteN s (a + n) == 10) := by
  simp [lineB, List.range_succ]
theorem line_eq (s : ByteArray) (a n : Nat) (h : a + n ≤ s.size) : lineB s a n = decide (0 ≤ Lib.indexByte (s.extract a (a + n)).data.toList 10) := by
  have hz : (s.extract a (a + n)).size = n := ext_size h
  have hbyte : ∀ j, j < n → ((s.extract a (a + n)).data.toList[j]? = some 10 ↔ byteN s (a + j) = 10) := by
    intro j hj
    rw [← byteN_ext s a (a + n) j (by omega) h]
    unfold byteN
    have hl : j < (s.extract a (a + n)).data.toList.length := by
      have : (s.extract a (a + n)).data.toList.length = (s.extract a (a + n)).size := rfl
      omega
    rw [List.getD_eq_getElem?_getD, List.getElem?_eq_getElem hl]
    simp only [Option.some.injEq, Option.getD_some]
    exact ⟨fun e => by rw [e]; rfl, fun e => UInt8.toNat_inj.1 e⟩
  have hge := Lib.indexByte_ge (s.extract a (a + n)).data.toList 10
  by_cases hn : Lib.indexByte (s.extract a (a + n)).data.toList 10 = -1
  · rw [hn]
    have := Lib.indexByte_none hn
    rw [show decide ((0 : Int) ≤ -1) = false from by decide]
    unfold lineB
    rw [List.any_eq_false]
    intro j hj
    rw [List.mem_range] at hj
    simp only [beq_iff_eq]
    intro e
    exact this j ((hbyte j hj).2 e)
  · obtain ⟨o, ho⟩ : ∃ o : Nat, Lib.indexByte (s.extract a (a + n)).data.toList 10 = o := ⟨(Lib.indexByte (s.extract a (a + n)).data.toList 10).toNat, by omega⟩
    obtain ⟨h1, _⟩ := Lib.indexByte_some ho
    rw [ho, show decide ((0 : Int) ≤ (o : Int)) = true from by simp]
    have hon : o < n := by
      by_cases hc : o < (s.extract a (a + n)).data.toList.length
      · have : (s.extract a (a + n)).data.toList.length = (s.extract a (a + n)).size := rfl
        omega
      · rw [List.getElem?_eq_none (by omega)] at h1; cases h1
    exact List.any_eq_true.2 ⟨o, List.mem_range.2 hon, by simpa using (hbyte o hon).1 h1⟩

def wordEnd (s : ByteArray) : Nat → Nat → Nat
  | 0, k => k
  | f + 1, k => if k < s.size then (if letterN (byteN s k) || figureN (byteN s k) then wordEnd s f (k + 1) else k) else k

/-- One step of the document's scanner. -/
def refStepF (s : ByteArray) (tk nt : List Tok) (a : Nat) : Res :=
  if a = 0 ∧ byteN s a = 239 ∧ byteN s 1 = 187 ∧ byteN s 2 = 191 then some (tk, nt, 3)
  else if byteN s a = 10 then some (endsF tk a, nt, 1)
  else if byteN s a = 32 ∨ byteN s a = 9 ∨ byteN s a = 13 then some (tk, nt, 1)
  else if refNoteF s a ≠ 0 then
    (if refNoteF s a < 0 then none
     else some (if lineB s a ((refNoteF s a).toNat - a) then endsF tk a else tk, nt ++ [⟨0, s.extract a (refNoteF s a).toNat, a⟩], (refNoteF s a).toNat - a))
  else if letterN (byteN s a) || figureN (byteN s a) then
    some (tk ++ [⟨if letterN (byteN s a) then 1 + wordL (s.extract a (wordEnd s (s.size + 1) (a + 1))).toList else 4, s.extract a (wordEnd s (s.size + 1) (a + 1)), a⟩], nt, wordEnd s (s.size + 1) (a + 1) - a)
  else if byteN s a = 34 ∨ byteN s a = 96 then
    (if refQuotedF s (byteN s a) (s.size + 1) (a + 1) < 0 then none
     else some (tk ++ [⟨5, s.extract a (refQuotedF s (byteN s a) (s.size + 1) (a + 1)).toNat, a⟩], nt, (refQuotedF s (byteN s a) (s.size + 1) (a + 1)).toNat - a))
  else if refSignF s a = 0 then none
  else some (tk ++ [⟨6, s.extract a (a + refSignF s a), a⟩], nt, refSignF s a)

/-- e is the first place from k on where p holds of the byte, or the end. -/
def FirstAt (s : ByteArray) (p : Nat → Bool) (k e : Nat) : Prop := k ≤ e ∧ e ≤ s.size ∧ (∀ j, k ≤ j → j < e → p (byteN s j) = false) ∧ (e < s.size → p (byteN s e) = true)
theorem FirstAt.uniq {s : ByteArray} {p : Nat → Bool} {k a b : Nat} (h : FirstAt s p k a) (g : FirstAt s p k b) : a = b := by
  obtain ⟨h1, h2, h3, h4⟩ := h
  obtain ⟨g1, g2, g3, g4⟩ := g
  rcases Nat.lt_trichotomy a b with hc | hc | hc
  · have e1 := h4 (by omega)
    rw [g3 a h1 hc] at e1; cases e1
  · exact hc
  · have e1 := g4 (by omega)
    rw [h3 b g1 hc] at e1; cases e1
theorem nlAt_first (s : ByteArray) : ∀ (g k : Nat), s.size < g + k → k ≤ s.size → FirstAt s (fun c => c == 10) k (nlAt s g k) := by
  intro g
  induction g with
  | zero => intro k h1 h2; omega
  | succ g ih =>
    intro k h1 h2
    rw [nlAt]
    by_cases hlt : k < s.size
    · rw [if_pos hlt]
      by_cases h10 : byteN s k = 10
      · rw [if_pos h10]
        exact ⟨Nat.le_refl _, h2, fun j a b => by omega, fun _ => by simp [h10]⟩
      · rw [if_neg h10]
        obtain ⟨i1, i2, i3, i4⟩ := ih (k + 1) (by omega) (by omega)
        refine ⟨by omega, i2, fun j a b => ?_, i4⟩
        by_cases hj : j = k
        · subst hj; simp [h10]
        · exact i3 j (by omega) b
    · rw [if_neg hlt]
      exact ⟨Nat.le_refl _, h2, fun j a b => by omega, fun h => by omega⟩
theorem wordEnd_first (s : ByteArray) : ∀ (g k : Nat), s.size < g + k → k ≤ s.size → FirstAt s (fun c => !(letterN c || figureN c)) k (wordEnd s g k) := by
  intro g
  induction g with
  | zero => intro k h1 h2; omega
  | succ g ih =>
    intro k h1 h2
    rw [wordEnd]
    by_cases hlt : k < s.size
    · rw [if_pos hlt]
      cases h10 : letterN (byteN s k) || figureN (byteN s k) with
      | false =>
        rw [if_neg (by decide)]
        exact ⟨Nat.le_refl _, h2, fun j a b => by omega, fun _ => by simp only [h10]; rfl⟩
      | true =>
        rw [if_pos rfl]
        obtain ⟨i1, i2, i3, i4⟩ := ih (k + 1) (by omega) (by omega)
        refine ⟨by omega, i2, fun j a b => ?_, i4⟩
        by_cases hj : j = k
        · subst hj; simp only [h10]; rfl
        · exact i3 j (by omega) b
    · rw [if_neg hlt]
      exact ⟨Nat.le_refl _, h2, fun j a b => by omega, fun h => by omega⟩
theorem before_first (s : ByteArray) (a : Nat) (q : Int → Bool) (p : Nat → Bool) (v : Bool) (hq : ∀ n : Nat, n < 128 → q (n : Int) = p n) (hv : ∀ n : Nat, 128 ≤ n → q (n : Int) = v ∧ p n = v) :
    ∀ (f i : Nat), (s.extract a s.size).size < f + i → a + i ≤ s.size → FirstAt s p (a + i) (a + beforeF (s.extract a s.size) q f i) := by
  intro f
  induction f with
  | zero =>
    intro i h1 h2
    have hz : (s.extract a s.size).size = s.size - a := by simp
    omega
  | succ f ih =>
    intro i h1 h2
    have hz : (s.extract a s.size).size = s.size - a := by simp
    rw [beforeF]
    by_cases hlt : a + i < s.size
    · rw [if_pos (by omega), decode_tail s a i hlt]
      have hw := dec_width s (a + i) hlt
      cases hqq : q ((Utf8.decode s (a + i)).1 : Nat) with
      | true =>
        rw [if_pos rfl]
        refine ⟨Nat.le_refl _, h2, fun j x y => by omega, fun _ => ?_⟩
        rcases dec_byte s (a + i) hlt with ⟨h4, h5, h6⟩ | ⟨h4, h5⟩
        · rw [h4, hq _ h6] at hqq; exact hqq
        · rw [(hv _ h4).1] at hqq; rw [(hv _ h5).2]; exact hqq
      | false =>
        rw [if_neg (by decide)]
        obtain ⟨i1, i2, i3, i4⟩ := ih (i + (Utf8.decode s (a + i)).2) (by omega) (by omega)
        refine ⟨by omega, i2, fun j x y => ?_, i4⟩
        by_cases hj : a + (i + (Utf8.decode s (a + i)).2) ≤ j
        · exact i3 j hj y
        · rcases dec_byte s (a + i) hlt with ⟨h4, h5, h6⟩ | ⟨h4, h5⟩
          · obtain rfl : j = a + i := by omega
            rw [h4, hq _ h6] at hqq; exact hqq
          · rw [(hv _ h4).1] at hqq
            have hb : 128 ≤ byteN s j := by
              by_cases h0 : j = a + i
              · subst h0; exact h5
              · have := inner_hi s (a + i) (j - (a + i)) hlt (by omega) (by omega)
                rw [show a + i + (j - (a + i)) = j from by omega] at this
                exact this
            rw [(hv _ hb).2]; exact hqq
    · rw [if_neg (by omega)]
      have e : a + (s.extract a s.size).size = a + i := by omega
      rw [e]
      exact ⟨Nat.le_refl _, h2, fun j x y => by omega, fun h => by omega⟩
theorem before_nl (s : ByteArray) (a : Nat) (ha : a ≤ s.size) : a + beforeF (s.extract a s.size) newlineI ((s.extract a s.size).size + 1) 0 = nlAt s (s.size + 1) a :=
  (before_first s a newlineI (fun c => c == 10) false (fun n _ => by rw [Bool.eq_iff_iff]; simp [newlineI]; omega) (fun n h => ⟨by simp [newlineI]; omega, by simp; omega⟩) _ 0 (by omega) ha).uniq (nlAt_first s _ _ (by omega) ha)
theorem before_word (s : ByteArray) (a : Nat) (ha : a < s.size) (hc : (letterN (byteN s a) || figureN (byteN s a)) = true) : a + beforeF (s.extract a s.size) outsideI ((s.extract a s.size).size + 1) 0 = wordEnd s (s.size + 1) (a + 1) := by
  have h1 := before_first s a outsideI (fun c => !(letterN c || figureN c)) true (fun n _ => by simp only [outsideI, letter_byte, figure_byte, Bool.not_or])
    (fun n h => ⟨by simp only [outsideI, letter_byte, figure_byte, letter_big n h, figure_big n h]; rfl, by simp only [letter_big n h, figure_big n h]; rfl⟩) ((s.extract a s.size).size + 1) 0 (by omega) (by omega)
  have h2 := wordEnd_first s (s.size + 1) (a + 1) (by omega) (by omega)
  refine h1.uniq ⟨by have := h2.1; omega, h2.2.1, fun j x y => ?_, h2.2.2.2⟩
  by_cases hj : j = a
  · subst hj; simp only [hc]; rfl
  · exact h2.2.2.1 j (by omega) y

/-! The note over several lines. -/
theorem star_index (s : ByteArray) : ∀ (g k : Nat), s.size < g + k → k ≤ s.size →
    starAt s g k = if Lib.index (s.data.toList.drop (k + 2)) [42, 47] = -1 then -1 else (k : Int) + Lib.index (s.data.toList.drop (k + 2)) [42, 47] + 4 := by
  intro g
  induction g with
  | zero => intro k h1 h2; omega
  | succ g ih =>
    intro k h1 h2
    have hlen : s.data.toList.length = s.size := by simp
    have hb : ∀ j, j < s.size → s.data.toList[j]? = some (s.data.toList.getD j 0) := by
      intro j hj; rw [List.getD_eq_getElem?_getD, List.getElem?_eq_getElem (by omega)]; rfl
    rw [starAt]
    by_cases h4 : k + 4 ≤ s.size
    · rw [if_pos h4]
      have hd : s.data.toList.drop (k + 2) = s.data.toList.getD (k + 2) 0 :: s.data.toList.getD (k + 3) 0 :: s.data.toList.drop (k + 4) := by
        rw [List.drop_eq_getElem_cons (by omega), List.drop_eq_getElem_cons (by omega)]
        simp only [List.getD_eq_getElem?_getD, List.getElem?_eq_getElem (show k + 2 < s.data.toList.length by omega), List.getElem?_eq_getElem (show k + 3 < s.data.toList.length by omega), Option.getD_some]
      have hd3 : s.data.toList.drop (k + 1 + 2) = s.data.toList.getD (k + 3) 0 :: s.data.toList.drop (k + 4) := by
        rw [List.drop_eq_getElem_cons (by omega)]
        simp only [List.getD_eq_getElem?_getD, List.getElem?_eq_getElem (show k + 1 + 2 < s.data.toList.length by omega), Option.getD_some]
      have hi := ih (k + 1) (by omega) (by omega)
      rw [hd3] at hi
      rw [hd, Lib.index]
      have hp : List.isPrefixOf [42, 47] (s.data.toList.getD (k + 2) 0 :: s.data.toList.getD (k + 3) 0 :: s.data.toList.drop (k + 4)) = (decide (byteN s (k + 2) = 42) && decide (byteN s (k + 3) = 47)) := by
        simp only [List.isPrefixOf, Bool.and_true]
        rw [Bool.eq_iff_iff]
        rw [Bool.and_eq_true, Bool.and_eq_true, beq_iff_eq, beq_iff_eq, decide_eq_true_eq, decide_eq_true_eq]
        unfold byteN
        constructor
        · rintro ⟨e1, e2⟩; rw [← e1, ← e2]; exact ⟨rfl, rfl⟩
        · rintro ⟨e1, e2⟩; exact ⟨(UInt8.toNat_inj.1 e1).symm, (UInt8.toNat_inj.1 e2).symm⟩
      rw [hp]
      have hge := Lib.index_ge (s.data.toList.getD (k + 3) 0 :: s.data.toList.drop (k + 4)) [42, 47]
      generalize Lib.index (s.data.toList.getD (k + 3) 0 :: s.data.toList.drop (k + 4)) [42, 47] = x at hi hge
      by_cases a1 : byteN s (k + 2) = 42
      · by_cases a2 : byteN s (k + 3) = 47
        · simp [a1, a2]
        · simp only [a1, a2, if_true, if_false, decide_true, decide_false, Bool.and_false, Bool.false_eq_true]
          rw [hi]
          by_cases hx : x = -1
          · simp [hx]
          · have hx' : (x == -1) = false := by simpa using hx
            rw [if_neg hx, hx']
            simp only [Bool.false_eq_true, if_false]
            rw [if_neg (by omega)]; push_cast; omega
      · simp only [a1, if_true, if_false, decide_false, Bool.false_and, Bool.false_eq_true]
        rw [hi]
        by_cases hx : x = -1
        · simp [hx]
        · have hx' : (x == -1) = false := by simpa using hx
          rw [if_neg hx, hx']
          simp only [Bool.false_eq_true, if_false]
          rw [if_neg (by omega)]; push_cast; omega
    · rw [if_neg h4]
      rcases Lib.index_spec (s.data.toList.drop (k + 2)) [42, 47] with ⟨h, _⟩ | ⟨i, h, _⟩
      · rw [if_pos h]
      · have hr := Lib.index_room (s.data.toList.drop (k + 2)) [42, 47] (by rw [h]; omega)
        rw [h] at hr
        simp at hr
        omega

/-! Texts. -/
theorem rq_fuel (s : ByteArray) (q : Nat) : ∀ (f g k : Nat), s.size < f + k → s.size < g + k → refQuotedF s q f k = refQuotedF s q g k := by
  intro f
  induction f with
  | zero =>
    intro g k h1 h2
    cases g with
    | zero => rfl
    | succ g => rw [refQuotedF, refQuotedF, if_neg (by omega)]
  | succ f ih =>
    intro g k h1 h2
    cases g with
    | zero => rw [refQuotedF, refQuotedF, if_neg (by omega)]
    | succ g =>
      rw [refQuotedF, refQuotedF, ih g (k + 2) (by omega) (by omega), ih g (k + 1) (by omega) (by omega)]
def RQ (s : ByteArray) (q k : Nat) : Int := refQuotedF s q (s.size + 1) k
theorem rq_step (s : ByteArray) (q k : Nat) : RQ s q k = if k < s.size then
      (if q = 34 ∧ byteN s k = 10 then -1
       else if byteN s k = q then (k : Int) + 1
       else if q = 34 ∧ byteN s k = 92 then (if k + 1 < s.size ∧ byteN s (k + 1) = 10 then -1 else RQ s q (k + 2))
       else RQ s q (k + 1))
    else -1 := by
  unfold RQ
  rw [refQuotedF, rq_fuel s q s.size (s.size + 1) (k + 2) (by omega) (by omega), rq_fuel s q s.size (s.size + 1) (k + 1) (by omega) (by omega)]
theorem rq_high (s : ByteArray) (k : Nat) : ∀ m, (∀ j, j < m → k + j < s.size ∧ 128 ≤ byteN s (k + j)) → RQ s 34 k = RQ s 34 (k + m) := by
  intro m
  induction m with
  | zero => intro _; rfl
  | succ m ih =>
    intro h
    rw [ih (fun j hj => h j (by omega)), rq_step s 34 (k + m)]
    obtain ⟨h1, h2⟩ := h m (by omega)
    rw [if_pos h1, if_neg (by omega), if_neg (by omega), if_neg (by omega)]
    rfl
/-- What the document tells of a place behind a backslash. -/
def RB (s : ByteArray) (k : Nat) : Int := if k < s.size ∧ byteN s k = 10 then -1 else RQ s 34 (k + 1)
def toRef (a : Nat) (x : Int) : Int := if x = 0 then -1 else (a : Int) + x
theorem toRef_0 (a : Nat) : toRef a 0 = -1 := rfl
theorem toRef_2 (a i : Nat) : toRef a ((i : Int) + 2) = (a : Int) + i + 2 := by unfold toRef; rw [if_neg (by omega)]; omega
theorem quoted_ref (s : ByteArray) (a : Nat) (ha : a + 1 ≤ s.size) : ∀ (f i : Nat) (b : Bool), s.size < f + (a + 1 + i) → a + 1 + i ≤ s.size →
    toRef a (quotedF (s.extract (a + 1) s.size) f i b) = if b then RB s (a + 1 + i) else RQ s 34 (a + 1 + i) := by
  intro f
  induction f with
  | zero => intro i b h1 h2; omega
  | succ f ih =>
    intro i b h1 h2
    have hz : (s.extract (a + 1) s.size).size = s.size - (a + 1) := by simp
    rw [quotedF]
    by_cases hlt : a + 1 + i < s.size
    · rw [if_pos (show i < (s.extract (a + 1) s.size).size by omega), decode_tail s (a + 1) i hlt]
      have hw := dec_width s (a + 1 + i) hlt
      have I1 := ih (i + (Utf8.decode s (a + 1 + i)).2) false (by omega) (by omega)
      have I2 := ih (i + (Utf8.decode s (a + 1 + i)).2) true (by omega) (by omega)
      simp only [Bool.false_eq_true, if_false, if_true] at I1 I2
      rw [show a + 1 + (i + (Utf8.decode s (a + 1 + i)).2) = a + 1 + i + (Utf8.decode s (a + 1 + i)).2 from by omega] at I1 I2
      rcases dec_byte s (a + 1 + i) hlt with ⟨h4, h5, h6⟩ | ⟨h4, h5⟩
      · rw [h5] at I1 I2 ⊢
        rw [h4]
        by_cases h10 : byteN s (a + 1 + i) = 10
        · rw [if_pos h10, toRef_0]
          cases b
          · simp only [Bool.false_eq_true, if_false]
            rw [rq_step, if_pos hlt, if_pos ⟨rfl, h10⟩]
          · simp only [if_true]
            rw [RB, if_pos ⟨hlt, h10⟩]
        · rw [if_neg h10]
          cases b
          · simp only [Bool.false_eq_true, if_false]
            rw [rq_step, if_pos hlt, if_neg (show ¬((34 : Nat) = 34 ∧ byteN s (a + 1 + i) = 10) by omega)]
            by_cases h92 : byteN s (a + 1 + i) = 92
            · rw [if_pos h92, if_neg (show ¬ byteN s (a + 1 + i) = 34 by omega), if_pos ⟨rfl, h92⟩, I2, RB]
            · rw [if_neg h92]
              by_cases h34 : byteN s (a + 1 + i) = 34
              · rw [if_pos h34, if_pos h34, toRef_2]
                push_cast; omega
              · rw [if_neg h34, if_neg h34, if_neg (by omega), I1]
          · simp only [if_true]
            rw [RB, if_neg (by omega), I1]
      · rw [if_neg (show ¬ (Utf8.decode s (a + 1 + i)).1 = 10 by omega)]
        have hin : ∀ j, j < (Utf8.decode s (a + 1 + i)).2 → a + 1 + i + j < s.size ∧ 128 ≤ byteN s (a + 1 + i + j) := by
          intro j hj
          refine ⟨by omega, ?_⟩
          by_cases h0 : j = 0
          · subst h0; exact h5
          · exact inner_hi s (a + 1 + i) j hlt (by omega) hj
        cases b
        · simp only [Bool.false_eq_true, if_false]
          rw [if_neg (show ¬ (Utf8.decode s (a + 1 + i)).1 = 92 by omega), if_neg (show ¬ (Utf8.decode s (a + 1 + i)).1 = 34 by omega), I1]
          exact (rq_high s _ _ hin).symm
        · simp only [if_true]
          rw [RB, if_neg (by omega), I1]
          have := rq_high s (a + 1 + i + 1) ((Utf8.decode s (a + 1 + i)).2 - 1) (fun j hj => by
            have := hin (j + 1) (by omega)
            rw [show a + 1 + i + 1 + j = a + 1 + i + (j + 1) from by omega]
            exact this)
          rw [this]
          congr 1; omega
    · rw [if_neg (show ¬ i < (s.extract (a + 1) s.size).size by omega), toRef_0]
      cases b
      · simp only [Bool.false_eq_true, if_false]
        rw [rq_step, if_neg hlt]
      · simp only [if_true]
        rw [RB, if_neg (by omega), rq_step, if_neg (by omega)]
theorem tick_ref (s : ByteArray) : ∀ (m k : Nat), s.size < m + k → k ≤ s.size →
    RQ s 96 k = if Lib.index (s.data.toList.drop k) [96] = -1 then -1 else (k : Int) + Lib.index (s.data.toList.drop k) [96] + 1 := by
  intro m
  induction m with
  | zero => intro k h1 h2; omega
  | succ m ih =>
    intro k h1 h2
    have hlen : s.data.toList.length = s.size := by simp
    rw [rq_step]
    by_cases hlt : k < s.size
    · rw [if_pos hlt, if_neg (by omega)]
      have hd : s.data.toList.drop k = s.data.toList.getD k 0 :: s.data.toList.drop (k + 1) := by
        rw [List.drop_eq_getElem_cons (by omega)]
        simp only [List.getD_eq_getElem?_getD, List.getElem?_eq_getElem (show k < s.data.toList.length by omega), Option.getD_some]
      have hi := ih (k + 1) (by omega) (by omega)
      have hge := Lib.index_ge (s.data.toList.drop (k + 1)) [96]
      rw [hd, Lib.index]
      generalize Lib.index (s.data.toList.drop (k + 1)) [96] = x at hi hge
      have hp : List.isPrefixOf [96] (s.data.toList.getD k 0 :: s.data.toList.drop (k + 1)) = decide (byteN s k = 96) := by
        simp only [List.isPrefixOf, Bool.and_true]
        rw [Bool.eq_iff_iff, beq_iff_eq, decide_eq_true_eq]
        unfold byteN
        exact ⟨fun e => by rw [← e]; rfl, fun e => (UInt8.toNat_inj.1 e).symm⟩
      rw [hp]
      by_cases a1 : byteN s k = 96
      · simp [a1]
      · rw [if_neg a1, if_neg (by omega), hi]
        simp only [a1, decide_false, Bool.false_eq_true, if_false]
        by_cases hx : x = -1
        · simp [hx]
        · have hx' : (x == -1) = false := by simpa using hx
          rw [if_neg hx, hx']
          simp only [Bool.false_eq_true, if_false]
          rw [if_neg (by omega)]; push_cast; omega
    · rw [if_neg hlt]
      have : s.data.toList.drop k = [] := List.drop_eq_nil_of_le (by omega)
      rw [this]; rfl
end Go.Proofs.YtghfmfgdcpihfaaDoor
