import Derived.Test.YtjgpopjnmonlkaaGreatDoorTgAc
namespace Go.Proofs.YtjgpopjnmonlkaaGreatDoor
open Go.RowKit Go.Shelf
set_option linter.unusedSimpArgs false
set_option linter.unusedVariables false
set_option linter.unusedSectionVars false

/-! Layer 5: what is written is read as it was (plain). -/
theorem skip_blank (l : List UInt8) : skipF (32 :: l) = skipF l := by
  unfold skipF
  rw [List.dropWhile_cons, if_pos (by decide)]
theorem takesB_skip {sg l l2 : List UInt8} (h : skipF l = skipF l2) : takesB sg l = takesB sg l2 := by unfold takesB; rw [h]
theorem takesL_skip {sg l l2 : List UInt8} (h : skipF l = skipF l2) : takesL sg l = takesL sg l2 := by unfold takesL; rw [takesB_skip h, h]
theorem factorF_skip {l l2 : List UInt8} (h : skipF l = skipF l2) : ∀ n, factorF n l = factorF n l2
  | 0 => by rw [factorF, factorF]
  | n + 1 => by
    rw [factorF, factorF, takesB_skip h, takesL_skip h, takesB_skip h, takesL_skip h]
    unfold tagF
    rw [h]
theorem skip_id {b : UInt8} (l : List UInt8) (h1 : b ≠ 32) (h2 : b ≠ 9) : skipF (b :: l) = b :: l := by
  unfold skipF
  rw [List.dropWhile_cons, if_neg (by simp [h1, h2])]
theorem skip_len (l : List UInt8) : (skipF l).length ≤ l.length := (List.dropWhile_suffix (fun b => b == 32 || b == 9) (l := l)).length_le
theorem rowF_skip {part : Part} {op : ByteArray} {l l2 : List UInt8} (h : part l = part l2) : rowF part op l = rowF part op l2 := by
  unfold rowF; rw [h]
/-- A row's further parts. -/
theorem rowLoop_back {part : Part} {sg : List UInt8} {piece : Ex → List UInt8} {good : List UInt8 → Prop} (hs1 : ∀ l, skipF (sg ++ l) = sg ++ l) (hs0 : 0 < sg.length)
    (hsk : ∀ l, part (32 :: l) = part l) (hsep : ∀ l, good (32 :: (sg ++ 32 :: l))) (r : List UInt8) (hg : good r) (ht : takesB sg r = false) :
    ∀ (ks : List Ex) (m : Nat) (r0 : List UInt8) (acc : List Ex), ks.length < m → (∀ k ∈ ks, ∀ r, good r → ∃ r', part (piece k ++ r) = some (k, r') ∧ skipF r' = skipF r) →
      skipF r0 = skipF (Lib.joinTail (32 :: (sg ++ [32])) (ks.map piece) ++ r) → rowLoop part sg m r0 acc = some (acc ++ ks, skipF r)
  | [], 0, r0, acc, hm, hp, h => by omega
  | [], m + 1, r0, acc, hm, hp, h => by
    have e : skipF r0 = skipF r := h
    rw [rowLoop, takesB_skip e, if_neg (by rw [ht]; decide), takesL_skip e]
    unfold takesL
    rw [if_neg (by rw [ht]; decide), List.append_nil]
  | k :: ks, 0, r0, acc, hm, hp, h => by omega
  | k :: ks, m + 1, r0, acc, hm, hp, h => by
    have e1 : Lib.joinTail (32 :: (sg ++ [32])) ((k :: ks).map piece) ++ r = 32 :: (sg ++ 32 :: (piece k ++ (Lib.joinTail (32 :: (sg ++ [32])) (ks.map piece) ++ r))) := by
      simp [Lib.joinTail]
    have e : skipF r0 = sg ++ 32 :: (piece k ++ (Lib.joinTail (32 :: (sg ++ [32])) (ks.map piece) ++ r)) := by rw [h, e1, skip_blank, hs1]
    have hgt : good (Lib.joinTail (32 :: (sg ++ [32])) (ks.map piece) ++ r) := by
      cases ks with
      | nil => exact hg
      | cons k2 ks =>
        have : Lib.joinTail (32 :: (sg ++ [32])) ((k2 :: ks).map piece) ++ r = 32 :: (sg ++ 32 :: (piece k2 ++ (Lib.joinTail (32 :: (sg ++ [32])) (ks.map piece) ++ r))) := by simp [Lib.joinTail]
        rw [this]
        exact hsep _
    obtain ⟨r', h1, h2⟩ := hp k (by simp) _ hgt
    have hb : takesB sg r0 = true := by
      unfold takesB
      rw [e, List.isPrefixOf_iff_prefix]
      exact List.prefix_append _ _
    have hl : takesL sg r0 = 32 :: (piece k ++ (Lib.joinTail (32 :: (sg ++ [32])) (ks.map piece) ++ r)) := by
      unfold takesL
      rw [if_pos hb, e, List.drop_left]
    rw [rowLoop, if_pos hb, hl, hsk, h1]
    simp only
    rw [rowLoop_back hs1 hs0 hsk hsep r hg ht ks m r' (acc ++ [k]) (by simp at hm; omega) (fun k hk => hp k (by simp [hk])) h2]
    simp
theorem tail_len (sep : List UInt8) (hs : 2 ≤ sep.length) : ∀ l : List (List UInt8), 2 * l.length ≤ (Lib.joinTail sep l).length
  | [] => Nat.le_refl _
  | x :: l => by
    have h := tail_len sep hs l
    have e : Lib.joinTail sep (x :: l) = sep ++ (x ++ Lib.joinTail sep l) := by simp [Lib.joinTail]
    rw [e, List.length_append, List.length_append, List.length_cons]
    omega
theorem rowF_back {part : Part} {op : ByteArray} {piece : Ex → List UInt8} {good : List UInt8 → Prop} (hs1 : ∀ l, skipF (op.data.toList ++ l) = op.data.toList ++ l) (hs0 : 0 < op.data.toList.length)
    (hsk : ∀ l, part (32 :: l) = part l) (hsep : ∀ l, good (32 :: (op.data.toList ++ 32 :: l))) (r : List UInt8) (hg : good r) (ht : takesB op.data.toList r = false)
    (k : Ex) (ks : List Ex) (hp : ∀ x ∈ k :: ks, ∀ r, good r → ∃ r', part (piece x ++ r) = some (x, r') ∧ skipF r' = skipF r) :
    rowF part op (Lib.join ((k :: ks).map piece) (32 :: (op.data.toList ++ [32])) ++ r) = some (oneOr op (k :: ks), skipF r) := by
  rw [List.map_cons, Lib.join_cons, List.append_assoc]
  have hgt : good (Lib.joinTail (32 :: (op.data.toList ++ [32])) (ks.map piece) ++ r) := by
    cases ks with
    | nil => exact hg
    | cons k2 ks =>
      have : Lib.joinTail (32 :: (op.data.toList ++ [32])) ((k2 :: ks).map piece) ++ r = 32 :: (op.data.toList ++ 32 :: (piece k2 ++ (Lib.joinTail (32 :: (op.data.toList ++ [32])) (ks.map piece) ++ r))) := by simp [Lib.joinTail]
      rw [this]
      exact hsep _
  obtain ⟨r', h1, h2⟩ := hp k (by simp) _ hgt
  have hlen : ks.length < r'.length + 1 := by
    cases hks : ks with
    | nil => simp
    | cons k2 k3 =>
      have e1 : Lib.joinTail (32 :: (op.data.toList ++ [32])) (ks.map piece) ++ r = 32 :: (op.data.toList ++ 32 :: (piece k2 ++ (Lib.joinTail (32 :: (op.data.toList ++ [32])) (k3.map piece) ++ r))) := by rw [hks]; simp [Lib.joinTail]
      rw [e1, skip_blank, hs1] at h2
      have h3 := skip_len r'
      have h4 := congrArg List.length h2
      have h5 := tail_len (32 :: (op.data.toList ++ [32])) (by simp) (k3.map piece)
      rw [List.length_map] at h5
      simp only [List.length_append, List.length_cons] at h4 h5 ⊢
      omega
  unfold rowF
  rw [h1]
  simp only
  rw [rowLoop_back hs1 hs0 hsk hsep r hg ht ks (r'.length + 1) r' [k] hlen (fun x hx => hp x (by simp [hx])) h2]
  rfl
/-! Texts as lists. -/
def txt (x : Ex) : List UInt8 := (textX x).data.toList
def pieceL (op : ByteArray) (k : Ex) : List UInt8 := if brF op k.op = true then 40 :: (txt k ++ [41]) else txt k
theorem app_list (a b : ByteArray) : (a ++ b).data.toList = a.data.toList ++ b.data.toList := by rw [ByteArray.data_append, Array.toList_append]
theorem piece_list (op : ByteArray) (k : Ex) : (withB (brF op k.op) (textX k)).data.toList = pieceL op k := by
  unfold withB pieceL txt
  split
  · rw [app_list, app_list]; rfl
  · rfl
theorem txt_leaf (tag : ByteArray) (kids : List Ex) : txt (.node nilB tag kids) = tag.data.toList := by
  unfold txt
  rw [textX, if_pos rfl]
theorem txt_not (tag : ByteArray) (k : Ex) : txt (.node opNot tag [k]) = 33 :: pieceL opNot k := by
  unfold txt
  rw [textX, if_neg (by decide), if_pos rfl, partsX_map, app_list, List.map_cons, List.headD_cons, piece_list]
  rfl
theorem txt_row (op tag : ByteArray) (kids : List Ex) (h0 : op ≠ nilB) (h1 : op ≠ opNot) : txt (.node op tag kids) = Lib.join (kids.map (pieceL op)) (32 :: (op.data.toList ++ [32])) := by
  unfold txt
  rw [textX, if_neg h0, if_neg h1, partsX_map]
  unfold joinB sepB
  rw [app_list, app_list]
  show Lib.join _ _ = _
  congr 1
  rw [List.map_map]
  apply List.map_congr_left
  intro k _
  exact piece_list op k
theorem tagLen_blank (l : List UInt8) : tagLen (32 :: l) = 0 := by
  unfold tagLen
  rw [List.takeWhile_cons, if_neg (by decide)]
  rfl
theorem tagLen_close (l : List UInt8) : tagLen (41 :: l) = 0 := by
  unfold tagLen
  rw [List.takeWhile_cons, if_neg (by decide)]
  rfl
theorem tw_stop : ∀ (l r : List UInt8), l.all mayB = true → tagLen r = 0 → (l ++ r).takeWhile mayB = l
  | [], r, _, h => by
    unfold tagLen at h
    exact List.eq_nil_of_length_eq_zero h
  | b :: l, r, ha, h => by
    simp only [List.all_cons, Bool.and_eq_true] at ha
    rw [List.cons_append, List.takeWhile_cons, if_pos ha.1, tw_stop l r ha.2 h]
theorem may_neq {b : UInt8} (h : mayB b = true) : b ≠ 32 ∧ b ≠ 9 ∧ b ≠ 33 ∧ b ≠ 40 := by
  refine ⟨?_, ?_, ?_, ?_⟩ <;> (intro e; subst e; revert h; decide)
/-- What stands alone, n within one another. -/
def FacP (n : Nat) : Prop := ∀ (x : Ex) (r : List UInt8), rightF n x = true → tagLen r = 0 → factorF n (pieceL opNot x ++ r) = some (x, r)
theorem brNot (op : ByteArray) : brF opNot op = (decide (op = opOr) || decide (op = opAnd)) := by
  unfold brF
  have : opNot ≠ opOr := by decide
  simp [this]
theorem brAnd (op : ByteArray) : brF opAnd op = brF opNot op := by
  rw [brNot]
  unfold brF
  have : opAnd ≠ opOr := by decide
  simp [this]
theorem brOr (op : ByteArray) : brF opOr op = decide (op = opOr) := by
  unfold brF
  simp
theorem right_cases {n : Nat} {x : Ex} (h : rightF n x = true) : ∃ m, n = m + 1 ∧ ((∃ tag, x = .node nilB tag [] ∧ tagOK tag = true) ∨ (∃ k, x = .node opNot nilB [k] ∧ rightF m k = true) ∨ ∃ op k ks, (op = opAnd ∨ op = opOr) ∧ x = .node op nilB (k :: ks) ∧ ks ≠ [] ∧ ∀ y ∈ k :: ks, rightF m y = true) := by
  cases n with
  | zero => simp [rightF] at h
  | succ m =>
    refine ⟨m, rfl, ?_⟩
    cases x with
    | node op tag kids =>
      rw [rightF] at h
      split at h
      · rename_i h0
        subst h0
        rw [Bool.and_eq_true, List.isEmpty_iff] at h
        exact .inl ⟨tag, by rw [h.2], h.1⟩
      · split at h
        · rename_i h0 h1
          subst h1
          simp only [Bool.and_eq_true, decide_eq_true_eq, rightsF_all, List.all_eq_true] at h
          obtain ⟨k, rfl⟩ := List.length_eq_one_iff.mp h.1
          exact .inr (.inl ⟨k, by rw [h.2.1], h.2.2 k (by simp)⟩)
        · split at h
          · rename_i h0 h1 h2
            simp only [Bool.and_eq_true, decide_eq_true_eq, rightsF_all, List.all_eq_true] at h
            match kids, h with
            | k :: ks, h => exact .inr (.inr ⟨op, k, ks, h2, by rw [h.2.1], by rintro rfl; simp at h, h.2.2⟩)
          · cases h
theorem fac_part {n : Nat} (hf : FacP n) (op : ByteArray) (hop : op = opNot ∨ op = opAnd) (x : Ex) (hx : rightF n x = true) (r : List UInt8) (hr : tagLen r = 0) : factorF n (pieceL op x ++ r) = some (x, r) := by
  have e : pieceL op x = pieceL opNot x := by
    rcases hop with rfl | rfl
    · rfl
    · unfold pieceL
      rw [brAnd]
  rw [e]
  exact hf x r hx hr
theorem skip_and (l : List UInt8) : skipF (opAnd.data.toList ++ l) = opAnd.data.toList ++ l := skip_id _ (by decide) (by decide)
theorem skip_or (l : List UInt8) : skipF (opOr.data.toList ++ l) = opOr.data.toList ++ l := skip_id _ (by decide) (by decide)
/-- Both: a row, to its end. -/
theorem and_back {n : Nat} (hf : FacP n) (k : Ex) (ks : List Ex) (hk : ∀ y ∈ k :: ks, rightF n y = true) (hks : ks ≠ []) (r : List UInt8) (hr : tagLen r = 0) (ht : takesB [38, 38] r = false) :
    rowF (factorF n) opAnd (txt (.node opAnd nilB (k :: ks)) ++ r) = some (.node opAnd nilB (k :: ks), skipF r) := by
  rw [txt_row _ _ _ (by decide) (by decide)]
  have h := rowF_back (part := factorF n) (op := opAnd) (piece := pieceL opAnd) (good := fun r => tagLen r = 0) skip_and (by decide) (fun l => factorF_skip (skip_blank l) n) (fun l => tagLen_blank _) r hr ht k ks
    (fun x hx r hr => ⟨r, fac_part hf opAnd (.inr rfl) x (hk x hx) r hr, rfl⟩)
  rw [h]
  cases ks with
  | nil => exact absurd rfl hks
  | cons _ _ => rfl
/-- One in a row of some: to its end. -/
theorem one_back {n : Nat} (hf : FacP n) (x : Ex) (hx : rightF n x = true) (r : List UInt8) (hr : tagLen r = 0) (ht : takesB [38, 38] r = false) :
    rowF (factorF n) opAnd (pieceL opNot x ++ r) = some (x, skipF r) := by
  unfold rowF
  rw [hf x r hx hr]
  simp only
  rw [rowLoop, if_neg (by show ¬ takesB [38, 38] r = true; rw [ht]; decide)]
  show some (oneOr opAnd [x], takesL [38, 38] r) = _
  unfold takesL
  rw [if_neg (by rw [ht]; decide)]
  rfl
theorem skip_skip (r : List UInt8) : skipF (skipF r) = skipF r := by
  induction r with
  | nil => rfl
  | cons b r ih =>
    unfold skipF at ih ⊢
    rw [List.dropWhile_cons]
    split
    · exact ih
    · rename_i h
      rw [List.dropWhile_cons, if_neg h]
theorem term_back {n : Nat} (hf : FacP n) (x : Ex) (hx : rightF n x = true) (r : List UInt8) (hr : tagLen r = 0 ∧ takesB [38, 38] r = false) :
    ∃ r', rowF (factorF n) opAnd (pieceL opOr x ++ r) = some (x, r') ∧ skipF r' = skipF r := by
  refine ⟨skipF r, ?_, skip_skip r⟩
  by_cases ho : x.op = opAnd
  · obtain ⟨m, rfl, hc⟩ := right_cases hx
    have e : pieceL opOr x = txt x := by
      unfold pieceL
      rw [brOr, ho, if_neg (by decide)]
    rw [e]
    rcases hc with ⟨tag, rfl, _⟩ | ⟨k, rfl, _⟩ | ⟨op, k, ks, _, rfl, hks, hk⟩
    · exact absurd (show nilB = opAnd from ho) (by decide)
    · exact absurd (show opNot = opAnd from ho) (by decide)
    · have : op = opAnd := ho
      subst this
      exact and_back hf k ks (fun y hy => rightF_mono m y (hk y hy)) hks r hr.1 hr.2
  · have e : pieceL opOr x = pieceL opNot x := by
      unfold pieceL
      rw [brOr, brNot, decide_eq_false ho, Bool.or_false]
    rw [e]
    exact one_back hf x hx r hr.1 hr.2
theorem sep_or (l : List UInt8) : tagLen (32 :: (opOr.data.toList ++ 32 :: l)) = 0 ∧ takesB [38, 38] (32 :: (opOr.data.toList ++ 32 :: l)) = false := by
  refine ⟨tagLen_blank _, ?_⟩
  unfold takesB
  rw [skip_blank, skip_or]
  rfl
/-- What ends a constraint. -/
def EndP (r : List UInt8) : Prop := tagLen r = 0 ∧ takesB [38, 38] r = false ∧ takesB [124, 124] r = false
theorem end_nil : EndP [] := ⟨by decide, by decide, by decide⟩
theorem end_close (l : List UInt8) : EndP (41 :: l) := by
  refine ⟨tagLen_close l, ?_, ?_⟩ <;> (unfold takesB; rw [skip_id l (by decide) (by decide)]; rfl)
theorem rowF_one {part : Part} {op : ByteArray} {l r : List UInt8} {x : Ex} (h : part l = some (x, r)) (ht : takesB op.data.toList r = false) : rowF part op l = some (x, skipF r) := by
  unfold rowF
  rw [h]
  simp only
  rw [rowLoop, if_neg (by rw [ht]; decide)]
  unfold takesL
  rw [if_neg (by rw [ht]; decide)]
  rfl
theorem cons_row {n : Nat} (hf : FacP n) (op : ByteArray) (hop : op = opAnd ∨ op = opOr) (k : Ex) (ks : List Ex) (hk : ∀ y ∈ k :: ks, rightF n y = true) (hks : ks ≠ []) (r : List UInt8) (hr : EndP r) :
    consF (factorF n) (txt (.node op nilB (k :: ks)) ++ r) = some (.node op nilB (k :: ks), skipF r) := by
  unfold consF
  rcases hop with rfl | rfl
  · have h := and_back hf k ks hk hks r hr.1 hr.2.1
    have := rowF_one (op := opOr) h (by rw [takesB_skip (skip_skip r)]; exact hr.2.2)
    rw [skip_skip] at this
    exact this
  · rw [txt_row _ _ _ (by decide) (by decide)]
    have h := rowF_back (part := rowF (factorF n) opAnd) (op := opOr) (piece := pieceL opOr) (good := fun r => tagLen r = 0 ∧ takesB [38, 38] r = false) skip_or (by decide) (fun l => rowF_skip (factorF_skip (skip_blank l) n)) sep_or r ⟨hr.1, hr.2.1⟩ hr.2.2 k ks
      (fun x hx r hr => term_back hf x (hk x hx) r hr)
    rw [h]
    cases ks with
    | nil => exact absurd rfl hks
    | cons _ _ => rfl
theorem fac_back : ∀ n, FacP n
  | 0 => by intro x r h; simp [rightF] at h
  | n + 1 => by
    intro x r hx hr
    have ih := fac_back n
    obtain ⟨m, hm, hc⟩ := right_cases hx
    obtain rfl : n = m := by omega
    rcases hc with ⟨tag, rfl, ht⟩ | ⟨k, rfl, hk⟩ | ⟨op, k, ks, hop, rfl, hks, hk⟩
    · have e : pieceL opNot (.node nilB tag []) = tag.data.toList := by
        unfold pieceL
        rw [brNot, if_neg (by show ¬ (decide (nilB = opOr) || decide (nilB = opAnd)) = true; decide), txt_leaf]
      rw [e]
      unfold tagOK at ht
      simp only [Bool.and_eq_true, decide_eq_true_eq] at ht
      have hne : tag.data.toList ≠ [] := by
        intro e
        have h2 : tag.data.toList.length = tag.size := by simp
        rw [e] at h2
        have h3 := ht.1
        simp only [List.length_nil] at h2
        omega
      have hts : (⟨tag.data.toList.toArray⟩ : ByteArray) = tag := rfl
      have hal := ht.2
      obtain ⟨l, hl⟩ : ∃ l, tag.data.toList = l := ⟨_, rfl⟩
      rw [hl] at hne hal hts ⊢
      cases l with
      | nil => exact absurd rfl hne
      | cons b t =>
        have hb : mayB b = true := by
          simp only [List.all_cons, Bool.and_eq_true] at hal
          exact hal.1
        obtain ⟨h1, h2, h3, h4⟩ := may_neq hb
        have hsk : skipF (b :: t ++ r) = b :: t ++ r := skip_id _ h1 h2
        have t1 : takesB [33] (b :: t ++ r) = false := by
          unfold takesB
          rw [hsk]
          simp [List.isPrefixOf, h3.symm]
        have t2 : takesB [40] (b :: t ++ r) = false := by
          unfold takesB
          rw [hsk]
          simp [List.isPrefixOf, h4.symm]
        rw [factorF, if_neg (by rw [t1]; decide), if_neg (by rw [t2]; decide)]
        unfold tagF tagLen
        rw [hsk, tw_stop (b :: t) r hal hr, if_neg (by simp), List.take_left, List.drop_left, hts]
    · have e : pieceL opNot (.node opNot nilB [k]) = 33 :: pieceL opNot k := by
        have : pieceL opNot (.node opNot nilB [k]) = txt (.node opNot nilB [k]) := by
          unfold pieceL
          rw [brNot, if_neg (by show ¬ (decide (opNot = opOr) || decide (opNot = opAnd)) = true; decide)]
        rw [this, txt_not]
      rw [e]
      have hb : takesB [33] (33 :: pieceL opNot k ++ r) = true := by
        unfold takesB
        rw [List.cons_append, skip_id _ (by decide) (by decide)]
        rfl
      have hl : takesL [33] (33 :: pieceL opNot k ++ r) = pieceL opNot k ++ r := by
        unfold takesL
        rw [if_pos hb, List.cons_append, skip_id _ (by decide) (by decide)]
        rfl
      rw [factorF, if_pos hb, hl, ih k r hk hr]
      rfl
    · have e : pieceL opNot (.node op nilB (k :: ks)) = 40 :: (txt (.node op nilB (k :: ks)) ++ [41]) := by
        unfold pieceL
        have hb : brF opNot (Ex.node op nilB (k :: ks)).op = true := by
          rw [brNot]
          show (decide (op = opOr) || decide (op = opAnd)) = true
          rcases hop with rfl | rfl <;> decide
        rw [if_pos hb]
      rw [e, List.cons_append]
      have h1 : takesB [33] (40 :: (txt (.node op nilB (k :: ks)) ++ [41] ++ r)) = false := by
        unfold takesB
        rw [skip_id _ (by decide) (by decide)]
        rfl
      have hb : takesB [40] (40 :: (txt (.node op nilB (k :: ks)) ++ [41] ++ r)) = true := by
        unfold takesB
        rw [skip_id _ (by decide) (by decide)]
        rfl
      have hl : takesL [40] (40 :: (txt (.node op nilB (k :: ks)) ++ [41] ++ r)) = txt (.node op nilB (k :: ks)) ++ 41 :: r := by
        unfold takesL
        rw [if_pos hb, skip_id _ (by decide) (by decide)]
        simp
      have hc := cons_row ih op hop k ks hk hks (41 :: r) (end_close r)
      have h2 : takesB [41] (skipF (41 :: r)) = true := by
        rw [takesB_skip (skip_skip _)]
        unfold takesB
        rw [skip_id _ (by decide) (by decide)]
        rfl
      have h3 : takesL [41] (skipF (41 :: r)) = r := by
        unfold takesL
        rw [if_pos h2, skip_skip, skip_id _ (by decide) (by decide)]
        rfl
      rw [factorF, if_neg (by rw [h1]; decide), if_pos hb, hl, hc]
      simp only
      rw [if_pos h2, h3]
/-- WHAT IS WRITTEN IS READ AS IT WAS. -/
theorem read_back (x : Ex) (hx : rightF 100 x = true) : readF (txt x) = some x := by
  have hf := fac_back 100
  have hc : consF (factorF 100) (txt x) = some (x, []) := by
    obtain ⟨m, hm, hc⟩ := right_cases hx
    obtain rfl : 99 = m := by omega
    by_cases hrow : x.op = opAnd ∨ x.op = opOr
    · rcases hc with ⟨tag, rfl, ht⟩ | ⟨k, rfl, hk⟩ | ⟨op, k, ks, hop, rfl, hks, hk⟩
      · rcases hrow with h | h
        · exact absurd (show nilB = opAnd from h) (by decide)
        · exact absurd (show nilB = opOr from h) (by decide)
      · rcases hrow with h | h
        · exact absurd (show opNot = opAnd from h) (by decide)
        · exact absurd (show opNot = opOr from h) (by decide)
      · have := cons_row hf op hop k ks (fun y hy => rightF_mono 99 y (hk y hy)) hks [] end_nil
        rw [List.append_nil] at this
        exact this
    · have e : pieceL opNot x = txt x := by
        unfold pieceL
        rw [brNot, if_neg]
        simp only [Bool.or_eq_true, decide_eq_true_eq]
        rintro (h | h)
        · exact hrow (.inr h)
        · exact hrow (.inl h)
      have h1 := hf x [] hx (by decide)
      rw [e, List.append_nil] at h1
      unfold consF
      exact rowF_one (rowF_one h1 (by decide)) (by decide)
  unfold readF
  rw [hc]
  simp only
  rw [if_pos ⟨by decide, hx⟩]
end Go.Proofs.YtjgpopjnmonlkaaGreatDoor
