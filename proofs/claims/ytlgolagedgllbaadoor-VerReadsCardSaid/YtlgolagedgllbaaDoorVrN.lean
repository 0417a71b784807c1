import Derived.Test.YtlgolagedgllbaaDoorVrK
import Derived.Lib.IndexBytes
namespace Go.Proofs.YtlgolagedgllbaaDoor
open Go.RowKit Go.Shelf
set_option linter.unusedSimpArgs false
set_option linter.unusedVariables false
set_option linter.unusedSectionVars false

/-! Layer 4: the lines of a text with more lines behind it. -/
def wordsL (l : List UInt8) : List ByteArray := wordsV ⟨l.toArray⟩
theorem lines_split : ∀ (f : Nat) (s : ByteArray), s.size < f → linesV f s = (splitB 10 s.data.toList).map wordsL
  | 0, s, h => by omega
  | f + 1, s, h => by
    have hsz : s.data.toList.length = s.size := Array.length_toList
    rw [linesV]
    unfold cut1 cut2 cut3 Lib.cut
    rw [Lib.index_one]
    by_cases hi : 0 ≤ Lib.indexByte s.data.toList 10
    · rw [if_pos hi]
      obtain ⟨o, ho⟩ : ∃ o : Nat, Lib.indexByte s.data.toList 10 = o := ⟨(Lib.indexByte s.data.toList 10).toNat, by omega⟩
      obtain ⟨h1, h2⟩ := Lib.indexByte_some ho
      have hl := (List.getElem?_eq_some_iff.1 h1).1
      rw [splitB_at 10 _ o h1 h2, ho, Int.toNat_natCast, List.map_cons]
      rw [lines_split f _ (by
        show (s.data.toList.drop (o + [(10 : UInt8)].length)).toArray.size < f
        rw [List.size_toArray, List.length_drop, List.length_singleton]; omega)]
      rfl
    · have hm := Lib.indexByte_ge s.data.toList 10
      rw [if_neg hi, splitB_none 10 _ (Lib.indexByte_none (by omega))]
      rfl
theorem foldL_none : ∀ (a b : List (List ByteArray)) (t : St), foldL a t = none → foldL (a ++ b) t = none
  | [], b, t, h => by cases h
  | ws :: a, b, t, h => by
    rw [List.cons_append, foldL]
    rw [foldL] at h
    split
    · rename_i h0; rw [if_pos h0] at h; exact foldL_none a b t h
    · rename_i h0
      rw [if_neg h0] at h
      split
      · rename_i h1; rw [if_pos h1] at h; exact foldL_none a b _ h
      · rfl
/-- What the lines of a text say. -/
def toldV (l : List UInt8) (t : St) : Option St := foldL ((splitB 10 l).map wordsL) t
theorem read_told (s : ByteArray) : readR s = match toldV s.data.toList startS with
  | none => none
  | some t => if t.mods = 1 ∧ t.vers ≤ 1 then some t else none := by
  unfold readR toldV
  rw [lines_split _ s (Nat.lt_succ_self _)]
  cases foldL (List.map wordsL (splitB 10 s.data.toList)) startS <;> rfl
theorem told_app (a b : List UInt8) (t : St) : toldV (a ++ 10 :: b) t = match toldV a t with
  | none => none
  | some u => toldV b u := by
  unfold toldV
  rw [splitB_app, List.map_append]
  cases h : foldL ((splitB 10 a).map wordsL) t with
  | none => exact foldL_none _ _ _ h
  | some u => exact foldL_app _ _ _ _ h
/-- One line. -/
theorem told_one (b : List UInt8) (t : St) (h : b.all (fun x => x != 10) = true) : toldV b t = if (wordsL b).length = 0 then some t else if (stepL t (wordsL b)).1 = true then some (stepL t (wordsL b)).2 else none := by
  unfold toldV
  rw [splitB_none 10 b (fun k hk => by
    obtain ⟨hl, he⟩ := List.getElem?_eq_some_iff.1 hk
    have := List.all_eq_true.1 h _ (List.getElem_mem hl)
    rw [he] at this
    exact absurd this (by decide))]
  rfl
/-- toolchain and a word. -/
def chainL (d : UInt8) : List UInt8 := [116, 111, 111, 108, 99, 104, 97, 105, 110, 32, 103, 111, 49, 46, d]
theorem chain_words : ∀ k : Nat, k < 10 → (wordsL (chainL (UInt8.ofNat (48 + k)))).map (·.data.toList) = [toolL, [103, 111, 49, 46, UInt8.ofNat (48 + k)]] := by decide +kernel
theorem chain_flat : ∀ k : Nat, k < 10 → (chainL (UInt8.ofNat (48 + k))).all (fun x => x != 10) = true := by decide +kernel
theorem chain_alone : (wordsL toolL).map (·.data.toList) = [toolL] := by decide +kernel
theorem step_chain (t : St) (ws : List ByteArray) (y : List UInt8) (h : ws.map (·.data.toList) = [toolL, y]) : ws.length = 2 ∧ stepL t ws = (true, t) := by
  match ws, h with
  | [], h => cases h
  | [_], h => simp at h
  | _ :: _ :: _ :: _, h => simp at h
  | [a, b], h =>
    simp only [List.map_cons, List.map_nil, List.cons.injEq, and_true] at h
    refine ⟨rfl, ?_⟩
    have ha : a.toList = toolL := by rw [Lib.toList_data]; exact h.1
    show (if a.toList = modL then (pathF b, { t with path := b, mods := t.mods + 1 }) else if a.toList = goL then (minorE b == 0, { t with minor := minorI b, vers := t.vers + 1 }) else if a.toList = toolL then (true, t) else (false, t)) = _
    rw [ha, if_neg (by decide), if_neg (by decide), if_pos rfl]
theorem told_chain (k : Nat) (hk : k < 10) (t : St) : toldV (chainL (UInt8.ofNat (48 + k))) t = some t := by
  have hw := chain_words k hk
  obtain ⟨h1, h2⟩ := step_chain t _ _ hw
  rw [told_one _ t (chain_flat k hk), h1, h2]
  rfl
theorem told_alone (t : St) : toldV toolL t = none := by
  have hw := congrArg List.length chain_alone
  rw [List.length_map] at hw
  have hw1 : (wordsL toolL).length = 1 := hw
  rw [told_one _ t (by decide +kernel), hw1, stepL_not2 t _ (by omega)]
  rfl
theorem read_same (s u : ByteArray) (hs : s.size ≤ 65536) (hu : u.size ≤ 65536) (h : toldV s.data.toList startS = toldV u.data.toList startS) : readP s = readP u ∧ readI s = readI u ∧ readE s = readE u := by
  have hr : readR s = readR u := by rw [read_told, read_told, h]
  unfold readP readI readE
  rw [hr, if_neg (by omega), if_neg (by omega), if_neg (by omega), if_neg (by omega), if_neg (by omega), if_neg (by omega)]
  exact ⟨rfl, rfl, rfl⟩
theorem read_none (s : ByteArray) (hs : s.size ≤ 65536) (h : toldV s.data.toList startS = none) : readP s = ⟨#[]⟩ ∧ readI s = 0 ∧ readE s = 7 := by
  have hr : readR s = none := by rw [read_told, h]
  unfold readP readI readE
  rw [hr, if_neg (by omega), if_neg (by omega), if_neg (by omega)]
  exact ⟨rfl, rfl, rfl⟩
theorem chain_read (s : ByteArray) (k : Nat) (hk : k < 10) (hs : s.size ≤ 500) :
    readP (s ++ ⟨#[10, 116, 111, 111, 108, 99, 104, 97, 105, 110, 32]⟩ ++ (⟨#[103, 111, 49, 46]⟩ ++ ⟨#[UInt8.ofNat (48 + k)]⟩)) = readP s ∧
    readI (s ++ ⟨#[10, 116, 111, 111, 108, 99, 104, 97, 105, 110, 32]⟩ ++ (⟨#[103, 111, 49, 46]⟩ ++ ⟨#[UInt8.ofNat (48 + k)]⟩)) = readI s ∧
    readE (s ++ ⟨#[10, 116, 111, 111, 108, 99, 104, 97, 105, 110, 32]⟩ ++ (⟨#[103, 111, 49, 46]⟩ ++ ⟨#[UInt8.ofNat (48 + k)]⟩)) = readE s := by
  refine read_same _ s (by rw [ByteArray.size_append, ByteArray.size_append, ByteArray.size_append]; have h1 : (⟨#[10, 116, 111, 111, 108, 99, 104, 97, 105, 110, 32]⟩ : ByteArray).size = 11 := rfl; have h2 : (⟨#[103, 111, 49, 46]⟩ : ByteArray).size = 4 := rfl; have h3 : (⟨#[UInt8.ofNat (48 + k)]⟩ : ByteArray).size = 1 := rfl; omega) (by omega) ?_
  rw [app_list, app_list, app_list, List.append_assoc]
  have e : toldV (s.data.toList ++ 10 :: chainL (UInt8.ofNat (48 + k))) startS = toldV s.data.toList startS := by
    rw [told_app]
    cases toldV s.data.toList startS with
    | none => rfl
    | some u => exact told_chain k hk u
  exact e
theorem alone_read (s : ByteArray) (hs : s.size ≤ 500) :
    readP (s ++ ⟨#[10, 116, 111, 111, 108, 99, 104, 97, 105, 110]⟩) = ⟨#[]⟩ ∧ readI (s ++ ⟨#[10, 116, 111, 111, 108, 99, 104, 97, 105, 110]⟩) = 0 ∧ readE (s ++ ⟨#[10, 116, 111, 111, 108, 99, 104, 97, 105, 110]⟩) = 7 := by
  refine read_none _ (by rw [ByteArray.size_append]; have h1 : (⟨#[10, 116, 111, 111, 108, 99, 104, 97, 105, 110]⟩ : ByteArray).size = 10 := rfl; omega) ?_
  rw [app_list]
  have e : toldV (s.data.toList ++ 10 :: toolL) startS = none := by
    rw [told_app]
    cases toldV s.data.toList startS with
    | none => rfl
    | some u => exact told_alone u
  exact e
end Go.Proofs.YtlgolagedgllbaaDoor
