import Derived.Test.YtlgolagedgllbaaDoorVrAc
namespace Go.Proofs.YtlgolagedgllbaaDoor
open Go.RowKit Go.Shelf
set_option linter.unusedSimpArgs false
set_option linter.unusedVariables false
set_option linter.unusedSectionVars false

/-! The document's Read, plain. -/
structure Rst where
  path : ByteArray
  minor : Int
  told : Bool
def baL (l : List UInt8) : ByteArray := ⟨l.toArray⟩
/-- A line that has words. -/
def stepR (t : Rst) : List (List UInt8) → Option Rst
  | [k, x] => if k = modL then (if t.path.size ≠ 0 ∨ pathF (baL x) = false then none else some { t with path := baL x })
    else if k = goL then (if minorE (baL x) ≠ 0 ∨ t.told = true then none else some { t with minor := minorI (baL x), told := true })
    else if k = toolL then some t else none
  | _ => none
def foldR : List (List (List UInt8)) → Rst → Option Rst
  | [], t => some t
  | ws :: r, t => if ws.length = 0 then foldR r t else match stepR t ws with
    | none => none
    | some u => foldR r u
def lineR (l : List UInt8) : List (List UInt8) := refW [] (noteL l)
def startR : Rst := ⟨⟨#[]⟩, 16, false⟩
def endR : Option Rst → Option Rst
  | none => none
  | some t => if t.path.size = 0 then none else some t
def refRd (l : List UInt8) : Option Rst := endR (foldR ((splitB 10 l).map lineR) startR)
/-- What the program knows and what the document knows. -/
def Agree (a : St) (b : Rst) : Prop := a.path = b.path ∧ a.minor = b.minor ∧ a.mods = (if b.path.size = 0 then 0 else 1) ∧ a.vers = (if b.told = true then 1 else 0)
theorem path_full (x : ByteArray) (h : pathF x = true) : x.size ≠ 0 := by
  intro e
  have := (path_bytes x h).2.1
  exact this (List.eq_nil_of_length_eq_zero (by rw [Array.length_toList]; exact e))
theorem foldL_more : ∀ (ls : List (List ByteArray)) (t u : St), foldL ls t = some u → t.mods ≤ u.mods ∧ t.vers ≤ u.vers
  | [], t, u, h => by cases h; exact ⟨Nat.le_refl _, Nat.le_refl _⟩
  | ws :: r, t, u, h => by
    rw [foldL] at h
    split at h
    · exact foldL_more r t u h
    · split at h
      · obtain ⟨h1, h2⟩ := foldL_more r _ u h
        have : t.mods ≤ (stepL t ws).2.mods ∧ t.vers ≤ (stepL t ws).2.vers := by
          unfold stepL
          split
          · repeat' split
            all_goals (simp only; omega)
          · exact ⟨Nat.le_refl _, Nat.le_refl _⟩
        omega
      · cases h
/-- What comes of the program's lines. -/
def endL : Option St → Option St
  | none => none
  | some t => if t.mods = 1 ∧ t.vers ≤ 1 then some t else none
def outR : Option Rst → Option (ByteArray × Int)
  | none => none
  | some t => some (t.path, t.minor)
def outL : Option St → Option (ByteArray × Int)
  | none => none
  | some t => some (t.path, t.minor)
theorem endL_over (ls : List (List ByteArray)) (t : St) (h : 2 ≤ t.mods ∨ 2 ≤ t.vers) : endL (foldL ls t) = none := by
  cases hf : foldL ls t with
  | none => rfl
  | some u =>
    have := foldL_more ls t u hf
    exact if_neg (by omega)
theorem fold_agree : ∀ (ls : List (List ByteArray)) (ms : List (List (List UInt8))) (a : St) (b : Rst), ms = ls.map (fun ws => ws.map (fun x => x.data.toList)) → Agree a b →
    outL (endL (foldL ls a)) = outR (endR (foldR ms b))
  | [], ms, a, b, hm, h => by
    subst hm
    obtain ⟨h1, h2, h3, h4⟩ := h
    show outL (endL (some a)) = outR (endR (some b))
    unfold endL endR
    by_cases hz : b.path.size = 0
    · rw [if_pos hz] at h3
      simp only [hz, if_true]
      rw [if_neg (by omega)]
      rfl
    · rw [if_neg hz] at h3
      simp only [hz, if_false]
      rw [if_pos ⟨h3, by rw [h4]; split <;> omega⟩]
      show some (a.path, a.minor) = some (b.path, b.minor)
      rw [h1, h2]
  | ws :: r, ms, a, b, hm, h => by
    subst hm
    rw [List.map_cons, foldL, foldR, List.length_map]
    by_cases h0 : ws.length = 0
    · rw [if_pos h0, if_pos h0]
      exact fold_agree r _ a b rfl h
    rw [if_neg h0, if_neg h0]
    by_cases h2 : ws.length = 2
    case neg =>
      rw [stepL_not2 a ws h2, if_neg (fun h => by cases h)]
      have : stepR b (ws.map (fun x => x.data.toList)) = none := by
        match ws, h2 with
        | [], _ => rfl
        | [_], _ => rfl
        | [_, _], h => exact absurd rfl h
        | _ :: _ :: _ :: _, _ => rfl
      rw [this]
      rfl
    match ws, h2 with
    | [k, x], _ =>
      obtain ⟨g1, g2, g3, g4⟩ := h
      have hx : baL x.data.toList = x := ByteArray.ext (Array.toList_inj.1 rfl)
      have hk : k.toList = k.data.toList := Lib.toList_data k
      show outL (endL (if (stepL a [k, x]).1 = true then foldL r (stepL a [k, x]).2 else none)) = outR (endR (match stepR b [k.data.toList, x.data.toList] with | none => none | some u => foldR (r.map (fun ws => ws.map (fun x => x.data.toList))) u))
      rw [show stepL a [k, x] = (if k.toList = modL then (pathF x, { a with path := x, mods := a.mods + 1 }) else if k.toList = goL then (minorE x == 0, { a with minor := minorI x, vers := a.vers + 1 }) else if k.toList = toolL then (true, a) else (false, a)) from rfl]
      rw [show stepR b [k.data.toList, x.data.toList] = (if k.data.toList = modL then (if b.path.size ≠ 0 ∨ pathF (baL x.data.toList) = false then none else some { b with path := baL x.data.toList }) else if k.data.toList = goL then (if minorE (baL x.data.toList) ≠ 0 ∨ b.told = true then none else some { b with minor := minorI (baL x.data.toList), told := true }) else if k.data.toList = toolL then some b else none) from rfl]
      rw [hk, hx]
      by_cases k1 : k.data.toList = modL
      · rw [if_pos k1, if_pos k1]
        cases hp : pathF x with
        | false => rw [if_neg (fun h => by cases h), if_pos (.inr rfl)]; rfl
        | true =>
          rw [if_pos rfl]
          by_cases hz : b.path.size = 0
          · rw [if_neg (by simp [hz])]
            refine fold_agree r _ _ _ rfl ⟨rfl, g2, ?_, g4⟩
            show a.mods + 1 = if x.size = 0 then 0 else 1
            rw [if_neg (path_full x hp), g3, if_pos hz]
          · rw [if_pos (.inl hz)]
            rw [if_neg hz] at g3
            rw [endL_over r _ (.inl (by show 2 ≤ a.mods + 1; omega))]
            rfl
      rw [if_neg k1, if_neg k1]
      by_cases k2 : k.data.toList = goL
      · rw [if_pos k2, if_pos k2]
        by_cases he : minorE x = 0
        · rw [he, if_pos (show ((0 : Int) == 0, ({ a with minor := minorI x, vers := a.vers + 1 } : St)).1 = true from rfl)]
          by_cases ht : b.told = true
          · rw [if_pos (.inr ht)]
            rw [if_pos ht] at g4
            rw [endL_over r _ (.inr (by show 2 ≤ a.vers + 1; omega))]
            rfl
          · rw [if_neg (by simp [ht])]
            rw [if_neg ht] at g4
            exact fold_agree r _ _ _ rfl ⟨g1, rfl, g3, by show a.vers + 1 = if true = true then 1 else 0; rw [if_pos rfl]; omega⟩
        · rw [if_neg (by simpa using he), if_pos (.inl he)]
          rfl
      rw [if_neg k2, if_neg k2]
      by_cases k3 : k.data.toList = toolL
      · rw [if_pos k3, if_pos k3, if_pos (show (true, a).1 = true from rfl)]
        exact fold_agree r _ a b rfl ⟨g1, g2, g3, g4⟩
      · rw [if_neg k3, if_neg k3, if_neg (fun h => by cases h)]
        rfl
theorem ref_read (s : ByteArray) : outL (readR s) = outR (refRd s.data.toList) := by
  have h : readR s = endL (toldV s.data.toList startS) := by
    rw [read_told]
    unfold endL
    cases toldV s.data.toList startS <;> rfl
  rw [h]
  unfold toldV refRd
  refine fold_agree _ _ _ _ ?_ ⟨rfl, rfl, rfl, rfl⟩
  rw [List.map_map]
  apply List.map_congr_left
  intro l _
  exact (words_W l).symm
/-- What the document's Read tells of at most 65536 bytes. -/
theorem refRd_some (s : ByteArray) (h : s.size ≤ 65536) (t : Rst) (ht : refRd s.data.toList = some t) : readP s = t.path ∧ readI s = t.minor ∧ readE s = 0 := by
  have hr := ref_read s
  rw [ht] at hr
  unfold readP readI readE
  rw [if_neg (by omega), if_neg (by omega), if_neg (by omega)]
  cases hR : readR s with
  | none => rw [hR] at hr; cases hr
  | some u =>
    rw [hR] at hr
    have : some (u.path, u.minor) = some (t.path, t.minor) := hr
    simp only [Option.some.injEq, Prod.mk.injEq] at this
    exact ⟨this.1, this.2, rfl⟩
theorem refRd_none (s : ByteArray) (h : s.size ≤ 65536) (ht : refRd s.data.toList = none) : readP s = ⟨#[]⟩ ∧ readI s = 0 ∧ readE s = 7 := by
  have hr := ref_read s
  rw [ht] at hr
  unfold readP readI readE
  rw [if_neg (by omega), if_neg (by omega), if_neg (by omega)]
  cases hR : readR s with
  | none => exact ⟨rfl, rfl, rfl⟩
  | some u => rw [hR] at hr; cases hr
end Go.Proofs.YtlgolagedgllbaaDoor
