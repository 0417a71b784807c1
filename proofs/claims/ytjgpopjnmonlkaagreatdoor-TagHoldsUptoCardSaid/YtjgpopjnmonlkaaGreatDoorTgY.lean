import Derived.Test.YtjgpopjnmonlkaaGreatDoorTgX
namespace Go.Proofs.YtjgpopjnmonlkaaGreatDoor
open Go.RowKit Go.Shelf
set_option linter.unusedSimpArgs false
set_option linter.unusedVariables false
set_option linter.unusedSectionVars false

/-! Layer 5: the reader: how large what it reads is (plain). -/
theorem Ex.sizes_app : ∀ (a b : List Ex), Ex.sizes (a ++ b) = Ex.sizes a + Ex.sizes b
  | [], b => by simp [Ex.sizes]
  | x :: a, b => by
    simp only [List.cons_append, Ex.sizes, Ex.sizes_app a b]
    omega
theorem Ex.fitsL_app : ∀ (a b : List Ex), Ex.fitsL (a ++ b) ↔ Ex.fitsL a ∧ Ex.fitsL b
  | [], b => by simp [Ex.fitsL]
  | x :: a, b => by
    simp only [List.cons_append, Ex.fitsL, Ex.fitsL_app a b, and_assoc]
/-- What is read is no larger than what it was read of. -/
def SizeP (part : Part) : Prop := ∀ l x r, l.length ≤ 1000 → part l = some (x, r) → x.size + r.length ≤ l.length ∧ x.fits
theorem rowLoop_size {part : Part} {sg : List UInt8} (hs : sg ≠ []) (hd : SizeP part) : ∀ (m : Nat) (l : List UInt8) (acc k : List Ex) (r : List UInt8), l.length ≤ 1000 → rowLoop part sg m l acc = some (k, r) → Ex.fitsL acc → Ex.sizes k + r.length + k.length ≤ Ex.sizes acc + l.length + acc.length ∧ Ex.fitsL k ∧ acc.length ≤ k.length
  | 0, l, acc, k, r, hl, h, hf => by simp [rowLoop] at h
  | m + 1, l, acc, k, r, hl, h, hf => by
    have ht := takes_len sg l
    rw [rowLoop] at h
    split at h
    · rename_i htk
      have hlt := takes_lt hs htk
      cases hp : part (takesL sg l) with
      | none => rw [hp] at h; cases h
      | some xr =>
        obtain ⟨x, r2⟩ := xr
        rw [hp] at h
        obtain ⟨h1, h1f⟩ := hd _ _ _ (by omega) hp
        have hfx : Ex.fitsL [x] := ⟨h1f, trivial⟩
        obtain ⟨h2, h3, h4⟩ := rowLoop_size hs hd m r2 (acc ++ [x]) k r (by omega) h ((Ex.fitsL_app _ _).2 ⟨hf, hfx⟩)
        rw [Ex.sizes_app, List.length_append] at h2
        rw [List.length_append] at h4
        simp only [Ex.sizes, List.length_cons, List.length_nil] at h2 h4
        exact ⟨by omega, h3, by omega⟩
    · have h' := Option.some.inj h
      have e1 : acc = k := congrArg Prod.fst h'
      have e2 : takesL sg l = r := congrArg Prod.snd h'
      subst e1
      rw [← e2]
      exact ⟨by omega, hf, Nat.le_refl _⟩
theorem rowF_size {part : Part} {op : ByteArray} (hs : op.data.toList ≠ []) (hop : op.size ≤ 2) (hd : SizeP part) : SizeP (rowF part op) := by
  intro l x r hl h
  unfold rowF at h
  cases hp : part l with
  | none => rw [hp] at h; cases h
  | some xr =>
    obtain ⟨y, r2⟩ := xr
    rw [hp] at h
    obtain ⟨h1, h1f⟩ := hd _ _ _ hl hp
    simp only [Option.map_eq_some_iff] at h
    obtain ⟨⟨k, r3⟩, h2, h3⟩ := h
    have hfy : Ex.fitsL [y] := ⟨h1f, trivial⟩
    obtain ⟨h4, h5, h6⟩ := rowLoop_size hs hd _ _ _ _ _ (by omega) h2 hfy
    have e1 : oneOr op k = x := congrArg Prod.fst h3
    have e2 : r3 = r := congrArg Prod.snd h3
    subst e2
    subst e1
    simp only [Ex.sizes, List.length_cons, List.length_nil] at h4 h6
    match k, h4, h5, h6 with
    | [], _, _, h6 => simp at h6
    | [z], h4, h5, _ =>
      simp only [Ex.sizes, List.length_cons, List.length_nil] at h4
      exact ⟨by simp only [oneOr]; omega, h5.1⟩
    | z1 :: z2 :: zs, h4, h5, _ =>
      simp only [List.length_cons] at h4
      refine ⟨?_, ?_⟩
      · simp only [oneOr, Ex.size]
        omega
      · simp only [oneOr, Ex.fits]
        exact ⟨by omega, by decide, h5⟩
theorem tagF_size : SizeP tagF := by
  intro l x r hl h
  have hs : (skipF l).length ≤ l.length := (List.dropWhile_suffix (fun b => b == 32 || b == 9) (l := l)).length_le
  unfold tagF at h
  split at h
  · cases h
  · rename_i h0
    have h' := Option.some.inj h
    have e1 := congrArg Prod.fst h'
    have e2 := congrArg Prod.snd h'
    simp only at e1 e2
    have htl : tagLen (skipF l) ≤ (skipF l).length := (List.takeWhile_prefix _).length_le
    rw [← e1, ← e2, List.length_drop]
    refine ⟨by simp only [Ex.size, Ex.sizes]; omega, ?_⟩
    simp only [Ex.fits, Ex.fitsL]
    refine ⟨by decide, ?_, trivial⟩
    have : (⟨((skipF l).take (tagLen (skipF l))).toArray⟩ : ByteArray).size = ((skipF l).take (tagLen (skipF l))).length := by simp [ByteArray.size]
    rw [this, List.length_take]
    omega
theorem factorF_size : ∀ n, SizeP (factorF n)
  | 0 => by intro l x r hl h; simp [factorF] at h
  | n + 1 => by
    have ih := factorF_size n
    intro l x r hl h
    rw [factorF] at h
    split at h
    · rename_i h1
      have h5 := takes_lt (by decide) h1
      simp only [Option.map_eq_some_iff] at h
      obtain ⟨⟨y, r2⟩, h2, h3⟩ := h
      obtain ⟨h6, h7⟩ := ih _ _ _ (by omega) h2
      have e1 := congrArg Prod.fst h3
      have e2 := congrArg Prod.snd h3
      simp only at e1 e2
      rw [← e1, ← e2]
      refine ⟨by simp only [Ex.size, Ex.sizes]; omega, ?_⟩
      simp only [Ex.fits, Ex.fitsL]
      exact ⟨by decide, by decide, h7, trivial⟩
    · split at h
      · rename_i h1
        have h5 := takes_lt (by decide) h1
        cases hc : consF (factorF n) (takesL [40] l) with
        | none => rw [hc] at h; cases h
        | some xr =>
          obtain ⟨y, r2⟩ := xr
          rw [hc] at h
          obtain ⟨h6, h7⟩ := rowF_size (by decide) (by decide) (rowF_size (by decide) (by decide) ih) _ _ _ (by omega) hc
          simp only at h
          split at h
          · rename_i h8
            have h9 := takes_lt (by decide) h8
            have h' := Option.some.inj h
            have e1 := congrArg Prod.fst h'
            have e2 := congrArg Prod.snd h'
            simp only at e1 e2
            rw [← e1, ← e2]
            exact ⟨by omega, h7⟩
          · cases h
      · exact tagF_size _ _ _ hl h
theorem consF_size (n : Nat) : SizeP (consF (factorF n)) := rowF_size (by decide) (by decide) (rowF_size (by decide) (by decide) (factorF_size n))
theorem consF_ok (n : Nat) (l : List UInt8) (x : Ex) (r : List UInt8) (hl : l.length ≤ 1000) (h : consF (factorF n) l = some (x, r)) : x.ok := by
  obtain ⟨h1, h2⟩ := consF_size n l x r hl h
  exact ⟨by omega, h2⟩
end Go.Proofs.YtjgpopjnmonlkaaGreatDoor
