import Derived.Test.YtjgpopjnmonlkaaGreatDoorTgU
namespace Go.Proofs.YtjgpopjnmonlkaaGreatDoor
open Go.RowKit Go.Shelf
set_option linter.unusedSimpArgs false
set_option linter.unusedVariables false
set_option linter.unusedSectionVars false

/-! Layer 5: the reader: constraints, what stands alone. -/
theorem rowLoop_len {part : Part} {sg : List UInt8} (hd : ∀ l x r, part l = some (x, r) → r.length < l.length) : ∀ (m : Nat) (l : List UInt8) (acc k : List Ex) (r : List UInt8), rowLoop part sg m l acc = some (k, r) → r.length ≤ l.length
  | 0, l, acc, k, r, h => by simp [rowLoop] at h
  | m + 1, l, acc, k, r, h => by
    have ht := takes_len sg l
    rw [rowLoop] at h
    split at h
    · cases hp : part (takesL sg l) with
      | none => rw [hp] at h; cases h
      | some xr =>
        obtain ⟨x, r2⟩ := xr
        rw [hp] at h
        have h1 := hd _ _ _ hp
        have h2 := rowLoop_len hd m r2 (acc ++ [x]) k r h
        omega
    · have h' := Option.some.inj h
      have : takesL sg l = r := congrArg Prod.snd h'
      rw [← this]; exact ht
theorem rowF_len {part : Part} {op : ByteArray} (hd : ∀ l x r, part l = some (x, r) → r.length < l.length) : ∀ l x r, rowF part op l = some (x, r) → r.length < l.length := by
  intro l x r h
  unfold rowF at h
  cases hp : part l with
  | none => rw [hp] at h; cases h
  | some xr =>
    obtain ⟨y, r2⟩ := xr
    rw [hp] at h
    have h1 := hd _ _ _ hp
    simp only [Option.map_eq_some_iff] at h
    obtain ⟨⟨k, r3⟩, h2, h3⟩ := h
    have h4 := rowLoop_len hd _ _ _ _ _ h2
    have : r3 = r := congrArg Prod.snd h3
    rw [← this]
    omega
theorem tagF_len : ∀ l x r, tagF l = some (x, r) → r.length < l.length := by
  intro l x r h
  have hs : (skipF l).length ≤ l.length := (List.dropWhile_suffix (fun b => b == 32 || b == 9) (l := l)).length_le
  unfold tagF at h
  split at h
  · cases h
  · rename_i h0
    have h' := congrArg Prod.snd (Option.some.inj h)
    simp only at h'
    have htl : tagLen (skipF l) ≤ (skipF l).length := (List.takeWhile_prefix _).length_le
    rw [← h', List.length_drop]
    omega
theorem takes_lt {sg l : List UInt8} (hs : sg ≠ []) (h : takesB sg l = true) : (takesL sg l).length < l.length := by
  have hsk : (skipF l).length ≤ l.length := (List.dropWhile_suffix (fun b => b == 32 || b == 9) (l := l)).length_le
  have hp : sg <+: skipF l := by
    unfold takesB at h
    exact List.isPrefixOf_iff_prefix.mp h
  have := hp.length_le
  have h1 : 1 ≤ sg.length := List.length_pos_iff.mpr hs
  unfold takesL
  rw [if_pos h, List.length_drop]
  omega
theorem factorF_len : ∀ n l x r, factorF n l = some (x, r) → r.length < l.length
  | 0, l, x, r, h => by simp [factorF] at h
  | n + 1, l, x, r, h => by
    have ih := factorF_len n
    rw [factorF] at h
    split at h
    · rename_i h1
      simp only [Option.map_eq_some_iff] at h
      obtain ⟨⟨y, r2⟩, h2, h3⟩ := h
      have h4 := ih _ _ _ h2
      have h5 := takes_lt (by decide) h1
      have : r2 = r := congrArg Prod.snd h3
      rw [← this]
      omega
    · split at h
      · rename_i h1
        have h5 := takes_lt (by decide) h1
        cases hc : consF (factorF n) (takesL [40] l) with
        | none => rw [hc] at h; cases h
        | some xr =>
          obtain ⟨y, r2⟩ := xr
          rw [hc] at h
          have h6 := rowF_len (rowF_len ih) _ _ _ hc
          simp only at h
          split at h
          · have h7 := takes_len [41] r2
            have : takesL [41] r2 = r := congrArg Prod.snd (Option.some.inj h)
            rw [← this]
            omega
          · cases h
      · exact tagF_len _ _ _ h
/-- The contract of what stands alone. -/
def FacC (n : Nat) : Prop := ∀ (rb d : Nat) (l : List UInt8) (W : World), d + n = 100 → RdAt W rb l d → l.length ≤ 1000 → Calls Tryz.prog 56 #[.pointer (some ⟨rb, 0, none⟩)] W fun e w' => PartP W rb d (factorF n l) e w'
set_option maxHeartbeats 1600000 in
theorem cons1_v (n : Nat) (hf : FacC n) (rb d bx : Nat) (l : List UInt8) (W : World) (hd : d + n = 100) (h : RdAt W rb l d) (hl : l.length ≤ 1000) (hc : W.cell? ⟨bx, 0, none⟩ = some (.pointer (some ⟨rb, 0, none⟩))) :
    Calls Tryz.prog 55 #[.pointer (some ⟨bx, 0, none⟩)] W fun e w' => PartP W rb d (rowF (factorF n) opAnd l) e w' := by
  obtain ⟨W0, hW0⟩ : ∃ W0, W.alloc (.cells #[.string ⟨#[]⟩, .string ⟨#[]⟩, .slice none 0 0] 29) = W0 := ⟨_, rfl⟩
  have hb1 : Below W.heap.size W W0 := by rw [← hW0]; exact (Below.refl _ _).alloc (Nat.le_refl _) _
  have hsz0 : W0.heap.size = W.heap.size + 1 := by rw [← hW0]; simp
  have hrl := lt_of_block h
  have hbox : W0.heap[W.heap.size]? = some (.cells #[.string ⟨#[]⟩, .string ⟨#[]⟩, .slice none 0 0] 29 (0, 0)) := by rw [← hW0]; exact heap_alloc_new W _
  have hcl : (W.alloc (.cells #[.string ⟨#[]⟩, .string ⟨#[]⟩, .slice none 0 0] 29)).cell? ⟨bx, 0, none⟩ = some (.pointer (some ⟨rb, 0, none⟩)) := by
    rw [hW0, hb1.cell (p := ⟨bx, 0, none⟩) (World.block_lt_of_cell? _ _ hc)]; exact hc
  have hrow := row_and rb l d W0 (factorF n) [38, 38] ⟨rb, 0, none⟩ (h.below hb1) hl (factorF_len n) (fun W' l' _ hr' hl' => hf rb d l' W' hd hr' hl')
  have hop : bs [38, 38] = ⟨#[38, 38]⟩ := rfl
  rw [hop] at hrow
  have HROW := Lib.hid hrow
  have HW0 := Lib.hid hW0
  have HBOX := Lib.hid hbox
  have HG0 := Lib.hid (grow_of hb1 (some rb))
  clear hrow hW0 hbox h hb1 hf hop
  rw [show opAnd = (⟨#[38, 38]⟩ : ByteArray) from rfl]
  cases hr : rowF (factorF n) ⟨#[38, 38]⟩ l with
  | none =>
    rw [hr] at HROW
    go_enter Tryz.func55, Tryz.ntmps55
    go_wp2_with (go_at_call 54; rw [HW0.out]; (with_reducible refine Calls.mono HROW.out ?_); rintro e w2 ⟨hg2, hth⟩; unfold thrown at hth; subst hth; have HG2 := Lib.hid hg2; clear hg2)
    exact ⟨rfl, HG0.out.trans HG2.out, rfl⟩
  | some xr =>
    obtain ⟨x, r⟩ := xr
    rw [hr] at HROW
    have HBW : Hid (∀ w5, W0.grownBy w5 (some rb) → w5.heap[W.heap.size]? = some (.cells #[.string ⟨#[]⟩, .string ⟨#[]⟩, .slice none 0 0] 29 (0, 0))) := Lib.hid (fun w5 hg => by
      rw [hg.block W.heap.size (by omega) (fun e => by cases e; omega)]
      exact HBOX.out)
    go_enter Tryz.func55, Tryz.ntmps55
    go_wp2_with (go_at_call 54; rw [HW0.out]; (with_reducible refine Calls.mono HROW.out ?_); rintro e w2 ⟨hg2, vs, rfl, hx2, hr2⟩; obtain ⟨yo, yt, ya, yn, yc, rfl⟩ := hx2.shape; have hz5 := HBW.out _ hg2; have HG2 := Lib.hid hg2; have HX2 := Lib.hid hx2; have HR2 := Lib.hid hr2; clear hg2 hx2 hr2; have HZ5 := Lib.hid hz5; have y0 := cell_of hz5 0; have y1 := cell_of hz5 1; have y2 := cell_of hz5 2; have u0 := free_of hz5 0; have u1 := free_of hz5 1; have u2 := free_of hz5 2; clear hz5)
    obtain ⟨p1, p2⟩ := put3_at HZ5.out (.string yo) (.string yt) (.slice ya yn yc)
    have hgw : W.grownBy _ (some rb) := grown_new (HG0.out.trans HG2.out) p2 (Nat.le_refl _)
    have hrd := HR2.out.far p2 (by omega)
    have hxw := HX2.out.keep (T := fun b => W.heap.size ≤ b) (W' := put3 _ _ _ _ _) ⟨p2.size, fun b hb hlt => p2.block b hlt (fun e => by cases e; omega)⟩ (fun b hb _ => by omega) _ _
    have r0 := cell_of p1 0
    have r1 := cell_of p1 1
    have r2 := cell_of p1 2
    unfold put3 at *
    refine bodyPost_ret (v := .agg #[.string yo, .string yt, .slice ya yn yc]) ?_ rfl ⟨hgw, ⟨[.string yo, .string yt, .slice ya yn yc], rfl, hxw, hrd⟩⟩
    simp [results, Tryz.results55, go_sem, r0, r1, r2]
end Go.Proofs.YtjgpopjnmonlkaaGreatDoor
