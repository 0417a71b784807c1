import Derived.Test.YtggfgagokbkplaaGreatDoorTgAd
namespace Go.Proofs.YtggfgagokbkplaaGreatDoor
open Go.RowKit Go.Shelf
set_option linter.unusedSimpArgs false
set_option linter.unusedVariables false
set_option linter.unusedSectionVars false

/-! Layer 5: TagAlone where it is a tag. -/
theorem tags_two {w : World} {b : Nat} {s : ByteArray} {t : TypeId} (h : w.heap[b]? = some (.cells #[.string ⟨#[97]⟩, .string s] t (0, 0))) (cap : Nat) (hc : 2 ≤ cap) : TagsAt w (some ⟨b, 0, none⟩) cap [⟨#[97]⟩, s] := by
  refine .inr ⟨b, 0, rfl, lt_of_block h, hc, fun j x hx => ?_⟩
  match j, hx with
  | 0, hx => cases hx; exact cell_of h 0
  | 1, hx => cases hx; exact cell_of h 1
  | j + 2, hx => simp at hx
theorem Two.row {w w' : World} {b1 b2 : Nat} {x1 y1 z1 x2 y2 z2 : Value} (h : Two w b1 b2 x1 y1 z1 x2 y2 z2 w') (o : Obj) : Two w b1 b2 x1 y1 z1 x2 y2 z2 (w'.alloc o).drew :=
  h.below (((Below.refl w'.heap.size w').alloc (Nat.le_refl _) o).drew) (Nat.le_refl _)
theorem row_at (w : World) (o : Obj) : (w.alloc o).drew.heap[w.heap.size]? = some o := heap_alloc_new w o
set_option maxHeartbeats 1600000 in
theorem alone_ok (s : ByteArray) (w : World) (hE : EnvV w) (hs : s.size ≤ 100) (ht : tagOK s = true) :
    Calls Tryz.prog 10 #[.string s] w fun e w' => e = .returned (.bool true) ∧ Below w.heap.size w w' := by
  have h8 := hE.2.2.2
  have hle : (s.size : Int) ≤ 100 := by omega
  have HR1 := Lib.hid (fun w1 => Read_tag s w1 (by omega) ht)
  have HR0 := Lib.hid Read_no
  have HRT : Hid (∀ w1, Calls Tryz.prog 19 #[.agg #[.string ⟨#[]⟩, .string s, .slice none 0 0]] w1 fun e w' => e = .returned (.bool true) ∧ Below w1.heap.size w1 w') := Lib.hid (fun w1 => by
    have := Right_v _ _ _ w1 (leaf_at s w1) (leaf_ok s (by omega))
    rw [right_tag, ht] at this
    exact this)
  have HLT : Hid (∀ w1, Below w.heap.size w w1 → Calls Tryz.prog 21 #[.agg #[.string ⟨#[]⟩, .string s, .slice none 0 0]] w1 fun e w' => e = .returned (.int .i64 (LeastF (.node nilB s []))) ∧ Below w1.heap.size w1 w') := Lib.hid (fun w1 hb => Least_v _ _ _ w1 (leaf_at s w1) (leaf_ok s (by omega)) (hE.below hb h8))
  have HHT : Hid (∀ w1 b t, Below w.heap.size w w1 → w1.heap[b]? = some (.cells #[.string ⟨#[97]⟩, .string s] t (0, 0)) → Calls Tryz.prog 20 #[.agg #[.string ⟨#[]⟩, .string s, .slice none 0 0], .slice (some ⟨b, 0, none⟩) 2 2] w1 fun e w' => e = .returned (.bool (decide (LeastF (.node nilB s []) < 25))) ∧ Below w1.heap.size w1 w') := Lib.hid (fun w1 b t hb hh => by
    have := Holds_v _ _ _ w1 (some ⟨b, 0, none⟩) 2 [⟨#[97]⟩, s] (leaf_at s w1) (leaf_ok s (by omega)) (tags_two hh 2 (Nat.le_refl _)) (by simp) (hE.below hb h8)
    rw [holds_tag s ht] at this
    exact this)
  have HAW := Lib.hid (fun w1 (hb : Below w.heap.size w w1) => awake_v w1 (hE.below hb h8))
  clear hE ht
  generalize LeastF (.node nilB s []) = L at *
  go_enter Tryz.func10, Tryz.ntmps10
  go_wp2_with (first
    | (go_at_call 12; (with_reducible refine Calls.mono (HR1.out _) ?_); rintro e w2 ⟨⟨ya, yc, rfl⟩, hb2⟩; have TW := Lib.hid (two_new (x2 := .string ⟨#[]⟩) (y2 := .string s) (z2 := .slice ya 0 yc) hb2); clear hb2)
    | (go_at_call 12; (with_reducible refine Calls.mono (HR0.out _) ?_); rintro e w4 ⟨rfl, hb4⟩; have htw := TW.out.next hb4 (C3 (.string ⟨#[]⟩) (.string ⟨#[]⟩) (.slice none 0 0)); have TV := Lib.hid htw; have c0 := cell_of htw.h1 0; have c1 := cell_of htw.h1 1; have c2 := cell_of htw.h1 2; clear hb4 htw)
    | (go_at_call 19; (with_reducible refine Calls.mono (HRT.out _) ?_); rintro e w5 ⟨rfl, hb5⟩; have htw := TV.out.below hb5 (Nat.le_refl _); have TV5 := Lib.hid htw; have d0 := cell_of htw.h1 0; have d1 := cell_of htw.h1 1; have d2 := cell_of htw.h1 2; have e0 := cell_of htw.h2 0; have e1 := cell_of htw.h2 1; have e2 := cell_of htw.h2 2; clear hb5 htw))
  have k0 := cell_of (w := (w5.alloc (.cells #[.string ⟨#[97]⟩, .string s] 9))) (TV5.out.row (.cells #[.string ⟨#[97]⟩, .string s] 9)).h1 0
  have k1 := cell_of (w := (w5.alloc (.cells #[.string ⟨#[97]⟩, .string s] 9))) (TV5.out.row (.cells #[.string ⟨#[97]⟩, .string s] 9)).h1 1
  have k2 := cell_of (w := (w5.alloc (.cells #[.string ⟨#[97]⟩, .string s] 9))) (TV5.out.row (.cells #[.string ⟨#[97]⟩, .string s] 9)).h1 2
  go_region_law (first
    | (go_simp; go_at_call 20; (with_reducible refine Calls.mono (HHT.out _ _ _ (TV5.out.row _).bl (row_at _ _)) ?_); rintro e w6 ⟨rfl, hb6⟩; have htw := (TV5.out.row _).below hb6 (Nat.le_refl _); have TV6 := Lib.hid htw; have f0 := cell_of htw.h1 0; have f1 := cell_of htw.h1 1; have f2 := cell_of htw.h1 2; clear hb6 htw)
    | (go_simp; go_at_call 21; (with_reducible refine Calls.mono (HLT.out _ TV6.out.bl) ?_); rintro e w7 ⟨rfl, hb7⟩; have htw := TV6.out.below hb7 (Nat.le_refl _); have TV7 := Lib.hid htw; clear hb7 htw)
    | (go_simp; go_at_call 15; (with_reducible refine Calls.mono (HAW.out _ TV7.out.bl) ?_); rintro e w8 ⟨rfl, hb8⟩; have HB8 := Lib.hid (TV7.out.bl.trans (hb8.mono TV7.out.bl.size)); clear hb8))
  all_goals
    go_wp2_with fail
    go_ret
    exact ⟨by first | rfl | simp, HB8.out⟩
set_option maxHeartbeats 1600000 in
theorem alone_v (s : ByteArray) (w : World) (hE : EnvV w) (hs : s.size ≤ maxLen) :
    Calls Tryz.prog 10 #[.string s] w fun e w' => e = .returned (.bool true) ∧ Below w.heap.size w w' := by
  by_cases h : s.size ≤ 100
  · cases ht : tagOK s with
    | false => exact alone_no s w hE h ht
    | true => exact alone_ok s w hE h ht
  · have hlt : (100 : Int) < (s.size : Int) := by omega
    clear hE
    go_enter Tryz.func10, Tryz.ntmps10
    go_wp2_with fail
    go_ret
    exact ⟨by first | rfl | simp, Below.refl _ _⟩
end Go.Proofs.YtggfgagokbkplaaGreatDoor
