import Derived.Test.YtjgpopjnmonlkaaGreatDoorTgW
namespace Go.Proofs.YtjgpopjnmonlkaaGreatDoor
open Go.RowKit Go.Shelf
set_option linter.unusedSimpArgs false
set_option linter.unusedVariables false
set_option linter.unusedSectionVars false

/-! Layer 5: the reader: what stands alone. -/
set_option maxRecDepth 100000 in
set_option maxHeartbeats 1600000 in
theorem fac_zero : FacC 0 := by
  intro rb d l W hd h hl
  obtain rfl : d = 100 := by omega
  have hb1 : Below W.heap.size W (W.alloc (.cells #[.string ⟨#[]⟩, .string ⟨#[]⟩, .slice none 0 0] 29)) := (Below.refl _ _).alloc (Nat.le_refl _) _
  have h1 := h.below hb1
  have c1 := cell_of h1 1
  have f1 := free_of h1 1
  have h2 := rd_set1 h1 101
  have c2 := cell_of h2.1 1
  have HG := Lib.hid ((grow_of hb1 (some rb)).trans h2.2)
  have HNN := Lib.hid need_not
  have hF : factorF 0 l = none := by unfold factorF; rfl
  rw [hF]
  clear h h1 h2 hb1 hF
  go_enter Tryz.func56, Tryz.ntmps56
  go_wp2_with (go_at_call 42; (with_reducible refine Calls.mono (HNN.out _) ?_); rintro e w4 ⟨rfl, hw4⟩; replace hw4 := hw4.symm; subst hw4; unfold thrown)
  all_goals exact ⟨rfl, HG.out, rfl⟩
set_option maxRecDepth 100000 in
set_option maxHeartbeats 3200000 in
theorem fac_succ (n : Nat) (hf : FacC n) : FacC (n + 1) := by
  intro rb d l W hd h hl
  obtain ⟨d1, hd1⟩ : ∃ d1, d + 1 = d1 := ⟨_, rfl⟩
  have hd1i : (d : Int) + 1 = (d1 : Int) := by omega
  have hd2i : (d1 : Int) - 1 = (d : Int) := by omega
  have hd3 : (d1 : Int) ≤ 100 := by omega
  have qd : IntKind.i64.wrap (d : Int) = (d : Int) := IntWalk.i64_in _ (by omega)
  have qd1 : IntKind.i64.wrap (d1 : Int) = (d1 : Int) := IntWalk.i64_in _ (by omega)
  have hrl := lt_of_block h
  have c1 := cell_of h 1
  have f1 := free_of h 1
  have hz := rd_set1 h d1
  have hb1 : Below (W.setCell ⟨rb, 1, none⟩ (.int .i64 (d1 : Int))).heap.size (W.setCell ⟨rb, 1, none⟩ (.int .i64 (d1 : Int))) ((W.setCell ⟨rb, 1, none⟩ (.int .i64 (d1 : Int))).alloc (.cells #[.string ⟨#[]⟩, .string ⟨#[]⟩, .slice none 0 0] 29)) := (Below.refl _ _).alloc (Nat.le_refl _) _
  have h2 := hz.1.below hb1
  have c2 := cell_of h2 1
  have c3 := cell_of (h.below ((Below.refl _ _).alloc (Nat.le_refl _) (.cells #[.string ⟨#[]⟩, .string ⟨#[]⟩, .slice none 0 0] 29))) 1
  have f3 := free_of (h.below ((Below.refl _ _).alloc (Nat.le_refl _) (.cells #[.string ⟨#[]⟩, .string ⟨#[]⟩, .slice none 0 0] 29))) 1
  obtain ⟨W1, hW1⟩ : ∃ W1, (W.setCell ⟨rb, 1, none⟩ (.int .i64 (d1 : Int))).alloc (.cells #[.string ⟨#[]⟩, .string ⟨#[]⟩, .slice none 0 0] 29) = W1 := ⟨_, rfl⟩
  have hszs : (W.setCell ⟨rb, 1, none⟩ (.int .i64 (d1 : Int))).heap.size = W.heap.size := by simp
  have hbox : W1.heap[W.heap.size]? = some (.cells #[.string ⟨#[]⟩, .string ⟨#[]⟩, .slice none 0 0] 29 (0, 0)) := by
    have := heap_alloc_new (W.setCell ⟨rb, 1, none⟩ (.int .i64 (d1 : Int))) (.cells #[.string ⟨#[]⟩, .string ⟨#[]⟩, .slice none 0 0] 29)
    rw [hszs] at this
    rw [← hW1]; exact this
  have hsz1 : W1.heap.size = W.heap.size + 1 := by rw [← hW1]; simp
  rw [hW1] at h2
  have HR1 := Lib.hid h2
  have HG1 := Lib.hid (show W.grownBy W1 (some rb) from by rw [← hW1]; exact hz.2.trans (grow_of hb1 (some rb)))
  have HW1 := Lib.hid hW1
  have HBW : Hid (∀ w5, W1.grownBy w5 (some rb) → w5.heap[W.heap.size]? = some (.cells #[.string ⟨#[]⟩, .string ⟨#[]⟩, .slice none 0 0] 29 (0, 0))) := Lib.hid (fun w5 hg => by
    rw [hg.block W.heap.size (by omega) (fun e => by cases e; omega)]
    exact hbox)
  have hne0 : W.heap.size ≠ rb := by omega
  have HOK := Lib.hid need_ok
  have HNN := Lib.hid need_not
  have HF := Lib.hid (fun (l' : List UInt8) (W' : World) (hr : RdAt W' rb l' d1) (hl' : l'.length ≤ 1000) => hf rb d1 l' W' (by omega) hr hl')
  have HC := Lib.hid (fun (l' : List UInt8) (W' : World) (hr : RdAt W' rb l' d1) (hl' : l'.length ≤ 1000) => constraint_v n hf rb d1 l' W' (by omega) hr hl')
  have hT1 := takes_v rb l [33] d1 W1 HR1.out
  rw [show bs [33] = (⟨#[33]⟩ : ByteArray) from rfl] at hT1
  have ht1 := takes_len [33] l
  rw [factorF]
  clear h h2 hb1 hW1 hf hbox hz hszs
  cases htb : takesB [33] l with
  | true =>
    rw [if_pos rfl]
    rw [htb] at hT1
    have HT1 := Lib.hid hT1
    generalize takesL [33] l = l2 at *
    cases hp : factorF n l2 with
    | none =>
      have HFN : Hid (∀ W', RdAt W' rb l2 d1 → Calls Tryz.prog 56 #[.pointer (some ⟨rb, 0, none⟩)] W' fun e w' => PartP W' rb d1 none e w') := Lib.hid (fun W' hr => by have := HF.out l2 W' hr (by omega); rwa [hp] at this)
      clear hp hT1
      go_enter Tryz.func56, Tryz.ntmps56
      go_wp2_with (first
        | (go_at_call 42; (with_reducible refine Calls.mono (HOK.out _) ?_); rintro e w4 ⟨rfl, hw4⟩; replace hw4 := hw4.symm; subst hw4)
        | (go_at_call 67; rw [HW1.out]; (with_reducible refine Calls.mono HT1.out ?_); rintro e w5 ⟨rfl, hr5, hg5⟩; have HR5 := Lib.hid hr5; have HG5 := Lib.hid hg5; clear hr5 hg5)
        | (go_at_call 56; (with_reducible refine Calls.mono (HFN.out _ HR5.out) ?_); rintro e w6 ⟨hg6, hth⟩; unfold thrown at hth; subst hth; have HG6 := Lib.hid hg6; clear hg6))
      all_goals exact ⟨rfl, (HG1.out.trans HG5.out).trans HG6.out, rfl⟩
    | some xr =>
      obtain ⟨x, r⟩ := xr
      have HFN : Hid (∀ W', RdAt W' rb l2 d1 → Calls Tryz.prog 56 #[.pointer (some ⟨rb, 0, none⟩)] W' fun e w' => PartP W' rb d1 (some (x, r)) e w') := Lib.hid (fun W' hr => by have := HF.out l2 W' hr (by omega); rwa [hp] at this)
      clear hp hT1
      simp only [Option.map_some]
      go_enter Tryz.func56, Tryz.ntmps56
      go_wp2_with (first
        | (go_at_call 42; (with_reducible refine Calls.mono (HOK.out _) ?_); rintro e w4 ⟨rfl, hw4⟩; replace hw4 := hw4.symm; subst hw4)
        | (go_at_call 67; rw [HW1.out]; (with_reducible refine Calls.mono HT1.out ?_); rintro e w5 ⟨rfl, hr5, hg5⟩; have HR5 := Lib.hid hr5; have HG5 := Lib.hid hg5; clear hr5 hg5)
        | (go_at_call 56; (with_reducible refine Calls.mono (HFN.out _ HR5.out) ?_); rintro e w6 ⟨hg6, vs6, rfl, hx6, hr6⟩; obtain ⟨yo, yt, ya, yn, yc, rfl⟩ := hx6.shape; have hge6 := hg6.size; have hge5 := HG5.out.size
           have ha7 : Below w6.heap.size w6 (w6.alloc (.cells #[.string yo, .string yt, .slice ya yn yc] 29)) := (Below.refl _ _).alloc (Nat.le_refl _) _
           have hg7 := ((HG1.out.trans HG5.out).trans hg6).trans (grow_of ha7 (some rb)); have hg7b := (HG5.out.trans hg6).trans (grow_of ha7 (some rb))
           have hk7 := kids_one (rb := rb) (B := W.heap.size + 1) (hx6.keep (T := fun b => W.heap.size + 1 ≤ b) (Same.of_below (Below.refl _ _)) (fun b hb _ => by omega) x _) (by omega)
           have ex7 := hk7.more ⟨#[33]⟩ nilB; have hr7 := hr6.below ha7; clear hk7
           have hfa := fac_facts (d := d) (HBW.out _ hg7b) hr7 hne0 (.string ⟨#[33]⟩) (.string ⟨#[]⟩) (.slice (some ⟨w6.heap.size, 0, none⟩) 1 1); unfold put3 at hfa; obtain ⟨m1, m2, m3, m4, m5, m6⟩ := hfa; have M3 := Lib.hid m3; have M4 := Lib.hid m4; have M5 := Lib.hid (m5 W hg7 (Nat.le_refl _)); have M6 := Lib.hid m6; have z0 := cell_of (HBW.out _ hg7b) 0; have z1 := cell_of (HBW.out _ hg7b) 1; have z2 := cell_of (HBW.out _ hg7b) 2; have u0 := free_of (HBW.out _ hg7b) 0; have u1 := free_of (HBW.out _ hg7b) 1; have u2 := free_of (HBW.out _ hg7b) 2; have n0 := cell_of m3 0; have n1 := cell_of m3 1; have n2 := cell_of m3 2; have o0 := free_of m3 0; have o1 := free_of m3 1; have o2 := free_of m3 2; have EX := Lib.hid ex7; clear m3 m4 m5 m6; clear hg6 hx6 hr6 ha7 hg7 hg7b ex7 hr7))
      obtain ⟨p1, p2⟩ := put3_at M3.out (.string ⟨#[33]⟩) (.string ⟨#[]⟩) (.slice (some ⟨_, 0, none⟩) 1 1)
      have hgw : W.grownBy _ (some rb) := grown_new M5.out p2 (Nat.le_refl _)
      have hrd := M4.out.far p2 hne0
      have hxw := EX.out.keep (T := fun b => W.heap.size ≤ b) (W' := put3 _ _ _ _ _) ⟨Nat.le_trans M6.out.1 p2.size, fun b hb hlt => by rw [p2.block b (Nat.lt_of_lt_of_le hlt M6.out.1) (fun e => by cases e; omega)]; exact M6.out.2 b ⟨by omega, by omega⟩ hlt⟩ (fun b hb _ => by omega) _ _
      have r0 := cell_of p1 0
      have r1 := cell_of p1 1
      have r2 := cell_of p1 2
      unfold put3 at *
      refine bodyPost_ret (v := .agg #[.string ⟨#[33]⟩, .string ⟨#[]⟩, .slice (some ⟨_, 0, none⟩) 1 1]) ?_ rfl ⟨hgw, ⟨[.string ⟨#[33]⟩, .string ⟨#[]⟩, .slice (some ⟨_, 0, none⟩) 1 1], rfl, hxw, hrd⟩⟩
      simp [results, Tryz.results56, go_sem, r0, r1, r2]
  | false =>
    rw [if_neg (by decide)]
    rw [htb, takes_not htb] at hT1
    have HT1 := Lib.hid hT1
    have hskl : (skipF l).length ≤ 1000 := by have := (List.dropWhile_suffix (fun b => b == 32 || b == 9) (l := l)).length_le; have h9 : (skipF l).length ≤ l.length := this; omega
    have hT2 := fun (w' : World) (hr : RdAt w' rb (skipF l) d1) => takes_v rb (skipF l) [40] d1 w' hr
    rw [show bs [40] = (⟨#[40]⟩ : ByteArray) from rfl, (takes_skip [40] l).1, (takes_skip [40] l).2] at hT2
    have ht2 := takes_len [40] l
    clear hT1 ht1
    cases htc : takesB [40] l with
    | false =>
      rw [if_neg (by decide)]
      rw [htc, takes_not htc] at hT2
      have HT2 := Lib.hid hT2
      have hTG := fun (w' : World) (hr : RdAt w' rb (skipF l) d1) => tag_v rb (skipF l) d1 w' hr (by omega)
      rw [tagF_skip] at hTG
      have HTG := Lib.hid hTG
      clear hT2 hTG ht2
      generalize skipF l = l2 at *
      cases hp : tagF l with
      | none =>
        rw [hp] at HTG
        go_enter Tryz.func56, Tryz.ntmps56
        go_wp2_with (first
          | (go_at_call 42; (with_reducible refine Calls.mono (HOK.out _) ?_); rintro e w4 ⟨rfl, hw4⟩; replace hw4 := hw4.symm; subst hw4)
          | (go_at_call 67; rw [HW1.out]; (with_reducible refine Calls.mono HT1.out ?_); rintro e w5 ⟨rfl, hr5, hg5⟩; have HR5 := Lib.hid hr5; have HG5 := Lib.hid hg5; clear hr5 hg5)
          | (go_at_call 67; (with_reducible refine Calls.mono (HT2.out _ HR5.out) ?_); rintro e w6 ⟨rfl, hr6, hg6⟩; have HR6 := Lib.hid hr6; have HG6 := Lib.hid hg6; clear hr6 hg6)
          | (go_at_call 68; (with_reducible refine Calls.mono (HTG.out _ HR6.out) ?_); rintro e w7 ⟨hg7, hth⟩; unfold thrown at hth; subst hth; have HG7 := Lib.hid hg7; clear hg7))
        all_goals exact ⟨rfl, ((HG1.out.trans HG5.out).trans HG6.out).trans HG7.out, rfl⟩
      | some xr =>
        obtain ⟨x, r⟩ := xr
        rw [hp] at HTG
        go_enter Tryz.func56, Tryz.ntmps56
        go_wp2_with (first
          | (go_at_call 42; (with_reducible refine Calls.mono (HOK.out _) ?_); rintro e w4 ⟨rfl, hw4⟩; replace hw4 := hw4.symm; subst hw4)
          | (go_at_call 67; rw [HW1.out]; (with_reducible refine Calls.mono HT1.out ?_); rintro e w5 ⟨rfl, hr5, hg5⟩; have HR5 := Lib.hid hr5; have HG5 := Lib.hid hg5; clear hr5 hg5)
          | (go_at_call 67; (with_reducible refine Calls.mono (HT2.out _ HR5.out) ?_); rintro e w6 ⟨rfl, hr6, hg6⟩; have HR6 := Lib.hid hr6; have HG6 := Lib.hid hg6; clear hr6 hg6)
          | (go_at_call 68; (with_reducible refine Calls.mono (HTG.out _ HR6.out) ?_); rintro e w7 ⟨hg7, vs7, rfl, hx7, hr7⟩; obtain ⟨yo, yt, ya, yn, yc, rfl⟩ := hx7.shape; have hge6 := HG6.out.size; have hge5 := HG5.out.size
             have hga := ((HG1.out.trans HG5.out).trans HG6.out).trans hg7; have hgb := (HG5.out.trans HG6.out).trans hg7
             have ex7 := hx7.keep (T := fun b => W.heap.size + 1 ≤ b) (Same.of_below (Below.refl _ _)) (fun b hb _ => by omega) x _
             have hfa := fac_facts (d := d) (HBW.out _ hgb) hr7 hne0 (.string yo) (.string yt) (.slice ya yn yc); unfold put3 at hfa; obtain ⟨m1, m2, m3, m4, m5, m6⟩ := hfa; have M3 := Lib.hid m3; have M4 := Lib.hid m4; have M5 := Lib.hid (m5 W hga (Nat.le_refl _)); have M6 := Lib.hid m6; have z0 := cell_of (HBW.out _ hgb) 0; have z1 := cell_of (HBW.out _ hgb) 1; have z2 := cell_of (HBW.out _ hgb) 2; have u0 := free_of (HBW.out _ hgb) 0; have u1 := free_of (HBW.out _ hgb) 1; have u2 := free_of (HBW.out _ hgb) 2; have n0 := cell_of m3 0; have n1 := cell_of m3 1; have n2 := cell_of m3 2; have o0 := free_of m3 0; have o1 := free_of m3 1; have o2 := free_of m3 2; have EX := Lib.hid ex7; clear m3 m4 m5 m6; clear hg7 hx7 hr7 hga hgb ex7))
        obtain ⟨p1, p2⟩ := put3_at M3.out (.string _) (.string _) (.slice _ _ _)
        have hgw : W.grownBy _ (some rb) := grown_new M5.out p2 (Nat.le_refl _)
        have hrd := M4.out.far p2 hne0
        have hxw := EX.out.keep (T := fun b => W.heap.size ≤ b) (W' := put3 _ _ _ _ _) ⟨Nat.le_trans M6.out.1 p2.size, fun b hb hlt => by rw [p2.block b (Nat.lt_of_lt_of_le hlt M6.out.1) (fun e => by cases e; omega)]; exact M6.out.2 b ⟨by omega, by omega⟩ hlt⟩ (fun b hb _ => by omega) _ _
        have r0 := cell_of p1 0
        have r1 := cell_of p1 1
        have r2 := cell_of p1 2
        unfold put3 at *
        refine bodyPost_ret (v := .agg #[.string _, .string _, .slice _ _ _]) ?_ rfl ⟨hgw, ⟨[.string _, .string _, .slice _ _ _], rfl, hxw, hrd⟩⟩
        simp [results, Tryz.results56, go_sem, r0, r1, r2]
    | true =>
      rw [if_pos rfl]
      rw [htc] at hT2
      have HT2 := Lib.hid hT2
      clear hT2
      generalize takesL [40] l = l2 at *
      cases hp : consF (factorF n) l2 with
      | none =>
        have HCN : Hid (∀ W', RdAt W' rb l2 d1 → Calls Tryz.prog 41 #[.pointer (some ⟨rb, 0, none⟩)] W' fun e w' => PartP W' rb d1 none e w') := Lib.hid (fun W' hr => by have := HC.out l2 W' hr (by omega); rwa [hp] at this)
        clear hp
        go_enter Tryz.func56, Tryz.ntmps56
        go_wp2_with (first
          | (go_at_call 42; (with_reducible refine Calls.mono (HOK.out _) ?_); rintro e w4 ⟨rfl, hw4⟩; replace hw4 := hw4.symm; subst hw4)
          | (go_at_call 67; rw [HW1.out]; (with_reducible refine Calls.mono HT1.out ?_); rintro e w5 ⟨rfl, hr5, hg5⟩; have HR5 := Lib.hid hr5; have HG5 := Lib.hid hg5; clear hr5 hg5)
          | (go_at_call 67; (with_reducible refine Calls.mono (HT2.out _ HR5.out) ?_); rintro e w6 ⟨rfl, hr6, hg6⟩; have HR6 := Lib.hid hr6; have HG6 := Lib.hid hg6; clear hr6 hg6)
          | (go_at_call 41; (with_reducible refine Calls.mono (HCN.out _ HR6.out) ?_); rintro e w7 ⟨hg7, hth⟩; unfold thrown at hth; subst hth; have HG7 := Lib.hid hg7; clear hg7))
        all_goals exact ⟨rfl, ((HG1.out.trans HG5.out).trans HG6.out).trans HG7.out, rfl⟩
      | some xr =>
        obtain ⟨x, r⟩ := xr
        have HCN : Hid (∀ W', RdAt W' rb l2 d1 → Calls Tryz.prog 41 #[.pointer (some ⟨rb, 0, none⟩)] W' fun e w' => PartP W' rb d1 (some (x, r)) e w') := Lib.hid (fun W' hr => by have := HC.out l2 W' hr (by omega); rwa [hp] at this)
        clear hp
        simp only
        have hT3 := fun (w' : World) (hr : RdAt w' rb r d1) => takes_v rb r [41] d1 w' hr
        rw [show bs [41] = (⟨#[41]⟩ : ByteArray) from rfl] at hT3
        cases htd : takesB [41] r with
        | false =>
          rw [if_neg (by decide)]
          rw [htd] at hT3
          have HT3 := Lib.hid hT3
          clear hT3
          go_enter Tryz.func56, Tryz.ntmps56
          go_wp2_with (first
            | (go_at_call 42; (with_reducible refine Calls.mono (HOK.out _) ?_); rintro e w4 ⟨rfl, hw4⟩; replace hw4 := hw4.symm; subst hw4)
            | (go_at_call 42; (with_reducible refine Calls.mono (HNN.out _) ?_); rintro e w4 ⟨rfl, hw4⟩; replace hw4 := hw4.symm; subst hw4; unfold thrown)
            | (go_at_call 67; rw [HW1.out]; (with_reducible refine Calls.mono HT1.out ?_); rintro e w5 ⟨rfl, hr5, hg5⟩; have HR5 := Lib.hid hr5; have HG5 := Lib.hid hg5; clear hr5 hg5)
            | (go_at_call 67; (with_reducible refine Calls.mono (HT2.out _ HR5.out) ?_); rintro e w6 ⟨rfl, hr6, hg6⟩; have HR6 := Lib.hid hr6; have HG6 := Lib.hid hg6; clear hr6 hg6)
            | (go_at_call 67; (with_reducible refine Calls.mono (HT3.out _ HRA.out) ?_); rintro e w8 ⟨rfl, hr8, hg8⟩; have HG8 := Lib.hid hg8; clear hr8 hg8)
            | (go_at_call 41; (with_reducible refine Calls.mono (HCN.out _ HR6.out) ?_); rintro e w7 ⟨hg7, vs7, rfl, hx7, hr7⟩; obtain ⟨yo, yt, ya, yn, yc, rfl⟩ := hx7.shape; have hge6 := HG6.out.size; have hge5 := HG5.out.size; have hge7 := hg7.size
               have hga := ((HG1.out.trans HG5.out).trans HG6.out).trans hg7; have hgb := (HG5.out.trans HG6.out).trans hg7; have hz7 := HBW.out w7 hgb
               have EX := Lib.hid (hx7.keep (T := fun b => W.heap.size + 1 ≤ b) (Same.of_below (Below.refl _ _)) (fun b hb _ => by omega) x _); have hpa := put3_at hz7 (.string yo) (.string yt) (.slice ya yn yc); have hra := hr7.far hpa.2 hne0; unfold put3 at hpa hra; have HPA := Lib.hid hpa; have HRA := Lib.hid hra; have HGA := Lib.hid (grown_new hga hpa.2 (Nat.le_refl _))
               have z0 := cell_of hz7 0; have z1 := cell_of hz7 1; have z2 := cell_of hz7 2; have u0 := free_of hz7 0; have u1 := free_of hz7 1; have u2 := free_of hz7 2; clear hg7 hx7 hr7 hga hgb hz7 hpa hra))
          all_goals exact ⟨rfl, HGA.out.trans HG8.out, rfl⟩
        | true =>
          rw [if_pos rfl]
          rw [htd] at hT3
          have HT3 := Lib.hid hT3
          clear hT3
          generalize takesL [41] r = r2 at *
          go_enter Tryz.func56, Tryz.ntmps56
          go_wp2_with (first
            | (go_at_call 42; (with_reducible refine Calls.mono (HOK.out _) ?_); rintro e w4 ⟨rfl, hw4⟩; replace hw4 := hw4.symm; subst hw4)
            | (go_at_call 67; rw [HW1.out]; (with_reducible refine Calls.mono HT1.out ?_); rintro e w5 ⟨rfl, hr5, hg5⟩; have HR5 := Lib.hid hr5; have HG5 := Lib.hid hg5; clear hr5 hg5)
            | (go_at_call 67; (with_reducible refine Calls.mono (HT2.out _ HR5.out) ?_); rintro e w6 ⟨rfl, hr6, hg6⟩; have HR6 := Lib.hid hr6; have HG6 := Lib.hid hg6; clear hr6 hg6)
            | (go_at_call 67; (with_reducible refine Calls.mono (HT3.out _ HRA.out) ?_); rintro e w8 ⟨rfl, hr8, hg8⟩; have HG8 := Lib.hid hg8; have hz8 := (hg8.block W.heap.size (Nat.lt_of_lt_of_le (lt_of_block HPA.out.1) (Nat.le_refl _)) (fun e => hne0 (Option.some.inj e))).trans HPA.out.1
               have m1 := cell_of hr8 1; have f8 := free_of hr8 1; obtain ⟨m3, m4, m5⟩ := fac_facts2 (d := d) hz8 hr8 hne0; have M3 := Lib.hid m3; have M4 := Lib.hid m4; have M5 := Lib.hid m5
               have n0 := cell_of m3 0; have n1 := cell_of m3 1; have n2 := cell_of m3 2; have o0 := free_of m3 0; have o1 := free_of m3 1; have o2 := free_of m3 2; clear m3 m4 m5 hz8 hr8 hg8)
            | (go_at_call 41; (with_reducible refine Calls.mono (HCN.out _ HR6.out) ?_); rintro e w7 ⟨hg7, vs7, rfl, hx7, hr7⟩; obtain ⟨yo, yt, ya, yn, yc, rfl⟩ := hx7.shape; have hge6 := HG6.out.size; have hge5 := HG5.out.size; have hge7 := hg7.size
               have hga := ((HG1.out.trans HG5.out).trans HG6.out).trans hg7; have hgb := (HG5.out.trans HG6.out).trans hg7; have hz7 := HBW.out w7 hgb
               have EX := Lib.hid (hx7.keep (T := fun b => W.heap.size + 1 ≤ b) (Same.of_below (Below.refl _ _)) (fun b hb _ => by omega) x _); have hpa := put3_at hz7 (.string yo) (.string yt) (.slice ya yn yc); have hra := hr7.far hpa.2 hne0; unfold put3 at hpa hra; have HPA := Lib.hid hpa; have HRA := Lib.hid hra; have HGA := Lib.hid (grown_new hga hpa.2 (Nat.le_refl _))
               have z0 := cell_of hz7 0; have z1 := cell_of hz7 1; have z2 := cell_of hz7 2; have u0 := free_of hz7 0; have u1 := free_of hz7 1; have u2 := free_of hz7 2; clear hg7 hx7 hr7 hga hgb hz7 hpa hra))
          obtain ⟨p1, p2⟩ := put3_at M3.out (.string _) (.string _) (.slice _ _ _)
          have hgw : W.grownBy _ (some rb) := grown_new ((HGA.out.trans HG8.out).trans M5.out) p2 (Nat.le_refl _)
          have hrd := M4.out.far p2 hne0
          have hxw := EX.out.keep (T := fun b => W.heap.size ≤ b) (W' := put3 _ _ _ _ _) ⟨Nat.le_trans HPA.out.2.size (Nat.le_trans HG8.out.size (Nat.le_trans M5.out.size p2.size)), fun b hb hlt => by
            have l1 := Nat.lt_of_lt_of_le hlt HPA.out.2.size
            have l2 := Nat.lt_of_lt_of_le l1 HG8.out.size
            have l3 := Nat.lt_of_lt_of_le l2 M5.out.size
            rw [p2.block b l3 (fun e => by cases e; omega), M5.out.block b l2 (fun e => by cases e; omega), HG8.out.block b l1 (fun e => by cases e; omega)]
            exact HPA.out.2.block b hlt (fun e => by cases e; omega)⟩ (fun b hb _ => by omega) _ _
          have r0 := cell_of p1 0
          have r1 := cell_of p1 1
          have r2' := cell_of p1 2
          unfold put3 at *
          refine bodyPost_ret (v := .agg #[.string _, .string _, .slice _ _ _]) ?_ rfl ⟨hgw, ⟨[.string _, .string _, .slice _ _ _], rfl, hxw, hrd⟩⟩
          simp [results, Tryz.results56, go_sem, r0, r1, r2']
theorem fac_any : ∀ n : Nat, FacC n
  | 0 => fac_zero
  | n + 1 => fac_succ n (fac_any n)
end Go.Proofs.YtjgpopjnmonlkaaGreatDoor
