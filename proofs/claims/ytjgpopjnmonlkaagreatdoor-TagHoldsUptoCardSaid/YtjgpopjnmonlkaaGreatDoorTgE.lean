import Derived.Test.YtjgpopjnmonlkaaGreatDoorTgD
namespace Go.Proofs.YtjgpopjnmonlkaaGreatDoor
open Go.RowKit Go.Shelf
set_option linter.unusedSimpArgs false
set_option linter.unusedVariables false
set_option linter.unusedSectionVars false

/-! Layer 5: may it be one? -/
theorem tw_all (q : UInt8 → Bool) : ∀ l : List UInt8, decide ((l.takeWhile q).length = l.length) = l.all q
  | [] => rfl
  | x :: l => by
    rw [List.takeWhile_cons, List.all_cons, ← tw_all q l]
    cases q x
    · simp
    · simp
theorem tagLen_ok (t : ByteArray) : ((tagLen t.data.toList : Int) == (t.size : Int)) = t.data.toList.all mayB := by
  have hl : t.data.toList.length = t.size := by simp
  rw [← tw_all mayB, hl, Bool.eq_iff_iff, beq_iff_eq, decide_eq_true_iff]
  unfold tagLen
  omega
theorem right1k : ∀ args (w : World), (callFunc 31 args).run Tryz.prog w = .ok (.enter 31 args) w := enters_of Tryz.func31 (by kernel_rfl) rfl
/-- The contract of right, with so much room. -/
def RightC (n : Nat) : Prop := ∀ (x : Ex) (vs : List Value) (S : Nat → Prop) (W : World), ExAt W S x vs → x.ok →
  Calls Tryz.prog 23 #[.agg vs.toArray, .int .i64 n] W fun e w' => e = .returned (.bool (rightF n x)) ∧ Below W.heap.size W w'
set_option maxHeartbeats 800000 in
theorem right1_v (n m : Nat) (hm : n + 1 = m) (hn : n < 1000) (hr : RightC n) (k : Ex) (vs : List Value) (S : Nat → Prop) (W : World) (bx : Nat) (hex : ExAt W S k vs) (hk : k.ok) (hc : W.cell? ⟨bx, 0, none⟩ = some (.int .i64 (m : Int))) :
    Calls Tryz.prog 31 #[.agg vs.toArray, .pointer (some ⟨bx, 0, none⟩)] W fun e w' => e = .returned (.bool (rightF n k)) ∧ Below W.heap.size W w' := by
  have hlt := World.block_lt_of_cell? _ _ hc
  obtain ⟨v0, v1, v2, rfl⟩ := three hex.len
  have hb1 : Below W.heap.size W (W.alloc (.cells #[v0, v1, v2] 29)) := (Below.refl _ _).alloc (Nat.le_refl _) _
  have hc1 : (W.alloc (.cells #[v0, v1, v2] 29)).cell? ⟨bx, 0, none⟩ = some (.int .i64 (m : Int)) := by rw [hb1.cell (p := ⟨bx, 0, none⟩) hlt]; exact hc
  have hcl := hr k [v0, v1, v2] S _ (hex.below hb1) hk
  have q1 : (m : Int) - 1 = (n : Int) := by omega
  have q2 : IntKind.i64.wrap (n : Int) = (n : Int) := IntWalk.i64_in _ (by omega)
  have HC := Lib.hid hcl
  have HB := Lib.hid hb1
  clear hcl hb1 hex hc hr
  go_enter Tryz.func31, Tryz.ntmps31
  go_wp2_with (go_at_call 23; with_reducible refine Calls.mono HC.out ?_; rintro e w2 ⟨rfl, hb2⟩; have HB2 := Lib.hid (HB.out.trans (hb2.mono HB.out.size)); clear hb2)
  go_ret
  exact ⟨by first | rfl | simp, HB2.out⟩
theorem rightF_nil (n : Nat) (tag : ByteArray) (kids : List Ex) : rightF (n + 1) (.node ⟨#[]⟩ tag kids) = (tagOK tag && kids.isEmpty) := by rw [rightF, if_pos (show (⟨#[]⟩ : ByteArray) = nilB from rfl)]
theorem rightF_not (n : Nat) (tag : ByteArray) (kids : List Ex) : rightF (n + 1) (.node ⟨#[33]⟩ tag kids) = (decide (kids.length = 1) && (decide (tag = nilB) && kids.all (rightF n))) := by rw [rightF, if_neg (by decide), if_pos (show (⟨#[33]⟩ : ByteArray) = opNot from rfl), rightsF_all]
theorem rightF_and (n : Nat) (tag : ByteArray) (kids : List Ex) : rightF (n + 1) (.node ⟨#[38, 38]⟩ tag kids) = (decide (2 ≤ kids.length) && (decide (tag = nilB) && kids.all (rightF n))) := by rw [rightF, if_neg (by decide), if_neg (by decide), if_pos (show (⟨#[38, 38]⟩ : ByteArray) = opAnd ∨ _ from .inl rfl), rightsF_all]
theorem rightF_or (n : Nat) (tag : ByteArray) (kids : List Ex) : rightF (n + 1) (.node ⟨#[124, 124]⟩ tag kids) = (decide (2 ≤ kids.length) && (decide (tag = nilB) && kids.all (rightF n))) := by rw [rightF, if_neg (by decide), if_neg (by decide), if_pos (show _ ∨ (⟨#[124, 124]⟩ : ByteArray) = opOr from .inr rfl), rightsF_all]
theorem rightF_else (n : Nat) (op tag : ByteArray) (kids : List Ex) (h0 : op ≠ nilB) (h1 : op ≠ opNot) (h2 : op ≠ opAnd) (h3 : op ≠ opOr) : rightF (n + 1) (.node op tag kids) = false := by
  rw [rightF, if_neg h0, if_neg h1, if_neg (fun h => h.elim h2 h3)]
theorem ne_list {a : ByteArray} {l : List UInt8} (h : a ≠ ⟨l.toArray⟩) : (a.toList == l) = false := by
  rw [beq_eq_false_iff_ne, Lib.toList_data]
  intro h2
  apply h
  apply ByteArray.ext
  apply Array.toList_inj.1
  exact h2
theorem nil_list (a : ByteArray) : (a.toList == []) = decide (a = nilB) := by
  by_cases h : a = nilB
  · subst h; rw [Lib.toList_data]; rfl
  · rw [decide_eq_false h]; exact ne_list h
set_option maxRecDepth 100000 in
set_option maxHeartbeats 3200000 in
theorem right_zero : RightC 0 := by
  intro x vs S W hex _
  obtain ⟨v0, v1, v2, rfl⟩ := three hex.len
  have hr : rightF 0 x = false := by unfold rightF; rfl
  rw [hr]
  have HB : Hid (Below W.heap.size W ((W.alloc (.cells #[v0, v1, v2] 29)).alloc (.cells #[.int .i64 0] 3))) := Lib.hid (((Below.refl _ _).alloc (Nat.le_refl _) _).alloc (by simp) _)
  clear hex hr
  go_enter Tryz.func23, Tryz.ntmps23
  go_wp2_with fail
  go_ret
  exact ⟨by first | rfl | simp, HB.out⟩
set_option maxRecDepth 100000 in
set_option maxHeartbeats 3200000 in
theorem right_succ (n m : Nat) (hm : n + 1 = m) (hn : n < 1000) (hr : RightC n) : RightC m := by
  intro x vs S W hex hok
  cases x with
  | node op tag kids =>
    obtain ⟨a, cap, rfl, hrow⟩ := hex.row
    obtain ⟨hkl, hol, htl⟩ := hok.len
    have hmx : tag.size ≤ 9223372036854775807 := by omega
    have hb1 : Below W.heap.size W (W.alloc (.cells #[.string op, .string tag, .slice a kids.length cap] 29)) := (Below.refl _ _).alloc (Nat.le_refl _) _
    have hb2 : Below W.heap.size W ((W.alloc (.cells #[.string op, .string tag, .slice a kids.length cap] 29)).alloc (.cells #[.int .i64 (m : Int)] 3)) := hb1.alloc (by simp) _
    have hsz1 : (W.alloc (.cells #[.string op, .string tag, .slice a kids.length cap] 29)).heap.size = W.heap.size + 1 := by simp
    have hsz2 : ((W.alloc (.cells #[.string op, .string tag, .slice a kids.length cap] 29)).alloc (.cells #[.int .i64 (m : Int)] 3)).heap.size = W.heap.size + 2 := by simp
    have hci : ((W.alloc (.cells #[.string op, .string tag, .slice a kids.length cap] 29)).alloc (.cells #[.int .i64 (m : Int)] 3)).cell? ⟨W.heap.size + 1, 0, none⟩ = some (.int .i64 (m : Int)) := by
      have := heap_alloc_new (W.alloc (.cells #[.string op, .string tag, .slice a kids.length cap] 29)) (.cells #[.int .i64 (m : Int)] 3)
      rw [hsz1] at this
      exact cell_of this 0
    have hALL := all_v5 (rightF n) 31 #[.pointer (some ⟨W.heap.size + 1, 0, none⟩)] right1k a cap kids S _ (hrow.below hb2) (by omega) (fun W' k vs hW hk hx => by
      exact right1_v n m hm hn hr k vs S W' (W.heap.size + 1) hx (hok.kid hk).1 (by rw [hW.cell (p := ⟨W.heap.size + 1, 0, none⟩) (by rw [hsz2]; show W.heap.size + 1 < W.heap.size + 2; omega)]; exact hci))
    have HALL := Lib.hid hALL
    have HB := Lib.hid hb2
    have hkli : kids.length ≤ 100000 := hkl
    have hne : (m : Int) ≠ 0 := by omega
    have hneb : ((m : Int) == 0) = false := by rw [beq_eq_false_iff_ne]; exact hne
    have hkli : kids.length ≤ 100000 := hkl
    have HALL := Lib.hid hALL
    have HB := Lib.hid hb2
    by_cases h0 : op = ⟨#[]⟩
    · subst h0
      have hF := rightF_nil n tag kids
      rw [hm] at hF
      rw [hF]
      clear hF
      have hT := fun w => tagSize_v tag w hmx
      have HT := Lib.hid hT
      have hto := tagLen_ok tag
      obtain ⟨w2, hw2⟩ : ∃ w2, ((W.alloc (.cells #[.string ⟨#[]⟩, .string tag, .slice a kids.length cap] 29)).alloc (.cells #[.int .i64 (m : Int)] 3)) = w2 := ⟨_, rfl⟩
      have HW2 := Lib.hid hw2
      have hcells : ∀ i v, [Value.string ⟨#[]⟩, .string tag, .slice a kids.length cap][i]? = some v → w2.cell? ⟨W.heap.size, i, none⟩ = some v := by
        intro i v hv
        rw [← hw2, ((Below.refl _ _).alloc (Nat.le_refl _) _ : Below (W.alloc (.cells #[.string ⟨#[]⟩, .string tag, .slice a kids.length cap] 29)).heap.size _ _).cell (p := ⟨W.heap.size, i, none⟩) (by rw [hsz1]; show W.heap.size < W.heap.size + 1; omega)]
        rw [cell_of (heap_alloc_new W _) i]
        simpa using hv
      obtain ⟨cs, hcs⟩ : ∃ cs, cs = [(W.heap.size, 1, Value.string tag)] := ⟨_, rfl⟩
      have hI0 : Hid (InvC w2 cs w2.drew) := Lib.hid (by
        refine InvC.start (Below.refl _ _) ?_
        rw [hcs]; simp [hcells 1 (.string tag) rfl])
      have q1 : ∀ i : Wld (InvC w2 cs), i.w.cell? ⟨W.heap.size, 1, none⟩ = some (.string tag) := fun i => InvC.cell i (by rw [hcs]; simp)
      have hne5 : Nonempty (Wld (InvC w2 cs)) := ⟨⟨_, hI0.out⟩⟩
      have hem : kids.isEmpty = ((kids.length : Int) == 0) := by
        cases kids with
        | nil => rfl
        | cons k ks =>
          simp only [List.isEmpty_cons, List.length_cons]
          symm; rw [beq_eq_false_iff_ne]; omega
      have hB2 : Hid (Below W.heap.size W w2) := Lib.hid (by rw [← hw2]; exact hb2)
      rw [hem]
      unfold tagOK
      rw [← hto]
      by_cases ht : tag = ⟨#[]⟩
      · subst ht
        have hs0 : (decide (0 < (⟨#[]⟩ : ByteArray).size)) = false := by decide
        rw [hs0, Bool.false_and, Bool.false_and]
        generalize tagLen (⟨#[]⟩ : ByteArray).data.toList = tl at *
        clear hALL hb1 hb2 hci hsz1 hsz2 hrow hex hok hol htl hmx hr hT hto hcells hem hcs hw2
        generalize kids.length = L at *
        go_enter Tryz.func23, Tryz.ntmps23
        go_wp2_with fail
        rw [HW2.out]
        refine wp_region_inv (InvC w2 cs) (by kernel_rfl) (by kernel_rfl) hI0.out ?_
        repeat (go_big_quiet_step ((first
          | (go_at_call 29; exact Calls.inv (HT.out _)))))
        refine wpQuiet_nil ?_
        intro w6 hw6
        obtain ⟨i6, rfl⟩ := hw6
        have HB8 := Lib.hid (hB2.out.trans (i6.ok.1.mono hB2.out.size))
        go_wp2_with fail
        go_ret
        exact ⟨by first | rfl | simp, HB8.out⟩
      · have ht2 := ne_list (l := []) ht
        have hbne : (tag.toList != []) = true := by rw [bne, ht2]; rfl
        have hs1 : (decide (0 < tag.size)) = true := by
          rw [decide_eq_true_iff]
          refine Nat.pos_of_ne_zero fun h => ht ?_
          apply ByteArray.ext; apply Array.toList_inj.1
          exact List.eq_nil_of_length_eq_zero (by simpa using h)
        rw [hs1, Bool.true_and]
        generalize tagLen tag.data.toList = tl at *
        clear hALL hb1 hb2 hci hsz1 hsz2 hrow hex hok hol htl hmx hr hT hto hcells hem hcs hw2
        generalize kids.length = L at *
        cases hq : ((tl : Int) == (tag.size : Int))
        all_goals
          go_enter Tryz.func23, Tryz.ntmps23
          go_wp2_with fail
          rw [HW2.out]
          refine wp_region_inv (InvC w2 cs) (by kernel_rfl) (by kernel_rfl) hI0.out ?_
          repeat (go_big_quiet_step ((first
            | (go_at_call 29; exact Calls.inv (HT.out _)))))
          refine wpQuiet_nil ?_
          intro w6 hw6
          obtain ⟨i6, rfl⟩ := hw6
          have HB8 := Lib.hid (hB2.out.trans (i6.ok.1.mono hB2.out.size))
          go_wp2_with fail
          go_ret
          exact ⟨by first | rfl | simp, HB8.out⟩
    · have e0 := ne_list (l := []) h0
      by_cases h1 : op = ⟨#[33]⟩
      · subst h1
        have hF := rightF_not n tag kids
        rw [hm] at hF
        rw [hF]
        clear hF
        by_cases hl : kids.length = 1
        · have hli : (kids.length : Int) = 1 := by omega
          by_cases ht : tag = ⟨#[]⟩
          · subst ht
            rw [decide_eq_true hl, decide_eq_true (show (⟨#[]⟩ : ByteArray) = nilB from rfl), Bool.true_and, Bool.true_and]
            generalize kids.all (rightF n) = R at *
            clear hALL hb1 hb2 hci hsz1 hsz2 hrow hex hok hol htl hmx hr
            generalize kids.length = L at *
            subst hl
            go_enter Tryz.func23, Tryz.ntmps23
            go_wp2_with (go_at_call 30; with_reducible refine Calls.mono HALL.out ?_; rintro e w2 ⟨rfl, hb2⟩; have HB2 := Lib.hid (HB.out.trans (hb2.mono HB.out.size)); clear hb2)
            go_ret
            exact ⟨by first | rfl | simp, HB2.out⟩
          · have ht2 := ne_list (l := []) ht
            rw [decide_eq_true hl, decide_eq_false (show tag ≠ nilB from ht), Bool.true_and, Bool.false_and]
            clear hALL hb1 hb2 hci hsz1 hsz2 hrow hex hok hol htl hmx hr
            generalize kids.length = L at *
            subst hl
            go_enter Tryz.func23, Tryz.ntmps23
            go_wp2_with fail
            go_ret
            exact ⟨by first | rfl | simp, HB.out⟩
        · have hli : ¬ (kids.length : Int) = 1 := by omega
          have hlb : ((kids.length : Int) == 1) = false := by rw [beq_eq_false_iff_ne]; exact hli
          rw [decide_eq_false hl, Bool.false_and]
          clear hALL hb1 hb2 hci hsz1 hsz2 hrow hex hok hol htl hmx hr
          generalize kids.length = L at *
          go_enter Tryz.func23, Tryz.ntmps23
          go_wp2_with fail
          go_ret
          exact ⟨by first | rfl | simp, HB.out⟩
      · have e1 := ne_list (l := [33]) h1
        by_cases h2 : op = ⟨#[38, 38]⟩
        · subst h2
          have hF := rightF_and n tag kids
          rw [hm] at hF
          rw [hF]
          clear hF
          by_cases hl : 2 ≤ kids.length
          · have hli : ¬ (kids.length : Int) < 2 := by omega
            by_cases ht : tag = ⟨#[]⟩
            · subst ht
              rw [decide_eq_true hl, decide_eq_true (show (⟨#[]⟩ : ByteArray) = nilB from rfl), Bool.true_and, Bool.true_and]
              generalize kids.all (rightF n) = R at *
              clear hALL hb1 hb2 hci hsz1 hsz2 hrow hex hok hol htl hmx hr
              generalize kids.length = L at *
              go_enter Tryz.func23, Tryz.ntmps23
              go_wp2_with (go_at_call 30; with_reducible refine Calls.mono HALL.out ?_; rintro e w2 ⟨rfl, hb2⟩; have HB2 := Lib.hid (HB.out.trans (hb2.mono HB.out.size)); clear hb2)
              go_ret
              exact ⟨by first | rfl | simp, HB2.out⟩
            · have ht2 := ne_list (l := []) ht
              rw [decide_eq_true hl, decide_eq_false (show tag ≠ nilB from ht), Bool.true_and, Bool.false_and]
              clear hALL hb1 hb2 hci hsz1 hsz2 hrow hex hok hol htl hmx hr
              generalize kids.length = L at *
              go_enter Tryz.func23, Tryz.ntmps23
              go_wp2_with fail
              go_ret
              exact ⟨by first | rfl | simp, HB.out⟩
          · have hli : (kids.length : Int) < 2 := by omega
            have hlb : True := trivial
            rw [decide_eq_false hl, Bool.false_and]
            clear hALL hb1 hb2 hci hsz1 hsz2 hrow hex hok hol htl hmx hr
            generalize kids.length = L at *
            go_enter Tryz.func23, Tryz.ntmps23
            go_wp2_with fail
            go_ret
            exact ⟨by first | rfl | simp, HB.out⟩
        · have e2 := ne_list (l := [38, 38]) h2
          by_cases h3 : op = ⟨#[124, 124]⟩
          · subst h3
            have hF := rightF_or n tag kids
            rw [hm] at hF
            rw [hF]
            clear hF
            by_cases hl : 2 ≤ kids.length
            · have hli : ¬ (kids.length : Int) < 2 := by omega
              by_cases ht : tag = ⟨#[]⟩
              · subst ht
                rw [decide_eq_true hl, decide_eq_true (show (⟨#[]⟩ : ByteArray) = nilB from rfl), Bool.true_and, Bool.true_and]
                generalize kids.all (rightF n) = R at *
                clear hALL hb1 hb2 hci hsz1 hsz2 hrow hex hok hol htl hmx hr
                generalize kids.length = L at *
                go_enter Tryz.func23, Tryz.ntmps23
                go_wp2_with (go_at_call 30; with_reducible refine Calls.mono HALL.out ?_; rintro e w2 ⟨rfl, hb2⟩; have HB2 := Lib.hid (HB.out.trans (hb2.mono HB.out.size)); clear hb2)
                go_ret
                exact ⟨by first | rfl | simp, HB2.out⟩
              · have ht2 := ne_list (l := []) ht
                rw [decide_eq_true hl, decide_eq_false (show tag ≠ nilB from ht), Bool.true_and, Bool.false_and]
                clear hALL hb1 hb2 hci hsz1 hsz2 hrow hex hok hol htl hmx hr
                generalize kids.length = L at *
                go_enter Tryz.func23, Tryz.ntmps23
                go_wp2_with fail
                go_ret
                exact ⟨by first | rfl | simp, HB.out⟩
            · have hli : (kids.length : Int) < 2 := by omega
              have hlb : True := trivial
              rw [decide_eq_false hl, Bool.false_and]
              clear hALL hb1 hb2 hci hsz1 hsz2 hrow hex hok hol htl hmx hr
              generalize kids.length = L at *
              go_enter Tryz.func23, Tryz.ntmps23
              go_wp2_with fail
              go_ret
              exact ⟨by first | rfl | simp, HB.out⟩
          · have e3 := ne_list (l := [124, 124]) h3
            have hF := rightF_else n op tag kids h0 h1 h2 h3
            rw [hm] at hF
            rw [hF]
            clear hF
            clear hALL hb1 hb2 hci hsz1 hsz2 hrow hex hok hol htl hmx hr
            go_enter Tryz.func23, Tryz.ntmps23
            go_wp2_with fail
            go_ret
            exact ⟨by first | rfl | simp, HB.out⟩
end Go.Proofs.YtjgpopjnmonlkaaGreatDoor
