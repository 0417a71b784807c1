import Derived.Test.YtlgolagedgllbaaDoorVrD
namespace Go.Proofs.YtlgolagedgllbaaDoor
open Go.RowKit Go.Shelf
set_option linter.unusedSimpArgs false
set_option linter.unusedVariables false
set_option linter.unusedSectionVars false
attribute [local go_sem] Oper.semAt_some

/-! Layer 4: Path. -/
def okName (x : ByteArray) : Bool := decide (x.size ≠ 0) && allV x inNameV (x.size + 1) 0
def pathF (s : ByteArray) : Bool := if 200 < s.size then false else (partsV s.size s).all okName
/-- What SplitSeq lays: the text, the sign, how much of it is kept. -/
def splitW (w : World) (s sep : ByteArray) : World := ((w.alloc (.cells #[.string s] 9)).alloc (.cells #[.string sep] 9)).alloc (.cells #[.int .i64 0] 3)
theorem splitSeq_v (s sep : ByteArray) (w : World) :
    Calls Tryd.prog 22 #[.string s, .string sep] w fun e w' => e = .returned (.func (.func 48) #[] #[.pointer (some ⟨w.heap.size + 1, 0, none⟩), .pointer (some ⟨w.heap.size, 0, none⟩), .pointer (some ⟨w.heap.size + 1 + 1, 0, none⟩)]) ∧ w' = splitW w s sep := by
  have hmf : ∀ (fn : Fn) (first cap : Array Value) (w : World), (Instr.makeFunc fn first cap).run Tryd.prog w = .ok (.func fn first cap) w := fun _ _ _ _ => rfl
  have hin : ∀ w, Calls Tryd.prog 34 #[.string s, .string sep, .int .i64 0] w fun e w' => e = .returned (.func (.func 48) #[] #[.pointer (some ⟨w.heap.size + 1, 0, none⟩), .pointer (some ⟨w.heap.size, 0, none⟩), .pointer (some ⟨w.heap.size + 1 + 1, 0, none⟩)]) ∧ w' = splitW w s sep := by
    intro w
    go_enter Tryd.func34, Tryd.ntmps34
    go_wp2_with fail
    go_ret
    exact ⟨rfl, rfl⟩
  go_enter Tryd.func22, Tryd.ntmps22
  go_wp2_with (go_at_call 34; with_reducible refine Calls.mono (hin _) ?_; rintro e w2 ⟨rfl, hw2⟩)
  go_ret
  exact ⟨rfl, rfl⟩
theorem lt_of_block' {w : World} {b : Nat} {o : Obj} (h : w.heap[b]? = some o) : b < w.heap.size := (Array.getElem?_eq_some_iff.1 h).1
theorem parts_size : ∀ (f : Nat) (s x : ByteArray), x ∈ partsV f s → x.size ≤ s.size
  | 0, s, x, h => by rw [partsV, List.mem_singleton] at h; rw [h]; exact Nat.le_refl _
  | f + 1, s, x, h => by
    rw [partsV] at h
    split at h
    · rcases List.mem_cons.1 h with rfl | h
      · simp; omega
      · have := parts_size f _ x h
        simp at this
        omega
    · rw [List.mem_singleton.1 h]; exact Nat.le_refl _
set_option maxRecDepth 100000 in
set_option maxHeartbeats 3200000 in
theorem path_v (s : ByteArray) (w : World) (hs0 : s.size ≤ 4611686018427387904) :
    Calls Tryd.prog 7 #[.string s] w fun e w' => e = .returned (.bool (pathF s)) ∧ Below w.heap.size w w' := by
  by_cases hl : 200 < s.size
  · have hp : pathF s = false := by unfold pathF; rw [if_pos hl]
    have hd : decide (200 < (s.size : Int)) = true := by simp; omega
    rw [hp]
    clear hp
    refine (callsIn_wide (n := 6)).1 ?_
    refine callsIn_of_wp_marks Tryd.func7 rfl trivial ?_ rfl
    simp only [Tryd.ntmps7, List.size_toArray, List.length_cons, List.length_nil, Nat.reduceAdd, Nat.reduceSub, Array.replicate_succ, Array.replicate_zero, List.push_toArray, List.append_toArray, List.nil_append, List.cons_append]
    gi_wp2
    refine ⟨.bool false, ?_, rfl, (Below.refl _ _).alloc (Nat.le_refl _) _⟩
    simp [results, Tryd.results7, go_sem]
  have hp : pathF s = (partsV s.size s).all okName := by unfold pathF; rw [if_neg hl]
  have hd : decide (200 < (s.size : Int)) = false := by simp; omega
  obtain ⟨xs, hxs⟩ : ∃ xs, partsV s.size s = xs := ⟨_, rfl⟩
  rw [hp, hxs]
  clear hp
  refine (callsIn_wide (n := 6)).1 ?_
  refine callsIn_of_wp_marks Tryd.func7 rfl trivial ?_ rfl
  simp only [Tryd.ntmps7, List.size_toArray, List.length_cons, List.length_nil, Nat.reduceAdd, Nat.reduceSub, Array.replicate_succ, Array.replicate_zero, List.push_toArray, List.append_toArray, List.nil_append, List.cons_append]
  have hsp := fun w => splitSeq_v s ⟨#[47]⟩ w
  gi_wp2_with (refine ⟨trivial, ?_⟩; gi_at_call 22; refine (callsIn_wide.2 (hsp _)).mono ?_; rintro e w2 ⟨rfl, hw2⟩)
  obtain ⟨w1, hw1⟩ : ∃ w1, w1 = splitW (w.alloc (.cells #[.bool false] 4)) s ⟨#[47]⟩ := ⟨_, rfl⟩
  have hsz : w1.heap.size = w.heap.size + 4 := by rw [hw1]; simp [splitW]
  have hk0 : Keeps (fun _ => False) w w1 := by rw [hw1]; exact ((((Keeps.refl _ _).alloc _).alloc _).alloc _).alloc _
  have b0 : w1.heap[w.heap.size]? = some (.cells #[.bool false] 4 (0, 0)) := by
    rw [hw1]
    unfold splitW
    rw [Below.heap_alloc _ _ _ (by simp; omega), Below.heap_alloc _ _ _ (by simp; omega), Below.heap_alloc _ _ _ (by simp)]
    exact alloc_at rfl _
  have b1 : Str w1 (w.heap.size + 1) s := by
    rw [hw1]
    unfold splitW Str
    rw [Below.heap_alloc _ _ _ (by simp <;> omega), Below.heap_alloc _ _ _ (by simp <;> omega)]
    exact alloc_at (by simp) _
  have b2 : Str w1 (w.heap.size + 1 + 1) ⟨#[47]⟩ := by
    rw [hw1]
    unfold splitW Str
    rw [Below.heap_alloc _ _ _ (by simp)]
    exact alloc_at (by simp) _
  have b3 : w1.heap[w.heap.size + 1 + 1 + 1]? = some (.cells #[.int .i64 0] 3 (0, 0)) := by
    rw [hw1]
    unfold splitW
    exact alloc_at (by simp) _
  have hbel : Below w.heap.size w w1 := hk0.below (Nat.le_refl _) (fun k h => h.elim)
  rw [← hw1]
  clear hw1 hk0 hsp
  have hlen : ∀ x, x ∈ xs → x.size ≤ 4611686018427387904 := fun x hx => by have := parts_size s.size s x (by rw [hxs]; exact hx); omega
  have hit := split_iter 5 (by omega) (w.heap.size + 1 + 1) (w.heap.size + 1) (w.heap.size + 1 + 1 + 1) s (fun k => k = w.heap.size) w1 (by omega) b2 b1 b3 (by omega) (by omega) (by omega) (by omega) (by omega)
  rw [hxs] at hit
  refine wpIn_range_st (by omega) (gf := 48) (lb := #[.pointer (some ⟨w.heap.size + 1 + 1, 0, none⟩), .pointer (some ⟨w.heap.size + 1, 0, none⟩), .pointer (some ⟨w.heap.size + 1 + 1 + 1, 0, none⟩)]) rfl (enters_of Tryd.func48 (by kernel_rfl) rfl)
    (R := fun (x : ByteArray) v _ => v = .string x) rfl xs (w.heap.size + 1) (fun k => k = w.heap.size) (fun k hk => by omega) (by omega) hit (fun _ _ _ _ h _ => h)
    (fun pre W => W.heap[w.heap.size]? = some (.cells #[.bool false] 4 (0, 0)) ∧ pre.all okName = true ∧ Below w.heap.size w W)
    (fun pre W => W.heap[w.heap.size]? = some (.cells #[.bool false] 4 (0, 0)) ∧ xs.all okName = false ∧ Below w.heap.size w W)
    (fun pre A B hA h hk => ⟨by rw [hk.block _ (by omega) (by omega)]; exact h.1, h.2.1, h.2.2.trans (hk.below (by omega) (fun k hk => by omega))⟩)
    (fun pre A B hA h hk => ⟨by rw [hk.block _ (by omega) (by omega)]; exact h.1, h.2.1, h.2.2.trans (hk.below (by omega) (fun k hk => by omega))⟩)
    ⟨b0, rfl, hbel⟩
    (fun v => { tmps := #[.string s, undef, .pointer (some ⟨w.heap.size, 0, none⟩), v, .string s, .int .i64 s.size, .bool false, .string s,
      .func (.func 48) #[] #[.pointer (some ⟨w.heap.size + 1 + 1, 0, none⟩), .pointer (some ⟨w.heap.size + 1, 0, none⟩), .pointer (some ⟨w.heap.size + 1 + 1 + 1, 0, none⟩)], v, undef, undef, undef, undef, undef, undef, undef], defers := [] }) ?assign ?body ?done ?stop
  case assign =>
    intro l v W K hK
    gi_wp2
    exact hK
  case body =>
    rintro l pre x rest v W hx ⟨hc, hp, hb⟩ rfl hW
    have c0 := cell_of hc 0
    have f0 := free_of hc 0
    have HC := Lib.hid hc
    have HP := Lib.hid hp
    have HB := Lib.hid hb
    have hxl : x.size ≤ 4611686018427387904 := hlen x (by rw [hx]; simp)
    by_cases h0 : x.size = 0
    · have hxs2 : Hid (xs.all okName = false) := Lib.hid (by
        rw [hx, List.all_append, List.all_cons]
        have : okName x = false := by unfold okName; rw [h0]; rfl
        rw [this]; simp)
      have hl3 : x.toList = [] := by have := empty_list x h0; simpa using this
      have hl2 : x.toList.isEmpty = true := by rw [hl3]; rfl
      clear h0 hx hc hp hb
      gi_wp2
      refine ⟨trivial, ?_⟩
      gi_wp2
      exact ⟨(Keeps.refl (fun k => k = w.heap.size) W).setCell (p := ⟨w.heap.size, 0, none⟩) (.inl rfl) _, heap_setCell HC.out _, hxs2.out, HB.out.setCell (p := ⟨w.heap.size, 0, none⟩) (Nat.le_refl _) _⟩
    · have hl3 : ¬ x.toList = [] := by have := full_list x h0; simpa using this
      have hl2 : x.toList.isEmpty = false := by cases hq : x.toList with | nil => exact absurd hq hl3 | cons a l => rfl
      have hall := fun w => all_v inNameV 24 x w hxl namek inName_v
      have hok : okName x = allV x inNameV (x.size + 1) 0 := by unfold okName; rw [decide_eq_true h0]; rfl
      generalize allV x inNameV (x.size + 1) 0 = b at hall hok
      cases b with
      | true =>
        have HN : Hid ((pre ++ [x]).all okName = true) := Lib.hid (by rw [List.all_append, HP.out, List.all_cons, hok]; rfl)
        clear h0 hx hc hp hb hok
        gi_wp2_with (refine ⟨trivial, ?_⟩; gi_at_call 23; refine (CallsIn.inRound l (callsIn_wide.2 (hall _))).mono ?_; rintro e w2 ⟨rfl, hb2⟩)
        exact ⟨Keeps.of_below hb2 _, (hb2.block _ (by omega)).trans HC.out, HN.out, HB.out.trans (hb2.mono HB.out.size)⟩
      | false =>
        have HN : Hid (xs.all okName = false) := Lib.hid (by rw [hx, List.all_append, List.all_cons, hok]; simp)
        clear h0 hx hc hp hb hok
        gi_wp2_with (refine ⟨trivial, ?_⟩; gi_at_call 23; refine (CallsIn.inRound l (callsIn_wide.2 (hall _))).mono ?_; rintro e w2 ⟨rfl, hb2⟩; have hc2 := (hb2.block w.heap.size (by omega)).trans HC.out; have c2 := cell_of hc2 0; have f2 := free_of hc2 0; have HC2 := Lib.hid hc2; clear hc2)
        exact ⟨(Keeps.of_below hb2 (fun k => k = w.heap.size)).setCell (p := ⟨w.heap.size, 0, none⟩) (.inl rfl) _, heap_setCell HC2.out _, HN.out, (HB.out.trans (hb2.mono HB.out.size)).setCell (p := ⟨w.heap.size, 0, none⟩) (Nat.le_refl _) _⟩
  case done =>
    rintro W ⟨hc, hp, hb⟩ hK
    have c0 := cell_of hc 0
    have f0 := free_of hc 0
    have hK2 : (W.setCell ⟨w.heap.size, 0, none⟩ (.bool true)).heap[w1.heap.size]? = some (.deferred (some [])) := (Below.heap_setCell _ _ _ _ (by show w1.heap.size ≠ w.heap.size; omega)).trans hK
    have hlt := lt_of_block' hK2
    have hb2 : Below w.heap.size w ((W.setCell ⟨w.heap.size, 0, none⟩ (.bool true)).putObj w1.heap.size (.deferred none)) :=
      (hb.setCell (p := ⟨w.heap.size, 0, none⟩) (Nat.le_refl _) _).grown (grownBy_putObj' _ _ _) (by have := (hb.setCell (p := ⟨w.heap.size, 0, none⟩) (Nat.le_refl _) (.bool true)).size; omega) (fun k e => by cases e; omega)
    have hc3 : ((W.setCell ⟨w.heap.size, 0, none⟩ (.bool true)).putObj w1.heap.size (.deferred none)).heap[w.heap.size]? = some (.cells #[.bool true] 4 (0, 0)) := (World.putObj_heap_other (by omega)).trans (heap_setCell hc _)
    have HB2 := Lib.hid hb2
    have HK2 := Lib.hid hK2
    have HC3 := Lib.hid hc3
    have HP := Lib.hid hp
    clear hb2 hK2 hc3 hc hp hb hK hlt
    gi_wp2
    refine ⟨by simp, .inl ⟨_, _, rfl, run_takeDeferred HK2.out, ?_⟩⟩
    refine ⟨.bool true, ?_, by rw [HP.out], HB2.out⟩
    have := cell_of HC3.out 0
    simp [results, Tryd.results7, go_sem, this]
  case stop =>
    rintro pre W ⟨hc, hp, hb⟩ hK
    have hlt := lt_of_block' hK
    have hb2 : Below w.heap.size w (W.putObj w1.heap.size (.deferred none)) := hb.grown (grownBy_putObj' _ _ _) hb.size (fun k e => by cases e; omega)
    have hc3 : (W.putObj w1.heap.size (.deferred none)).heap[w.heap.size]? = some (.cells #[.bool false] 4 (0, 0)) := (World.putObj_heap_other (by omega)).trans hc
    gi_wp2
    refine ⟨by simp, .inl ⟨_, _, rfl, run_takeDeferred hK, ?_⟩⟩
    refine ⟨.bool false, ?_, by rw [hp], hb2⟩
    have := cell_of hc3 0
    simp [results, Tryd.results7, go_sem, this]
end Go.Proofs.YtlgolagedgllbaaDoor
