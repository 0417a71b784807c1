import Derived.Test.YtlgolagedgllbaaDoorVrG
import Derived.Test.YtlgolagedgllbaaDoorPlF1
namespace Go.Proofs.YtlgolagedgllbaaDoor
open Go.RowKit Go.Shelf
set_option linter.unusedSimpArgs false
set_option linter.unusedVariables false
set_option linter.unusedSectionVars false
attribute [local go_sem] Oper.semAt_some

/-! Layer 4: Read. -/
def foldL : List (List ByteArray) → St → Option St
  | [], t => some t
  | ws :: r, t => if ws.length = 0 then foldL r t else if (stepL t ws).1 = true then foldL r (stepL t ws).2 else none
theorem foldL_app : ∀ (a b : List (List ByteArray)) (t u : St), foldL a t = some u → foldL (a ++ b) t = foldL b u
  | [], b, t, u, h => by cases h; rfl
  | ws :: a, b, t, u, h => by
    rw [List.cons_append, foldL]
    rw [foldL] at h
    split at h
    · rename_i h0; rw [if_pos h0]; exact foldL_app a b t u h
    · rename_i h0
      rw [if_neg h0]
      split at h
      · rename_i h1; rw [if_pos h1]; exact foldL_app a b _ u h
      · cases h
def startS : St := ⟨⟨#[]⟩, 16, 0, 0⟩
def readR (s : ByteArray) : Option St := match foldL (linesV (s.size + 1) s) startS with
  | none => none
  | some t => if t.mods = 1 ∧ t.vers ≤ 1 then some t else none
def readP (s : ByteArray) : ByteArray := if 65536 < s.size then ⟨#[]⟩ else match readR s with | some t => t.path | none => ⟨#[]⟩
def readI (s : ByteArray) : Int := if 65536 < s.size then 0 else match readR s with | some t => t.minor | none => 0
def readE (s : ByteArray) : Int := if 65536 < s.size then 12 else match readR s with | some _ => 0 | none => 7
theorem field_size (p : Nat → Bool) (s x : ByteArray) (h : x ∈ Lib.goFieldsP p s) : x.size ≤ s.size := by
  unfold Lib.goFieldsP at h
  obtain ⟨a, _, rfl⟩ := List.mem_map.1 h
  simp
  omega
theorem words_size : ∀ (f : Nat) (s : ByteArray) (ws : List ByteArray) (x : ByteArray), ws ∈ linesV f s → x ∈ ws → x.size ≤ s.size
  | 0, s, ws, x, h, _ => by cases h
  | f + 1, s, ws, x, h, hx => by
    obtain ⟨z1, z2, z3⟩ := cut_size s [10] (by decide)
    rw [linesV] at h
    rcases List.mem_cons.1 h with rfl | h
    · have := field_size _ _ x hx
      obtain ⟨y1, _, _⟩ := cut_size (cut1 s.data.toList [10]) [47, 47] (by decide)
      omega
    · split at h
      · have := words_size f _ ws x h hx
        omega
      · cases h
theorem step_counts (t : St) (ws : List ByteArray) : (stepL t ws).2.mods ≤ t.mods + 1 ∧ (stepL t ws).2.vers ≤ t.vers + 1 := by
  unfold stepL
  split
  · repeat' split
    all_goals (simp only; omega)
  · simp only; omega
theorem lines_len : ∀ (f : Nat) (s : ByteArray), (linesV f s).length ≤ f
  | 0, s => Nat.le_refl _
  | f + 1, s => by
    rw [linesV, List.length_cons]
    split
    · have := lines_len f (cut2 s.data.toList [10]); omega
    · simp
theorem lines_v (s : ByteArray) (w : World) : Calls Tryd.prog 25 #[.string s] w fun e w' => e = .returned (.func (.func 35) #[] #[.pointer (some ⟨w.heap.size, 0, none⟩)]) ∧ w' = w.alloc (.cells #[.string s] 9) := by
  have hmf : ∀ (fn : Fn) (first cap : Array Value) (w : World), (Instr.makeFunc fn first cap).run Tryd.prog w = .ok (.func fn first cap) w := fun _ _ _ _ => rfl
  go_enter Tryd.func25, Tryd.ntmps25
  go_wp2_with fail
  go_ret
  exact ⟨rfl, rfl⟩
set_option maxRecDepth 100000 in
set_option maxHeartbeats 6400000 in
theorem read_v (p : Option Addr) (cap : Nat) (s : ByteArray) (w : World) (hb : BSl w p s) (hE : EnvV w) (hs0 : s.size ≤ 4611686018427387904) :
    Calls Tryd.prog 12 #[.slice p s.size cap] w fun e w' => e = .returned (.tuple #[.agg #[.string (readP s), .int .i64 (readI s)], .int .i64 (readE s)]) ∧ Below w.heap.size w w' := by
  have h8 := hE.2.2.2
  by_cases hl : 65536 < s.size
  · have hp : readP s = ⟨#[]⟩ := by unfold readP; rw [if_pos hl]
    have hi : readI s = 0 := by unfold readI; rw [if_pos hl]
    have he : readE s = 12 := by unfold readE; rw [if_pos hl]
    have hd : decide (65536 < (s.size : Int)) = true := by simp; omega
    rw [hp, hi, he]
    clear hp hi he hb hE
    refine (callsIn_wide (n := 6)).1 ?_
    refine callsIn_of_wp_marks Tryd.func12 rfl trivial ?_ rfl
    simp only [Tryd.ntmps12, List.size_toArray, List.length_cons, List.length_nil, Nat.reduceAdd, Nat.reduceSub, Array.replicate_succ, Array.replicate_zero, List.push_toArray, List.append_toArray, List.nil_append, List.cons_append]
    gi_wp2
    refine ⟨.tuple #[.agg #[.string ⟨#[]⟩, .int .i64 0], .int .i64 12], ?_, rfl, ((Below.refl _ _).alloc (Nat.le_refl _) _).alloc (by simp) _⟩
    simp [results, Tryd.results12, go_sem]
  have hd : decide (65536 < (s.size : Int)) = false := by simp; omega
  obtain ⟨xs, hxs⟩ : ∃ xs, linesV (s.size + 1) s = xs := ⟨_, rfl⟩
  refine (callsIn_wide (n := 6)).1 ?_
  refine callsIn_of_wp_marks Tryd.func12 rfl trivial ?_ rfl
  simp only [Tryd.ntmps12, List.size_toArray, List.length_cons, List.length_nil, Nat.reduceAdd, Nat.reduceSub, Array.replicate_succ, Array.replicate_zero, List.push_toArray, List.append_toArray, List.nil_append, List.cons_append]
  have hsp := fun w => lines_v s w
  obtain ⟨w0, hw0⟩ : ∃ w0, w0 = ((w.alloc (.cells #[.string ⟨#[]⟩, .int .i64 0] 33)).alloc (.cells #[.int .i64 0] 22)).alloc (.cells #[.string ⟨#[]⟩, .int .i64 16, .int .i64 0, .int .i64 0] 53) := ⟨_, rfl⟩
  have hk0 : Keeps (fun _ => False) w w0 := by rw [hw0]; exact (((Keeps.refl _ _).alloc _).alloc _).alloc _
  have hcv := conv_at (hb.below (hk0.below (Nat.le_refl _) (fun k h => h.elim))) cap
  rw [hw0] at hcv
  gi_wp2_with (refine ⟨trivial, ?_⟩; gi_at_call 25; refine (callsIn_wide.2 (hsp _)).mono ?_; rintro e w2 ⟨rfl, hw2⟩)
  obtain ⟨w1, hw1⟩ : ∃ w1, w1 = w0.alloc (.cells #[.string s] 9) := ⟨_, rfl⟩
  rw [← hw0, ← hw1]
  have hz0 : w0.heap.size = w.heap.size + 3 := by rw [hw0]; simp
  have hsz : w1.heap.size = w.heap.size + 4 := by rw [hw1]; simp [hz0]
  have hk1 : Keeps (fun _ => False) w w1 := by rw [hw1]; exact hk0.alloc _
  have b0 : w1.heap[w.heap.size]? = some (.cells #[.string ⟨#[]⟩, .int .i64 0] 33 (0, 0)) := by
    rw [hw1, Below.heap_alloc _ _ _ (by omega), hw0, Below.heap_alloc _ _ _ (by simp; omega), Below.heap_alloc _ _ _ (by simp)]
    exact alloc_at rfl _
  have b1 : w1.heap[w.heap.size + 1]? = some (.cells #[.int .i64 0] 22 (0, 0)) := by
    rw [hw1, Below.heap_alloc _ _ _ (by omega), hw0, Below.heap_alloc _ _ _ (by simp <;> omega)]
    exact alloc_at (by simp) _
  have b2 : Fil w1 (w.heap.size + 1 + 1) startS := by
    unfold Fil
    rw [hw1, Below.heap_alloc _ _ _ (by omega), hw0]
    exact alloc_at (by simp) _
  have b3 : Str w1 (w.heap.size + 1 + 1 + 1) s := by
    unfold Str
    rw [hw1]
    exact alloc_at (by omega) _
  have hE1 := hE.keeps hk1 (fun k h => h.elim)
  have hbel : Below w.heap.size w w1 := hk1.below (Nat.le_refl _) (fun k h => h.elim)
  have hit := lines_iter 5 (by omega) (w.heap.size + 1 + 1 + 1) s (fun k => k = w.heap.size ∨ k = w.heap.size + 1 ∨ k = w.heap.size + 1 + 1) w1 (by omega) hE1 b3 (by omega) (fun k h => by omega) (by omega)
  rw [hxs] at hit
  have hwl : ∀ ws x, ws ∈ xs → x ∈ ws → x.size ≤ 1000000 := fun ws x h1 h2 => by have := words_size (s.size + 1) s ws x (by rw [hxs]; exact h1) h2; omega
  have hll : xs.length ≤ 70000 := by have := lines_len (s.size + 1) s; rw [hxs] at this; omega
  have hrr : readR s = match foldL xs startS with | none => none | some t => if t.mods = 1 ∧ t.vers ≤ 1 then some t else none := by unfold readR; rw [hxs]
  have hpp : readP s = match readR s with | some t => t.path | none => ⟨#[]⟩ := by unfold readP; rw [if_neg hl]
  have hii : readI s = match readR s with | some t => t.minor | none => 0 := by unfold readI; rw [if_neg hl]
  have hee : readE s = match readR s with | some _ => 0 | none => 7 := by unfold readE; rw [if_neg hl]
  clear hcv hsp hk0 hk1 hw0 hw1
  refine wpIn_range_st (by omega) (gf := 35) (lb := #[.pointer (some ⟨w.heap.size + 1 + 1 + 1, 0, none⟩)]) rfl (enters_of Tryd.func35 (by kernel_rfl) rfl)
    (R := RowW (w1.heap.size + 2)) rfl xs (w.heap.size + 1 + 1 + 1) (fun k => k = w.heap.size ∨ k = w.heap.size + 1 ∨ k = w.heap.size + 1 + 1) (fun k hk => by omega) (by omega) hit (fun x v A B h hk => h.keep _ hk (by omega))
    (fun pre W => ∃ t, foldL pre startS = some t ∧ t.mods ≤ pre.length ∧ t.vers ≤ pre.length ∧ Fil W (w.heap.size + 1 + 1) t ∧ W.heap[w.heap.size]? = some (.cells #[.string ⟨#[]⟩, .int .i64 0] 33 (0, 0)) ∧ W.heap[w.heap.size + 1]? = some (.cells #[.int .i64 0] 22 (0, 0)) ∧ EnvV W ∧ Below w.heap.size w W)
    (fun pre W => foldL xs startS = none ∧ W.heap[w.heap.size]? = some (.cells #[.string ⟨#[]⟩, .int .i64 0] 33 (0, 0)) ∧ W.heap[w.heap.size + 1]? = some (.cells #[.int .i64 7] 22 (0, 0)) ∧ Below w.heap.size w W)
    (fun pre A B hA h hk => by
      obtain ⟨t, h1, h2, h3, h4, h5, h6, h7, h8'⟩ := h
      exact ⟨t, h1, h2, h3, h4.keep hk (by omega), by rw [hk.block _ (by omega) (by omega)]; exact h5, by rw [hk.block _ (by omega) (by omega)]; exact h6, h7.keeps hk (fun k hk => by omega), h8'.trans (hk.below (by omega) (fun k hk => by omega))⟩)
    (fun pre A B hA h hk => ⟨h.1, by rw [hk.block _ (by omega) (by omega)]; exact h.2.1, by rw [hk.block _ (by omega) (by omega)]; exact h.2.2.1, h.2.2.2.trans (hk.below (by omega) (fun k hk => by omega))⟩)
    ⟨startS, rfl, Nat.le_refl _, Nat.le_refl _, b2, b0, b1, hE1, hbel⟩
    (fun v => { tmps := #[.slice p s.size cap, undef, .pointer (some ⟨w.heap.size, 0, none⟩), .pointer (some ⟨w.heap.size + 1, 0, none⟩), .pointer (some ⟨w.heap.size + 1 + 1, 0, none⟩), v, .slice p s.size cap, .int .i64 s.size, .bool false, undef,
      .agg #[.string ⟨#[]⟩, .int .i64 16], .agg #[.string ⟨#[]⟩, .int .i64 16, .int .i64 0, .int .i64 0], .slice p s.size cap, .string s,
      .func (.func 35) #[] #[.pointer (some ⟨w.heap.size + 1 + 1 + 1, 0, none⟩)], v, undef, undef, undef, undef, undef, undef, undef, undef, undef, undef, undef, undef, undef, undef, undef, undef, undef, undef, undef, undef], defers := [] }) ?assign ?body ?done ?stop
  case assign =>
    intro l v W K hK
    gi_wp2
    exact hK
  case body =>
    rintro l pre ws rest v W hx ⟨t, h1, h2, h3, h4, h5, h6, h7, h8'⟩ ⟨A, rfl, hA, hown⟩ hW
    have hpl : pre.length ≤ 70000 := by rw [hx] at hll; simp at hll; omega
    have hwlen : ws.length ≤ 9223372036854775807 := by
      rcases hown.2 with ⟨hh, _⟩ | ⟨g, cap', cur, _, _, _, q1, q2, _⟩
      · cases hh
      · unfold maxLen at q2; omega
    by_cases h0 : ws.length = 0
    · have hd0 : decide ((0 : Int) < (ws.length : Int)) = false := decide_eq_false (by omega)
      have hfo : foldL (pre ++ [ws]) startS = some t := by rw [foldL_app pre [ws] startS t h1, foldL, if_pos h0]; rfl
      have HQ : Hid (foldL (pre ++ [ws]) startS = some t ∧ t.mods ≤ (pre ++ [ws]).length ∧ t.vers ≤ (pre ++ [ws]).length ∧ Fil W (w.heap.size + 1 + 1) t ∧ W.heap[w.heap.size]? = some (.cells #[.string ⟨#[]⟩, .int .i64 0] 33 (0, 0)) ∧ W.heap[w.heap.size + 1]? = some (.cells #[.int .i64 0] 22 (0, 0)) ∧ EnvV W ∧ Below w.heap.size w W) :=
        Lib.hid ⟨hfo, by simp; omega, by simp; omega, h4, h5, h6, h7, h8'⟩
      have hz : (ws.length : Int) = 0 := by omega
      clear h1 h4 h5 h6 h7 h8' hfo hown hx
      rw [h0]
      gi_wp2
      refine ⟨trivial, ?_⟩
      gi_wp2
      exact ⟨Keeps.refl _ _, t, HQ.out⟩
    · have hd0 : decide ((0 : Int) < (ws.length : Int)) = true := decide_eq_true (by omega)
      have hAl := (hown.lt A rfl).2
      have hcs : ∀ j (h : j < ws.length), W.cell? ⟨A, j, none⟩ = some (.string ws[j]) := by
        intro j h
        have := hown.cells (g := A) rfl j (.string ws[j]) (by simp [h])
        have e : (⟨A, 0, none⟩ : Addr).add j = ⟨A, j, none⟩ := by unfold Addr.add; split <;> simp_all
        rwa [e] at this
      have hline := line_v (w.heap.size + 1 + 1) A t ws W h7 h4 (by omega) (by omega) (fun x hxm => hwl ws x (by rw [hx]; simp) hxm) (fun e => h0 (by rw [e]; rfl)) hwlen hAl hcs
      obtain ⟨q1, q2⟩ := step_counts t ws
      have hfo : ∀ r, foldL (pre ++ ws :: r) startS = if (stepL t ws).1 = true then foldL r (stepL t ws).2 else none := fun r => by rw [foldL_app pre _ startS t h1, foldL, if_neg h0]
      generalize stepL t ws = st at hline q1 q2 hfo
      obtain ⟨sb, t2⟩ := st
      simp only at hline q1 q2 hfo
      have H5 := Lib.hid h5
      have H6 := Lib.hid h6
      have H7 := Lib.hid h7
      have H8 := Lib.hid h8'
      cases sb with
      | true =>
        have HFO : Hid (foldL (pre ++ [ws]) startS = some t2) := Lib.hid (by rw [hfo [], if_pos rfl]; rfl)
        clear h1 h4 h5 h6 h7 h8' hfo hown hx hcs
        gi_wp2_with (refine ⟨trivial, ?_⟩; gi_at_call 26; refine (CallsIn.inRound l (callsIn_wide.2 hline)).mono ?_; rintro e w2 ⟨rfl, hk2, hf2⟩)
        exact ⟨hk2.mono (fun k _ e => .inr (.inr e)), t2, HFO.out, by simp; omega, by simp; omega, hf2, (hk2.block _ (lt_of_block H5.out) (by omega)).trans H5.out, (hk2.block _ (lt_of_block H6.out) (by omega)).trans H6.out, H7.out.keeps hk2 (fun k e => by omega), H8.out.trans (hk2.below H8.out.size (fun k e => by omega))⟩
      | false =>
        have HFO : Hid (foldL xs startS = none) := Lib.hid (by rw [hx, hfo rest, if_neg (by decide)])
        clear h1 h4 h5 h6 h7 h8' hfo hown hx hcs
        gi_wp2_with (refine ⟨trivial, ?_⟩; gi_at_call 26; refine (CallsIn.inRound l (callsIn_wide.2 hline)).mono ?_; rintro e w2 ⟨rfl, hk2, hf2⟩
                     have n5 := (hk2.block _ (lt_of_block H5.out) (by omega)).trans H5.out
                     have n6 := (hk2.block _ (lt_of_block H6.out) (by omega)).trans H6.out
                     have d0 := cell_of n5 0
                     have d1 := cell_of n5 1
                     have d2 := cell_of n6 0
                     have f0 := free_of n5 0
                     have f1 := free_of n5 1
                     have f2 := free_of n6 0
                     have N5 := Lib.hid n5
                     have N6 := Lib.hid n6
                     have HK2 := Lib.hid hk2
                     clear n5 n6 hk2)
        have a1 := heap_setCell N5.out (i := 0) (.string ⟨#[]⟩)
        have a2 := heap_setCell a1 (i := 1) (.int .i64 0)
        have a3 := (Below.heap_setCell ((w2.setCell ⟨w.heap.size, 0, none⟩ (.string ⟨#[]⟩)).setCell ⟨w.heap.size, 1, none⟩ (.int .i64 0)) ⟨w.heap.size + 1, 0, none⟩ (.int .i64 7) w.heap.size (by show w.heap.size ≠ w.heap.size + 1; omega)).trans a2
        have c1 : ((w2.setCell ⟨w.heap.size, 0, none⟩ (.string ⟨#[]⟩)).setCell ⟨w.heap.size, 1, none⟩ (.int .i64 0)).heap[w.heap.size + 1]? = some (.cells #[.int .i64 0] 22 (0, 0)) :=
          (Below.heap_setCell _ _ _ _ (by show w.heap.size + 1 ≠ w.heap.size; omega)).trans ((Below.heap_setCell _ _ _ _ (by show w.heap.size + 1 ≠ w.heap.size; omega)).trans N6.out)
        have c2 := heap_setCell c1 (i := 0) (.int .i64 7)
        refine ⟨?_, HFO.out, a3, c2, ?_⟩
        · exact (((HK2.out.mono (T := fun k => k = w.heap.size ∨ k = w.heap.size + 1 ∨ k = w.heap.size + 1 + 1) (fun k _ e => .inr (.inr e))).setCell (p := ⟨w.heap.size, 0, none⟩) (.inl (.inl rfl)) _).setCell (p := ⟨w.heap.size, 1, none⟩) (.inl (.inl rfl)) _).setCell (p := ⟨w.heap.size + 1, 0, none⟩) (.inl (.inr (.inl rfl))) _
        · exact (((H8.out.trans (HK2.out.below H8.out.size (fun k e => by omega))).setCell (p := ⟨w.heap.size, 0, none⟩) (Nat.le_refl _) _).setCell (p := ⟨w.heap.size, 1, none⟩) (Nat.le_refl _) _).setCell (p := ⟨w.heap.size + 1, 0, none⟩) (by show w.heap.size ≤ w.heap.size + 1; omega) _
  case done =>
    rintro W ⟨t, h1, h2, h3, h4, h5, h6, h7, h8'⟩ hK
    obtain ⟨m0, m1, m2, m3⟩ := h4.c
    rw [h1] at hrr
    simp only at hrr
    by_cases hm : t.mods = 1
    · have hm1 : ((t.mods : Int) != 1) = false := by rw [hm]; rfl
      by_cases hv : t.vers ≤ 1
      · have hv1 : decide ((1 : Int) < (t.vers : Int)) = false := decide_eq_false (by omega)
        have hR : readR s = some t := by rw [hrr, if_pos ⟨hm, hv⟩]
        rw [hR] at hpp hii hee
        have eP : readP s = t.path := hpp
        have eI : readI s = t.minor := hii
        have eE : readE s = 0 := hee
        clear hrr hR hpp hii hee
        have a1 := heap_setCell h5 (i := 0) (.string t.path)
        have a2 := heap_setCell a1 (i := 1) (.int .i64 t.minor)
        obtain ⟨W2, hW2⟩ : ∃ W2, W2 = (W.setCell ⟨w.heap.size, 0, none⟩ (.string t.path)).setCell ⟨w.heap.size, 1, none⟩ (.int .i64 t.minor) := ⟨_, rfl⟩
        rw [← hW2] at a2
        have hk2 : Keeps (fun k => k = w.heap.size) W W2 := by rw [hW2]; exact ((Keeps.refl (fun k => k = w.heap.size) W).setCell (p := ⟨w.heap.size, 0, none⟩) (.inl rfl) _).setCell (p := ⟨w.heap.size, 1, none⟩) (.inl rfl) _
        obtain ⟨W3, hW3⟩ : ∃ W3, W3 = W2.setCell ⟨w.heap.size + 1, 0, none⟩ (.int .i64 0) := ⟨_, rfl⟩
        have c1 := (hk2.block _ (lt_of_block h6) (by omega)).trans h6
        have c2 := heap_setCell c1 (i := 0) (.int .i64 0)
        rw [← hW3] at c2
        have hk3 : Keeps (fun k => k = w.heap.size + 1) W2 W3 := by rw [hW3]; exact (Keeps.refl (fun k => k = w.heap.size + 1) W2).setCell (p := ⟨w.heap.size + 1, 0, none⟩) (.inl rfl) _
        have a3 := (hk3.block _ (lt_of_block a2) (by omega)).trans a2
        have hK2 := (hk2.block _ (lt_of_block' hK) (by omega)).trans hK
        have hK3 := (hk3.block _ (lt_of_block' hK2) (by omega)).trans hK2
        have hlt := lt_of_block' hK3
        have a4 : (W3.putObj w1.heap.size (.deferred none)).heap[w.heap.size]? = _ := (World.putObj_heap_other (by omega)).trans a3
        have c4 : (W3.putObj w1.heap.size (.deferred none)).heap[w.heap.size + 1]? = _ := (World.putObj_heap_other (by omega)).trans c2
        have hbl : Below w.heap.size w (W3.putObj w1.heap.size (.deferred none)) :=
          ((h8'.trans (hk2.below h8'.size (fun k e => by omega))).trans (hk3.below (by have := h8'.size; have := hk2.size; omega) (fun k e => by omega))).grown (grownBy_putObj' _ _ _) (by omega) (fun k e => by cases e; omega)
        have g0 := cell_of h5 0
        have g1 := cell_of h5 1
        have g2 := cell_of h6 0
        have f0 := free_of h5 0
        have f1 := free_of h5 1
        have f2 := free_of h6 0
        have k0 := cell_of a4 0
        have k1 := cell_of a4 1
        have k2 := cell_of c4 0
        have HK3 := Lib.hid hK3
        have HBL := Lib.hid hbl
        have HW2 := Lib.hid hW2
        have HW3 := Lib.hid hW3
        have K0 := Lib.hid k0
        have K1 := Lib.hid k1
        have K2 := Lib.hid k2

        clear a1 a2 hW2 hW3 hk2 hk3 c1 c2 a3 hK2 hK3 a4 c4 hbl k0 k1 k2 h5 h6 hK h7 h8' h4
        gi_wp2
        rw [← HW2.out, ← HW3.out]
        refine ⟨by simp, .inl ⟨_, _, rfl, run_takeDeferred HK3.out, ?_⟩⟩
        refine ⟨.tuple #[.agg #[.string t.path, .int .i64 t.minor], .int .i64 0], ?_, by rw [eP, eI, eE], HBL.out⟩
        have k0 := K0.out
        have k1 := K1.out
        have k2 := K2.out
        simp [results, Tryd.results12, go_sem, k0, k1, k2]
      · have hv1 : decide ((1 : Int) < (t.vers : Int)) = true := decide_eq_true (by omega)
        have hR : readR s = none := by rw [hrr, if_neg (fun h => hv h.2)]
        rw [hR] at hpp hii hee
        have eP : readP s = ⟨#[]⟩ := hpp
        have eI : readI s = 0 := hii
        have eE : readE s = 7 := hee
        clear hrr hR hpp hii hee
        have a1 := heap_setCell h5 (i := 0) (.string ⟨#[]⟩)
        have a2 := heap_setCell a1 (i := 1) (.int .i64 0)
        obtain ⟨W2, hW2⟩ : ∃ W2, W2 = (W.setCell ⟨w.heap.size, 0, none⟩ (.string ⟨#[]⟩)).setCell ⟨w.heap.size, 1, none⟩ (.int .i64 0) := ⟨_, rfl⟩
        rw [← hW2] at a2
        have hk2 : Keeps (fun k => k = w.heap.size) W W2 := by rw [hW2]; exact ((Keeps.refl (fun k => k = w.heap.size) W).setCell (p := ⟨w.heap.size, 0, none⟩) (.inl rfl) _).setCell (p := ⟨w.heap.size, 1, none⟩) (.inl rfl) _
        obtain ⟨W3, hW3⟩ : ∃ W3, W3 = W2.setCell ⟨w.heap.size + 1, 0, none⟩ (.int .i64 7) := ⟨_, rfl⟩
        have c1 := (hk2.block _ (lt_of_block h6) (by omega)).trans h6
        have c2 := heap_setCell c1 (i := 0) (.int .i64 7)
        rw [← hW3] at c2
        have hk3 : Keeps (fun k => k = w.heap.size + 1) W2 W3 := by rw [hW3]; exact (Keeps.refl (fun k => k = w.heap.size + 1) W2).setCell (p := ⟨w.heap.size + 1, 0, none⟩) (.inl rfl) _
        have a3 := (hk3.block _ (lt_of_block a2) (by omega)).trans a2
        have hK2 := (hk2.block _ (lt_of_block' hK) (by omega)).trans hK
        have hK3 := (hk3.block _ (lt_of_block' hK2) (by omega)).trans hK2
        have hlt := lt_of_block' hK3
        have a4 : (W3.putObj w1.heap.size (.deferred none)).heap[w.heap.size]? = _ := (World.putObj_heap_other (by omega)).trans a3
        have c4 : (W3.putObj w1.heap.size (.deferred none)).heap[w.heap.size + 1]? = _ := (World.putObj_heap_other (by omega)).trans c2
        have hbl : Below w.heap.size w (W3.putObj w1.heap.size (.deferred none)) :=
          ((h8'.trans (hk2.below h8'.size (fun k e => by omega))).trans (hk3.below (by have := h8'.size; have := hk2.size; omega) (fun k e => by omega))).grown (grownBy_putObj' _ _ _) (by omega) (fun k e => by cases e; omega)
        have g0 := cell_of h5 0
        have g1 := cell_of h5 1
        have g2 := cell_of h6 0
        have f0 := free_of h5 0
        have f1 := free_of h5 1
        have f2 := free_of h6 0
        have k0 := cell_of a4 0
        have k1 := cell_of a4 1
        have k2 := cell_of c4 0
        have HK3 := Lib.hid hK3
        have HBL := Lib.hid hbl
        have HW2 := Lib.hid hW2
        have HW3 := Lib.hid hW3
        have K0 := Lib.hid k0
        have K1 := Lib.hid k1
        have K2 := Lib.hid k2

        clear a1 a2 hW2 hW3 hk2 hk3 c1 c2 a3 hK2 hK3 a4 c4 hbl k0 k1 k2 h5 h6 hK h7 h8' h4
        gi_wp2
        rw [← HW2.out, ← HW3.out]
        refine ⟨by simp, .inl ⟨_, _, rfl, run_takeDeferred HK3.out, ?_⟩⟩
        refine ⟨.tuple #[.agg #[.string ⟨#[]⟩, .int .i64 0], .int .i64 7], ?_, by rw [eP, eI, eE], HBL.out⟩
        have k0 := K0.out
        have k1 := K1.out
        have k2 := K2.out
        simp [results, Tryd.results12, go_sem, k0, k1, k2]
    · have hm1 : ((t.mods : Int) != 1) = true := by simp; omega
      have hR : readR s = none := by rw [hrr, if_neg (fun h => hm h.1)]
      rw [hR] at hpp hii hee
      have eP : readP s = ⟨#[]⟩ := hpp
      have eI : readI s = 0 := hii
      have eE : readE s = 7 := hee
      clear hrr hR hpp hii hee
      have a1 := heap_setCell h5 (i := 0) (.string ⟨#[]⟩)
      have a2 := heap_setCell a1 (i := 1) (.int .i64 0)
      obtain ⟨W2, hW2⟩ : ∃ W2, W2 = (W.setCell ⟨w.heap.size, 0, none⟩ (.string ⟨#[]⟩)).setCell ⟨w.heap.size, 1, none⟩ (.int .i64 0) := ⟨_, rfl⟩
      rw [← hW2] at a2
      have hk2 : Keeps (fun k => k = w.heap.size) W W2 := by rw [hW2]; exact ((Keeps.refl (fun k => k = w.heap.size) W).setCell (p := ⟨w.heap.size, 0, none⟩) (.inl rfl) _).setCell (p := ⟨w.heap.size, 1, none⟩) (.inl rfl) _
      obtain ⟨W3, hW3⟩ : ∃ W3, W3 = W2.setCell ⟨w.heap.size + 1, 0, none⟩ (.int .i64 7) := ⟨_, rfl⟩
      have c1 := (hk2.block _ (lt_of_block h6) (by omega)).trans h6
      have c2 := heap_setCell c1 (i := 0) (.int .i64 7)
      rw [← hW3] at c2
      have hk3 : Keeps (fun k => k = w.heap.size + 1) W2 W3 := by rw [hW3]; exact (Keeps.refl (fun k => k = w.heap.size + 1) W2).setCell (p := ⟨w.heap.size + 1, 0, none⟩) (.inl rfl) _
      have a3 := (hk3.block _ (lt_of_block a2) (by omega)).trans a2
      have hK2 := (hk2.block _ (lt_of_block' hK) (by omega)).trans hK
      have hK3 := (hk3.block _ (lt_of_block' hK2) (by omega)).trans hK2
      have hlt := lt_of_block' hK3
      have a4 : (W3.putObj w1.heap.size (.deferred none)).heap[w.heap.size]? = _ := (World.putObj_heap_other (by omega)).trans a3
      have c4 : (W3.putObj w1.heap.size (.deferred none)).heap[w.heap.size + 1]? = _ := (World.putObj_heap_other (by omega)).trans c2
      have hbl : Below w.heap.size w (W3.putObj w1.heap.size (.deferred none)) :=
        ((h8'.trans (hk2.below h8'.size (fun k e => by omega))).trans (hk3.below (by have := h8'.size; have := hk2.size; omega) (fun k e => by omega))).grown (grownBy_putObj' _ _ _) (by omega) (fun k e => by cases e; omega)
      have g0 := cell_of h5 0
      have g1 := cell_of h5 1
      have g2 := cell_of h6 0
      have f0 := free_of h5 0
      have f1 := free_of h5 1
      have f2 := free_of h6 0
      have k0 := cell_of a4 0
      have k1 := cell_of a4 1
      have k2 := cell_of c4 0
      have HK3 := Lib.hid hK3
      have HBL := Lib.hid hbl
      have HW2 := Lib.hid hW2
      have HW3 := Lib.hid hW3
      have K0 := Lib.hid k0
      have K1 := Lib.hid k1
      have K2 := Lib.hid k2

      clear a1 a2 hW2 hW3 hk2 hk3 c1 c2 a3 hK2 hK3 a4 c4 hbl k0 k1 k2 h5 h6 hK h7 h8' h4
      gi_wp2
      rw [← HW2.out, ← HW3.out]
      refine ⟨by simp, .inl ⟨_, _, rfl, run_takeDeferred HK3.out, ?_⟩⟩
      refine ⟨.tuple #[.agg #[.string ⟨#[]⟩, .int .i64 0], .int .i64 7], ?_, by rw [eP, eI, eE], HBL.out⟩
      have k0 := K0.out
      have k1 := K1.out
      have k2 := K2.out
      simp [results, Tryd.results12, go_sem, k0, k1, k2]
  case stop =>
    rintro pre W ⟨h1, h2, h3, h4⟩ hK
    rw [h1] at hrr
    have hR : readR s = none := hrr
    rw [hR] at hpp hii hee
    have eP : readP s = ⟨#[]⟩ := hpp
    have eI : readI s = 0 := hii
    have eE : readE s = 7 := hee
    have hlt := lt_of_block' hK
    have hb2 : Below w.heap.size w (W.putObj w1.heap.size (.deferred none)) := h4.grown (grownBy_putObj' _ _ _) h4.size (fun k e => by cases e; omega)
    have a4 : (W.putObj w1.heap.size (.deferred none)).heap[w.heap.size]? = _ := (World.putObj_heap_other (by omega)).trans h2
    have c4 : (W.putObj w1.heap.size (.deferred none)).heap[w.heap.size + 1]? = _ := (World.putObj_heap_other (by omega)).trans h3
    have k0 := cell_of a4 0
    have k1 := cell_of a4 1
    have k2 := cell_of c4 0
    clear hsz
    gi_wp2
    refine ⟨by simp, .inl ⟨_, _, rfl, run_takeDeferred hK, ?_⟩⟩
    refine ⟨.tuple #[.agg #[.string ⟨#[]⟩, .int .i64 0], .int .i64 7], ?_, by first | rfl | rw [eP, eI, eE], hb2⟩
    simp [results, Tryd.results12, go_sem, k0, k1, k2]
end Go.Proofs.YtlgolagedgllbaaDoor
