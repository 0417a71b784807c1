import Derived.Test.YtlgolagedgllbaaDoorVrE
namespace Go.Proofs.YtlgolagedgllbaaDoor
open Go.RowKit Go.Shelf
set_option linter.unusedSimpArgs false
set_option linter.unusedVariables false
set_option linter.unusedSectionVars false

/-! Layer 4: what is done with what a line says. -/
/-- What a go.mod said so far. -/
structure St where
  path : ByteArray
  minor : Int
  mods : Nat
  vers : Nat
def Fil (w : World) (F : Nat) (t : St) : Prop := w.heap[F]? = some (.cells #[.string t.path, .int .i64 t.minor, .int .i64 t.mods, .int .i64 t.vers] 53 (0, 0))
theorem Fil.c {w : World} {F : Nat} {t : St} (h : Fil w F t) : w.cell? ⟨F, 0, none⟩ = some (.string t.path) ∧ w.cell? ⟨F, 1, none⟩ = some (.int .i64 t.minor) ∧ w.cell? ⟨F, 2, none⟩ = some (.int .i64 t.mods) ∧ w.cell? ⟨F, 3, none⟩ = some (.int .i64 t.vers) :=
  ⟨cell_of h 0, cell_of h 1, cell_of h 2, cell_of h 3⟩
theorem Fil.f {w : World} {F : Nat} {t : St} (h : Fil w F t) (i : Nat) : w.frozen? ⟨F, i, none⟩ = false := free_of h i
theorem Fil.keep {S : Nat → Prop} {w w' : World} {F : Nat} {t : St} (h : Fil w F t) (hk : Keeps S w w') (hb : ¬ S F) : Fil w' F t := (hk.block F (lt_of_block h) hb).trans h

set_option maxRecDepth 100000 in
set_option maxHeartbeats 1600000 in
theorem rule1_v (B F : Nat) (t : St) (x : ByteArray) (w : World) (hB : w.cell? ⟨B, 0, none⟩ = some (.pointer (some ⟨F, 0, none⟩))) (hF : Fil w F t) (hm : t.mods ≤ 1000000) (hx : x.size ≤ 1000000) (hBF : B ≠ F) :
    Calls Tryd.prog 52 #[.string x, .pointer (some ⟨B, 0, none⟩)] w fun e w' => e = .returned (.bool (pathF x)) ∧ Keeps (fun k => k = F) w w' ∧ Fil w' F { t with path := x, mods := t.mods + 1 } := by
  obtain ⟨c0, c1, c2, c3⟩ := hF.c
  have f0 := hF.f 0
  have f2 := hF.f 2
  have HF := Lib.hid hF
  have hp := fun w => path_v x w (by omega)
  go_enter Tryd.func52, Tryd.ntmps52
  go_wp2_with fail
  have h1 := heap_setCell HF.out (i := 2) (.int .i64 ((t.mods : Int) + 1))
  have h2 := heap_setCell h1 (i := 0) (.string x)
  have HF2 : Hid (Fil ((w.setCell ⟨F, 2, none⟩ (.int .i64 ((t.mods : Int) + 1))).setCell ⟨F, 0, none⟩ (.string x)) F { t with path := x, mods := t.mods + 1 }) := Lib.hid (by simpa [Fil] using h2)
  have HK : Hid (Keeps (fun k => k = F) w ((w.setCell ⟨F, 2, none⟩ (.int .i64 ((t.mods : Int) + 1))).setCell ⟨F, 0, none⟩ (.string x))) := Lib.hid (((Keeps.refl (fun k => k = F) w).setCell (p := ⟨F, 2, none⟩) (.inl rfl) _).setCell (p := ⟨F, 0, none⟩) (.inl rfl) _)
  generalize (w.setCell ⟨F, 2, none⟩ (.int .i64 ((t.mods : Int) + 1))).setCell ⟨F, 0, none⟩ (.string x) = w2 at *
  clear h1 h2 c0 c1 c2 c3 f0 f2
  go_wp2_with (go_at_call 7; with_reducible refine Calls.mono (hp _) ?_; rintro e w3 ⟨rfl, hb3⟩)
  go_ret
  exact ⟨rfl, HK.out.trans (Keeps.of_below hb3 _), HF2.out.keep (Keeps.of_below hb3 (fun _ => False)) (fun h => h)⟩
set_option maxRecDepth 100000 in
set_option maxHeartbeats 1600000 in
theorem rule2_v (B F : Nat) (t : St) (x : ByteArray) (w : World) (hE : EnvV w) (hB : w.cell? ⟨B, 0, none⟩ = some (.pointer (some ⟨F, 0, none⟩))) (hF : Fil w F t) (hm : t.vers ≤ 1000000) (hx : x.size ≤ 1000000) (hBF : B ≠ F) :
    Calls Tryd.prog 53 #[.string x, .pointer (some ⟨B, 0, none⟩)] w fun e w' => e = .returned (.bool (minorE x == 0)) ∧ Keeps (fun k => k = F) w w' ∧ Fil w' F { t with minor := minorI x, vers := t.vers + 1 } := by
  have hBl := World.block_lt_of_cell? _ _ hB
  have hm2 := minor_v x w hx hE
  generalize minorI x = mi at hm2 ⊢
  generalize minorE x = me at hm2 ⊢
  have HF := Lib.hid hF
  clear hE
  go_enter Tryd.func53, Tryd.ntmps53
  go_wp2_with fail
  go_at_call 5
  with_reducible refine Calls.mono hm2 ?_
  rintro e w2 ⟨rfl, hb2⟩
  have hF2 : Fil w2 F t := HF.out.keep (Keeps.of_below hb2 (fun _ => False)) (fun h => h)
  have hB2 : w2.cell? ⟨B, 0, none⟩ = some (.pointer (some ⟨F, 0, none⟩)) := (hb2.cell (p := ⟨B, 0, none⟩) hBl).trans hB
  obtain ⟨c0, c1, c2, c3⟩ := hF2.c
  have f1 := hF2.f 1
  have f3 := hF2.f 3
  have HF2 := Lib.hid hF2
  have HB2 := Lib.hid hb2
  clear hm2 hb2 hF2 hB hF
  go_wp2_with fail
  go_ret
  have h1 := heap_setCell HF2.out (i := 3) (.int .i64 ((t.vers : Int) + 1))
  have h2 := heap_setCell h1 (i := 1) (.int .i64 mi)
  exact ⟨rfl, (Keeps.of_below HB2.out (fun k => k = F)).trans (((Keeps.refl (fun k => k = F) w2).setCell (p := ⟨F, 3, none⟩) (.inl rfl) _).setCell (p := ⟨F, 1, none⟩) (.inl rfl) _), by simpa [Fil] using h2⟩
theorem rule3_v (x : ByteArray) (w : World) :
    Calls Tryd.prog 54 #[.string x] w fun e w' => e = .returned (.bool true) ∧ w' = w := by
  go_enter Tryd.func54, Tryd.ntmps54
  go_wp2_with fail
  go_ret
  exact ⟨rfl, rfl⟩

def modL : List UInt8 := [109, 111, 100, 117, 108, 101]
def goL : List UInt8 := [103, 111]
def toolL : List UInt8 := [116, 111, 111, 108, 99, 104, 97, 105, 110]
theorem ofLV {s : ByteArray} {l : List UInt8} (h : s.toList = l) : s = ⟨l.toArray⟩ := by
  apply ByteArray.ext
  rw [Lib.toList_data] at h
  apply Array.toList_inj.1
  rw [h]
theorem rule_mod (F : Nat) (w : World) : Calls Tryd.prog 39 #[.pointer (some ⟨F, 0, none⟩), .string ⟨#[109, 111, 100, 117, 108, 101]⟩] w fun e w' => e = .returned (.func (.func 52) #[] #[.pointer (some ⟨w.heap.size, 0, none⟩)]) ∧ w' = w.alloc (.cells #[.pointer (some ⟨F, 0, none⟩)] 67) := by
  have hmf : ∀ (fn : Fn) (first cap : Array Value) (w : World), (Instr.makeFunc fn first cap).run Tryd.prog w = .ok (.func fn first cap) w := fun _ _ _ _ => rfl
  go_enter Tryd.func39, Tryd.ntmps39
  go_wp2_with fail
  go_ret
  exact ⟨rfl, rfl⟩
theorem rule_go (F : Nat) (w : World) : Calls Tryd.prog 39 #[.pointer (some ⟨F, 0, none⟩), .string ⟨#[103, 111]⟩] w fun e w' => e = .returned (.func (.func 53) #[] #[.pointer (some ⟨w.heap.size, 0, none⟩)]) ∧ w' = w.alloc (.cells #[.pointer (some ⟨F, 0, none⟩)] 67) := by
  have hmf : ∀ (fn : Fn) (first cap : Array Value) (w : World), (Instr.makeFunc fn first cap).run Tryd.prog w = .ok (.func fn first cap) w := fun _ _ _ _ => rfl
  go_enter Tryd.func39, Tryd.ntmps39
  go_wp2_with fail
  go_ret
  exact ⟨rfl, rfl⟩
theorem rule_tool (F : Nat) (w : World) : Calls Tryd.prog 39 #[.pointer (some ⟨F, 0, none⟩), .string ⟨#[116, 111, 111, 108, 99, 104, 97, 105, 110]⟩] w fun e w' => e = .returned (.func (.func 54) #[] #[]) ∧ w' = w.alloc (.cells #[.pointer (some ⟨F, 0, none⟩)] 67) := by
  have hmf : ∀ (fn : Fn) (first cap : Array Value) (w : World), (Instr.makeFunc fn first cap).run Tryd.prog w = .ok (.func fn first cap) w := fun _ _ _ _ => rfl
  go_enter Tryd.func39, Tryd.ntmps39
  go_wp2_with fail
  go_ret
  exact ⟨rfl, rfl⟩
theorem rule_no (F : Nat) (k : ByteArray) (h1 : ¬ k.toList = modL) (h2 : ¬ k.toList = goL) (h3 : ¬ k.toList = toolL) (w : World) : Calls Tryd.prog 39 #[.pointer (some ⟨F, 0, none⟩), .string k] w fun e w' => e = .returned .nilFunc ∧ w' = w.alloc (.cells #[.pointer (some ⟨F, 0, none⟩)] 67) := by
  have e1 : (k.toList == [109, 111, 100, 117, 108, 101]) = false := by simpa [modL] using h1
  have e2 : (k.toList == [103, 111]) = false := by simpa [goL] using h2
  have e3 : (k.toList == [116, 111, 111, 108, 99, 104, 97, 105, 110]) = false := by simpa [toolL] using h3
  clear h1 h2 h3
  go_enter Tryd.func39, Tryd.ntmps39
  go_wp2_with fail
  go_ret
  exact ⟨rfl, rfl⟩
/-- What a line says, and what is said then. -/
def stepL (t : St) (ws : List ByteArray) : Bool × St :=
  match ws with
  | [k, x] => if k.toList = modL then (pathF x, { t with path := x, mods := t.mods + 1 }) else if k.toList = goL then (minorE x == 0, { t with minor := minorI x, vers := t.vers + 1 }) else if k.toList = toolL then (true, t) else (false, t)
  | _ => (false, t)
theorem stepL_not2 (t : St) (ws : List ByteArray) (h : ws.length ≠ 2) : stepL t ws = (false, t) := by
  match ws, h with
  | [], _ => rfl
  | [_], _ => rfl
  | [_, _], h => exact absurd rfl h
  | _ :: _ :: _ :: _, _ => rfl
theorem fn_not_nil (fn : Fn) (b : Array Value) (w : World) : (binOp .neq 27 (.func fn #[] b) .nilFunc).run Tryd.prog w = .ok (.bool true) w := by
  first | kernel_rfl | (simp [binOp, go_sem]; done) | (cases fn <;> kernel_rfl)
theorem nil_nil (w : World) : (binOp .neq 27 .nilFunc .nilFunc).run Tryd.prog w = .ok (.bool false) w := by
  first | kernel_rfl | (simp [binOp, go_sem]; done) | (cases fn <;> kernel_rfl)
set_option maxRecDepth 100000 in
set_option maxHeartbeats 3200000 in
theorem line_v (F A : Nat) (t : St) (ws : List ByteArray) (w : World) (hE : EnvV w) (hF : Fil w F t) (hm : t.mods ≤ 1000000) (hv : t.vers ≤ 1000000) (hws : ∀ x ∈ ws, x.size ≤ 1000000) (h0 : ws ≠ []) (hlen : ws.length ≤ 9223372036854775807)
    (hA : A < w.heap.size) (hc : ∀ j (h : j < ws.length), w.cell? ⟨A, j, none⟩ = some (.string ws[j])) :
    Calls Tryd.prog 26 #[.pointer (some ⟨F, 0, none⟩), .slice (some ⟨A, 0, none⟩) ws.length ws.length] w fun e w' => e = .returned (.bool (stepL t ws).1) ∧ Keeps (fun k => k = F) w w' ∧ Fil w' F (stepL t ws).2 := by
  have hFl := lt_of_block hF
  have hfn := fn_not_nil
  have hnn := nil_nil
  obtain ⟨k, rest, rfl⟩ : ∃ k rest, ws = k :: rest := by
    cases ws with
    | nil => exact absurd rfl h0
    | cons k rest => exact ⟨k, rest, rfl⟩
  have c0 : w.cell? ⟨A, 0, none⟩ = some (.string k) := hc 0 (by simp)
  have hal := fun v ty => (Keeps.refl (fun k => k = F) w).alloc (.cells v ty)
  obtain ⟨w1, hw1⟩ : ∃ w1, w1 = w.alloc (.cells #[.pointer (some ⟨F, 0, none⟩)] 67) := ⟨_, rfl⟩
  have hk1 : Keeps (fun _ => False) w w1 := by rw [hw1]; exact (Keeps.refl _ _).alloc _
  have HF1 : Hid (Fil w1 F t) := Lib.hid (hF.keep hk1 (fun h => h))
  have HK1 : Hid (Keeps (fun k => k = F) w w1) := Lib.hid (hk1.mono (fun k _ h => h.elim))
  have hB1 : w1.cell? ⟨w.heap.size, 0, none⟩ = some (.pointer (some ⟨F, 0, none⟩)) := by rw [hw1]; exact cell_of (alloc_at rfl _) 0
  have HE1 : Hid (EnvV w1) := Lib.hid (hE.keeps hk1 (fun k h => h.elim))
  by_cases h2 : rest.length = 1
  · obtain ⟨x, rfl⟩ : ∃ x, rest = [x] := List.length_eq_one_iff.1 h2
    have c1 : w1.cell? ⟨A, 1, none⟩ = some (.string x) := by
      refine Eq.trans ?_ (hc 1 (by simp))
      unfold World.cell?
      rw [hk1.block A hA (fun h => h)]
    have hxl := hws x (by simp)
    have hst : stepL t [k, x] = if k.toList = modL then (pathF x, { t with path := x, mods := t.mods + 1 }) else if k.toList = goL then (minorE x == 0, { t with minor := minorI x, vers := t.vers + 1 }) else if k.toList = toolL then (true, t) else (false, t) := rfl
    simp only [List.length_cons, List.length_nil, Nat.zero_add, Nat.reduceAdd]
    clear hc hws h0 hlen hk1 hal hE
    by_cases n0 : k.toList = modL
    · rw [hst, if_pos n0]
      obtain rfl : k = ⟨#[109, 111, 100, 117, 108, 101]⟩ := ofLV n0
      have hru := rule1_v w.heap.size F t x w1 hB1 HF1.out hm hxl (by omega)
      have hr := rule_mod F w
      rw [← hw1] at hr
      
      
      generalize pathF x = pb at hru ⊢
      clear hst hB1 hF n0 hw1
      go_enter Tryd.func26, Tryd.ntmps26
      go_wp2_with (first
        | (go_at_call 39; with_reducible refine Calls.mono hr ?_; rintro e w2 ⟨rfl, hw2⟩; replace hw2 := hw2.symm; subst hw2)
        | (go_at_call 52; with_reducible refine Calls.mono hru ?_; rintro e w3 ⟨rfl, hk3, hf3⟩; have HK3 := Lib.hid hk3; have HF3 := Lib.hid hf3; clear hk3 hf3))
      go_ret
      exact ⟨rfl, HK1.out.trans HK3.out, HF3.out⟩
    by_cases n1 : k.toList = goL
    · rw [hst, if_neg n0, if_pos n1]
      obtain rfl : k = ⟨#[103, 111]⟩ := ofLV n1
      have hru := rule2_v w.heap.size F t x w1 HE1.out hB1 HF1.out hv hxl (by omega)
      have hr := rule_go F w
      rw [← hw1] at hr
      generalize minorI x = mi at hru ⊢
      generalize minorE x = me at hru ⊢
      
      clear hst hB1 hF n1 hw1
      go_enter Tryd.func26, Tryd.ntmps26
      go_wp2_with (first
        | (go_at_call 39; with_reducible refine Calls.mono hr ?_; rintro e w2 ⟨rfl, hw2⟩; replace hw2 := hw2.symm; subst hw2)
        | (go_at_call 53; with_reducible refine Calls.mono hru ?_; rintro e w3 ⟨rfl, hk3, hf3⟩; have HK3 := Lib.hid hk3; have HF3 := Lib.hid hf3; clear hk3 hf3))
      go_ret
      exact ⟨rfl, HK1.out.trans HK3.out, HF3.out⟩
    by_cases n2 : k.toList = toolL
    · rw [hst, if_neg n0, if_neg n1, if_pos n2]
      obtain rfl : k = ⟨#[116, 111, 111, 108, 99, 104, 97, 105, 110]⟩ := ofLV n2
      have hru := rule3_v x w1
      have hr := rule_tool F w
      rw [← hw1] at hr
      
      
      
      clear hst hB1 hF n2 hw1
      go_enter Tryd.func26, Tryd.ntmps26
      go_wp2_with (first
        | (go_at_call 39; with_reducible refine Calls.mono hr ?_; rintro e w2 ⟨rfl, hw2⟩; replace hw2 := hw2.symm; subst hw2)
        | (go_at_call 54; with_reducible refine Calls.mono hru ?_; rintro e w3 ⟨rfl, hw3⟩; replace hw3 := hw3.symm; subst hw3))
      go_ret
      exact ⟨rfl, HK1.out, HF1.out⟩
    · rw [hst, if_neg n0, if_neg n1, if_neg n2]
      have hr := rule_no F k n0 n1 n2 w
      rw [← hw1] at hr
      clear hst hB1 hF n0 n1 n2 hw1
      go_enter Tryd.func26, Tryd.ntmps26
      go_wp2_with (go_at_call 39; with_reducible refine Calls.mono hr ?_; rintro e w2 ⟨rfl, hw2⟩; replace hw2 := hw2.symm; subst hw2)
      go_ret
      exact ⟨rfl, HK1.out, HF1.out⟩
  · rw [stepL_not2 t (k :: rest) (by simp; omega)]
    obtain ⟨m, hm2⟩ : ∃ m, (k :: rest).length = m := ⟨_, rfl⟩
    have hmm : ((m : Int) == 2) = false := by simp at hm2; simp; omega
    have hm0 : 0 < m := by simp at hm2; omega
    have hm0I : (0 : Int) < m := by omega
    rw [hm2]
    rw [hm2] at hlen
    clear hc hws h0 hk1 hal hE h2 hm2
    by_cases n0 : k.toList = modL
    · obtain rfl : k = ⟨#[109, 111, 100, 117, 108, 101]⟩ := ofLV n0
      have hr := rule_mod F w
      rw [← hw1] at hr
      clear hB1 hF n0 hw1
      go_enter Tryd.func26, Tryd.ntmps26
      go_wp2_with (go_at_call 39; with_reducible refine Calls.mono hr ?_; rintro e w2 ⟨rfl, hw2⟩; replace hw2 := hw2.symm; subst hw2)
      go_ret
      exact ⟨rfl, HK1.out, HF1.out⟩
    by_cases n1 : k.toList = goL
    · obtain rfl : k = ⟨#[103, 111]⟩ := ofLV n1
      have hr := rule_go F w
      rw [← hw1] at hr
      clear hB1 hF n1 hw1
      go_enter Tryd.func26, Tryd.ntmps26
      go_wp2_with (go_at_call 39; with_reducible refine Calls.mono hr ?_; rintro e w2 ⟨rfl, hw2⟩; replace hw2 := hw2.symm; subst hw2)
      go_ret
      exact ⟨rfl, HK1.out, HF1.out⟩
    by_cases n2 : k.toList = toolL
    · obtain rfl : k = ⟨#[116, 111, 111, 108, 99, 104, 97, 105, 110]⟩ := ofLV n2
      have hr := rule_tool F w
      rw [← hw1] at hr
      clear hB1 hF n2 hw1
      go_enter Tryd.func26, Tryd.ntmps26
      go_wp2_with (go_at_call 39; with_reducible refine Calls.mono hr ?_; rintro e w2 ⟨rfl, hw2⟩; replace hw2 := hw2.symm; subst hw2)
      go_ret
      exact ⟨rfl, HK1.out, HF1.out⟩
    have hr := rule_no F k n0 n1 n2 w
    rw [← hw1] at hr
    clear hB1 hF n0 n1 n2 hw1
    go_enter Tryd.func26, Tryd.ntmps26
    go_wp2_with (go_at_call 39; with_reducible refine Calls.mono hr ?_; rintro e w2 ⟨rfl, hw2⟩; replace hw2 := hw2.symm; subst hw2)
    go_ret
    exact ⟨rfl, HK1.out, HF1.out⟩
end Go.Proofs.YtlgolagedgllbaaDoor
