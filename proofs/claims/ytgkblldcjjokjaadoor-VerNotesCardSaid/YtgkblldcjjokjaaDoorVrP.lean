import Derived.Test.YtgkblldcjjokjaaDoorVrO
namespace Go.Proofs.YtgkblldcjjokjaaDoor
open Go.RowKit Go.Shelf
set_option linter.unusedSimpArgs false
set_option linter.unusedVariables false
set_option linter.unusedSectionVars false

/-! VerNotes. -/
theorem told_note (l : List UInt8) (t : St) (h : l.all (fun x => x != 10) = true) : toldV (47 :: 47 :: l) t = some t := by
  have hw : wordsL (47 :: 47 :: l) = [] := by
    have hi : Lib.index (47 :: 47 :: l) [47, 47] = 0 := by rw [Lib.index]; simp [List.isPrefixOf]
    have hc : cut1 (47 :: 47 :: l) [47, 47] = ⟨#[]⟩ := by
      unfold cut1 Lib.cut
      rw [hi, if_pos (by decide)]
      rfl
    show Lib.goFieldsP blankP (cut1 (47 :: 47 :: l) [47, 47]) = []
    rw [hc]
    rfl
  rw [told_one _ t (by rw [List.all_cons, List.all_cons, h]; rfl), hw]
  rfl
theorem told_empty (t : St) : toldV [] t = some t := by
  have hw : wordsL [] = [] := by decide +kernel
  rw [told_one _ t rfl, hw]
  rfl
theorem told_blank (t : St) : toldV [32, 9, 13] t = some t := by
  have hw : wordsL [32, 9, 13] = [] := by decide +kernel
  rw [told_one _ t (by decide), hw]
  rfl
theorem notes_told (b l : List UInt8) (t : St) (h : l.all (fun x => x != 10) = true) :
    toldV ((47 :: 47 :: 32 :: l) ++ 10 :: ([] ++ 10 :: ([32, 9, 13] ++ 10 :: (b ++ 10 :: (47 :: 47 :: l))))) t = toldV b t := by
  rw [told_app, told_note (32 :: l) t (by rw [List.all_cons, h]; rfl)]
  show toldV ([] ++ 10 :: ([32, 9, 13] ++ 10 :: (b ++ 10 :: (47 :: 47 :: l)))) t = _
  rw [told_app, told_empty]
  show toldV ([32, 9, 13] ++ 10 :: (b ++ 10 :: (47 :: 47 :: l))) t = _
  rw [told_app, told_blank]
  show toldV (b ++ 10 :: (47 :: 47 :: l)) t = _
  rw [told_app]
  cases toldV b t with
  | none => rfl
  | some u => exact told_note l u h
def notesS (s d : ByteArray) : ByteArray := (⟨#[47, 47, 32]⟩ : ByteArray) ++ d ++ ⟨#[10, 10, 32, 9, 13, 10]⟩ ++ s ++ ⟨#[10, 47, 47]⟩ ++ d
theorem notes_read (s d : ByteArray) (hs : s.size ≤ 500) (hd : d.size ≤ 50) (h : ∀ j, j < d.size → byteN d j ≠ 10) :
    (notesS s d).size ≤ 1000 ∧ readP (notesS s d) = readP s ∧ readI (notesS s d) = readI s ∧ readE (notesS s d) = readE s := by
  have hz : (notesS s d).size ≤ 1000 := by
    unfold notesS
    rw [ByteArray.size_append, ByteArray.size_append, ByteArray.size_append, ByteArray.size_append, ByteArray.size_append]
    have h1 : (⟨#[47, 47, 32]⟩ : ByteArray).size = 3 := rfl
    have h2 : (⟨#[10, 10, 32, 9, 13, 10]⟩ : ByteArray).size = 6 := rfl
    have h3 : (⟨#[10, 47, 47]⟩ : ByteArray).size = 3 := rfl
    omega
  refine ⟨hz, read_same _ s (by omega) (by omega) ?_⟩
  have ha : d.data.toList.all (fun x => x != 10) = true := by
    rw [List.all_eq_true]
    intro x hx
    obtain ⟨j, hj, rfl⟩ := List.getElem_of_mem hx
    have hj' : j < d.size := by rw [Array.length_toList] at hj; exact hj
    have := h j hj'
    simp only [bne_iff_ne, ne_eq]
    intro e
    apply this
    simp only [byteN, List.getD_eq_getElem?_getD, List.getElem?_eq_getElem hj, Option.getD_some, e]
    rfl
  have e := notes_told s.data.toList d.data.toList startS ha
  unfold notesS
  rw [app_list, app_list, app_list, app_list, app_list]
  rw [← e]
  simp
theorem str_byte (s : ByteArray) (i : Nat) (h : i < s.size) : s[i].toNat = byteN s i := by
  unfold byteN
  rw [List.getD_eq_getElem?_getD, List.getElem?_eq_getElem (by simpa using h)]
  rfl
set_option maxRecDepth 100000 in
set_option maxHeartbeats 6400000 in
theorem notes_walk (p : Option Addr) (cap : Nat) (s d : ByteArray) (w : World) (hb : BSl w p s) (hE : EnvV w) :
    Calls Tryd.prog 6 #[.slice p s.size cap, .string d] w fun e w' => e = .returned (.bool true) ∧ Below w.heap.size w w' := by
  have h8 := hE.2.2.2
  by_cases hl : 500 < s.size
  · have hd : decide (500 < (s.size : Int)) = true := by simp; omega
    go_enter Tryd.func6, Tryd.ntmps6
    go_wp2_with fail
    go_ret
    exact ⟨rfl, Below.refl _ _⟩
  have hd : decide (500 < (s.size : Int)) = false := by simp; omega
  by_cases hl2 : 50 < d.size
  · have hd2 : decide (50 < (d.size : Int)) = true := by simp; omega
    go_enter Tryd.func6, Tryd.ntmps6
    go_wp2_with fail
    go_ret
    exact ⟨rfl, Below.refl _ _⟩
  have hd2 : decide (50 < (d.size : Int)) = false := by simp; omega
  have HR := Lib.hid (fun (h : ∀ j, j < d.size → byteN d j ≠ 10) => notes_read s d (by omega) (by omega) h)
  have HR1 := Lib.hid (fun w1 (hb1 : Below w.heap.size w w1) => read_v p cap s w1 (hb.below hb1) (hE.below hb1 h8) (by omega))
  have HRR := Lib.hid (fun q c w1 u (hu : u = notesS s d) (hz : u.size ≤ 1000) (hb1 : Below w.heap.size w w1) (hbq : BSl w1 q u) => read_v q c u w1 hbq (hE.below hb1 h8) (by omega))
  have HW := Lib.hid (fun w1 (hb : Below w.heap.size w w1) => awake_v w1 (hE.below hb h8))
  have HB0 : Hid (BSl w p s) := Lib.hid hb
  clear hb hE
  go_enter Tryd.func6, Tryd.ntmps6
  go_wp2_with fail
  go_loopw [5] (fun iv wr => ∃ k : Nat, iv = .int .i64 k ∧ k ≤ d.size ∧ (∀ j, j < k → byteN d j ≠ 10) ∧ wr = w) (fun iv _ => d.size - (intOf iv).toNat)
  case atStart => exact ⟨0, rfl, by omega, by omega, rfl⟩
  case round =>
    obtain ⟨k, rfl, hk, hn, rfl⟩ := hrel
    have HN := Lib.hid hn
    clear hn
    by_cases hlt : k < d.size
    · have hb := str_byte d k hlt
      by_cases h10 : byteN d k = 10
      · rw [h10] at hb
        clear h10
        go_wp2_with fail
        go_ret
        exact ⟨rfl, Below.refl _ _⟩
      · have HN2 : Hid (∀ j, j < k + 1 → byteN d j ≠ 10) := Lib.hid (by
          intro j hj
          by_cases hjk : j = k
          · subst hjk; exact h10
          · exact HN.out j (by omega))
        generalize byteN d k = c at *
        have hci : ¬ (c : Int) = 10 := by omega
        have hcd : decide ((c : Int) = 10) = false := decide_eq_false hci
        go_wp2_with fail
        go_roundw
        case rel => exact ⟨k + 1, by go_num, by omega, HN2.out, by first | rfl | trivial⟩
        case measure => simp [intOf]; omega
    · obtain ⟨hz, c1, c2, c3⟩ := HR.out (fun j hj => HN.out j (by omega))
      have hR1 := HR1.out wr (Below.refl _ _)
      have HR2 : Hid (∀ q c w1 u, u = notesS s d → Below wr.heap.size wr w1 → BSl w1 q u → Calls Tryd.prog 17 #[.slice q u.size c] w1 fun e w' => e = .returned (.tuple #[.agg #[.string (readP s), .int .i64 (readI s)], .int .i64 (readE s)]) ∧ Below w1.heap.size w1 w') := Lib.hid fun q c w1 u hu hb1 hbq => by
        have h := HRR.out q c w1 u hu (by rw [hu]; exact hz) hb1 hbq
        rw [hu, c1, c2, c3] at h
        rw [hu]
        exact h
      clear c1 c2 c3 hz HR HR1 HRR HN
      generalize readP s = rp at *
      generalize readI s = ri at *
      generalize readE s = re at *
      go_wp2_with (go_at_call 17; with_reducible refine Calls.mono hR1 ?_; rintro e w2 ⟨rfl, hb2⟩; have HB2 := Lib.hid hb2; clear hb2)
      obtain ⟨wA, hwA⟩ : ∃ wA, wA = w2.alloc (Obj.cells #[Value.string rp, Value.int IntKind.i64 ri] 33) := ⟨_, rfl⟩
      have hBA : Below wr.heap.size wr wA := by rw [hwA]; exact HB2.out.alloc HB2.out.size _
      have hzA : wA.heap.size = w2.heap.size + 1 := by rw [hwA]; simp
      have hM1A : wA.heap[w2.heap.size]? = some (.cells #[.string rp, .int .i64 ri] 33 (0, 0)) := by rw [hwA]; exact alloc_at rfl _
      have hcs := conv_at (HB0.out.below hBA) cap
      rw [← hwA, hcs]
      obtain ⟨n1, hn1⟩ : ∃ n1, (⟨#[47, 47, 32]⟩ : ByteArray) ++ d = n1 := ⟨_, rfl⟩
      obtain ⟨n2, hn2⟩ : ∃ n2, n1 ++ ⟨#[10, 10, 32, 9, 13, 10]⟩ = n2 := ⟨_, rfl⟩
      obtain ⟨n3, hn3⟩ : ∃ n3, n2 ++ s = n3 := ⟨_, rfl⟩
      obtain ⟨n4, hn4⟩ : ∃ n4, n3 ++ ⟨#[10, 47, 47]⟩ = n4 := ⟨_, rfl⟩
      obtain ⟨u, hu⟩ : ∃ u, n4 ++ d = u := ⟨_, rfl⟩
      have HU : Hid (u = notesS s d) := Lib.hid (by rw [← hu, ← hn4, ← hn3, ← hn2, ← hn1]; rfl)
      have z1 : n1.size = 3 + d.size := by rw [← hn1, ByteArray.size_append]; rfl
      have z2 : n2.size = n1.size + 6 := by rw [← hn2, ByteArray.size_append]; rfl
      have z3 : n3.size = n2.size + s.size := by rw [← hn3, ByteArray.size_append]
      have z4 : n4.size = n3.size + 3 := by rw [← hn4, ByteArray.size_append]; rfl
      have f2 : ¬ 9223372036854775807 < n2.size + s.size := by omega
      have f3 : ¬ 9223372036854775807 < n3.size + 3 := by omega
      have f4 : ¬ 9223372036854775807 < n4.size + d.size := by omega
      have hcu := fun w => run_bytes_of_string (P := Tryd.prog) w 9 31 5 u Tryd.underlying9 Tryd.underlying31 Tryd.underlying5
      have HBA := Lib.hid hBA
      have HM1A := Lib.hid hM1A
      rw [hn1, hn2]
      clear z1 z2 z3 z4 hBA hM1A hwA hn1 hn2 hR1
      go_simp
      go_wp2_with fail
      have hge := grownCap_ge wA u.size 0 5
      generalize grownCap wA u.size 0 5 = gc at *
      have hbs := (bytesRow_v u wA gc hge ((bytesRow u gc).size, (bytesRow u gc).size + 1)).below (Below.refl _ _).drew
      rw [hzA] at hbs
      have hbC : Below wA.heap.size wA (wA.alloc (.cells (bytesRow u gc) 5 ((bytesRow u gc).size, (bytesRow u gc).size + 1))).drew := ((Below.refl _ _).alloc (Nat.le_refl _) _).drew
      clear hcu hcs
      generalize (wA.alloc (.cells (bytesRow u gc) 5 ((bytesRow u gc).size, (bytesRow u gc).size + 1))).drew = wC at *
      have hBC : Below wr.heap.size wr wC := HBA.out.trans (hbC.mono HBA.out.size)
      refine Calls.mono (HR2.out _ _ _ u HU.out hBC hbs) ?_
      rintro e wD ⟨rfl, hbD⟩
      have hBD : Below wr.heap.size wr wD := hBC.trans (hbD.mono hBC.size)
      have hzC := hbC.size
      have hzD := hbD.size
      obtain ⟨wE, hwE⟩ : ∃ wE, wE = wD.alloc (Obj.cells #[Value.string rp, Value.int IntKind.i64 ri] 33) := ⟨_, rfl⟩
      have hBE : Below wr.heap.size wr wE := by rw [hwE]; exact hBD.alloc hBD.size _
      have m1 : wE.heap[w2.heap.size]? = some (.cells #[.string rp, .int .i64 ri] 33 (0, 0)) := by
        rw [hwE, Below.heap_alloc _ _ _ (by omega), hbD.block _ (by omega), hbC.block _ (by omega)]; exact HM1A.out
      have m2 : wE.heap[wD.heap.size]? = some (.cells #[.string rp, .int .i64 ri] 33 (0, 0)) := by rw [hwE]; exact alloc_at rfl _
      have q10 := cell_of m1 0
      have q11 := cell_of m1 1
      have q20 := cell_of m2 0
      have q21 := cell_of m2 1
      have hW2 := HW.out wE hBE
      rw [hwE] at m1 m2 q10 q11 q20 q21 hW2
      have hrr : (rp.toList == rp.toList) = true := by simp
      have HBE := Lib.hid hBE
      have HWE := Lib.hid hwE
      clear hwE hBE hBD hbD hBC hbC hbs hge hzC hzD
      go_wp2_with (go_at_call 16; with_reducible refine Calls.mono hW2 ?_; rintro e wI ⟨rfl, hbI⟩)
      rw [← HWE.out] at hbI
      go_ret
      exact ⟨rfl, HBE.out.trans (hbI.mono HBE.out.size)⟩
end Go.Proofs.YtgkblldcjjokjaaDoor
