import Derived.Test.YtaboimjnhocajaaDoorTkQ
namespace Go.Proofs.YtaboimjnhocajaaDoor
open Go.RowKit
set_option linter.unusedSimpArgs false
set_option linter.unusedVariables false

set_option maxHeartbeats 800000 in
theorem name_all (s : ByteArray) (w : World) :
    Calls Tryd.prog 15 #[.string s] w fun e w' => e = .returned (.bool (nameF s)) ∧ Below w.heap.size w w' := by
  go_enter Tryd.func15, Tryd.ntmps15
  go_wp2_with fail
  go_loopw [3] (fun _ wr => ∃ (f pos : Nat), s.size < f + pos ∧ pos ≤ s.size ∧ nameG s (s.size + 1) 0 = nameG s f pos ∧ Below w.heap.size w wr ∧
     wr.heap[w.heap.size]? = some (.stringIter s pos)) (fun _ wr => s.size - wr.iterPos w.heap.size)
  case atStart => exact ⟨s.size + 1, 0, by omega, by omega, rfl, (Below.refl _ _).alloc (Nat.le_refl _) _, iter_at rfl _ _⟩
  case round =>
    obtain ⟨f, pos, hf, hpos, he, hb, hi⟩ := hrel
    obtain ⟨f, rfl⟩ : ∃ g, f = g + 1 := ⟨f - 1, by omega⟩
    have HE := Lib.hid he; clear he
    have HB := Lib.hid hb; clear hb
    have HI := Lib.hid hi
    by_cases hlt : pos < s.size
    · have hn := Lib.run_next_any_at (P := Tryd.prog) wr w.heap.size s pos 0 hi hlt
      have hst : nameG s (f + 1) pos = if !letterI (Utf8.decode s pos).1 && (decide (pos = 0) || !figureI (Utf8.decode s pos).1) then false else nameG s f (pos + (Utf8.decode s pos).2) := by rw [nameG, if_pos hlt]
      obtain ⟨n1, n2⟩ := dec_width s pos hlt
      generalize hw1 : wr.iterAt w.heap.size s (pos + (Utf8.decode s pos).2) = w1 at hn
      have HB1 : Hid (Below w.heap.size w w1) := by rw [← hw1]; exact Lib.below_iterAt HB.out (Nat.le_refl _) _ _
      have HI1 : Hid (w1.heap[w.heap.size]? = some (.stringIter s (pos + (Utf8.decode s pos).2))) := by rw [← hw1]; exact Lib.iterAt_heap _ _ _ _ _ hi
      clear hw1 hi
      have h0 : ((pos : Int) == 0) = decide (pos = 0) := by rw [Bool.eq_iff_iff]; simp
      generalize decide (pos = 0) = z at h0 hst
      generalize Utf8.decode s pos = d at *
      obtain ⟨r, n⟩ := d
      simp only at n1 n2 hn hst HI1
      have hq1 := fun w => letter_any r w
      have hq2 := fun w => figure_any r w
      generalize letterI r = l at hst hq1
      generalize figureI r = g at hst hq2
      have HST := Lib.hid hst
      clear hst
      cases l
      · cases z
        · cases g
          · have HN : Hid (nameG s (s.size + 1) 0 = false) := Lib.hid (by rw [HE.out, HST.out]; rfl)
            go_wp2_with (first | (go_at_call 27; refine (hq1 _).mono ?_; rintro e w2 ⟨rfl, rfl⟩) | (go_at_call 28; refine (hq2 _).mono ?_; rintro e w2 ⟨rfl, rfl⟩))
            go_ret
            exact ⟨by unfold nameF; rw [HN.out]; rfl, HB1.out⟩
          · have HN : Hid (nameG s (s.size + 1) 0 = nameG s f (pos + n)) := Lib.hid (by rw [HE.out, HST.out]; rfl)
            go_wp2_with (first | (go_at_call 27; refine (hq1 _).mono ?_; rintro e w2 ⟨rfl, rfl⟩) | (go_at_call 28; refine (hq2 _).mono ?_; rintro e w2 ⟨rfl, rfl⟩))
            go_roundw
            case rel => exact ⟨f, pos + n, by omega, by omega, HN.out, HB1.out, HI1.out⟩
            case measure => rw [iterPos_of HI.out, iterPos_of HI1.out]; omega
        · have HN : Hid (nameG s (s.size + 1) 0 = false) := Lib.hid (by rw [HE.out, HST.out]; rfl)
          go_wp2_with (first | (go_at_call 27; refine (hq1 _).mono ?_; rintro e w2 ⟨rfl, rfl⟩) | (go_at_call 28; refine (hq2 _).mono ?_; rintro e w2 ⟨rfl, rfl⟩))
          go_ret
          exact ⟨by unfold nameF; rw [HN.out]; rfl, HB1.out⟩
      · have HN : Hid (nameG s (s.size + 1) 0 = nameG s f (pos + n)) := Lib.hid (by rw [HE.out, HST.out]; rfl)
        go_wp2_with (first | (go_at_call 27; refine (hq1 _).mono ?_; rintro e w2 ⟨rfl, rfl⟩) | (go_at_call 28; refine (hq2 _).mono ?_; rintro e w2 ⟨rfl, rfl⟩))
        go_roundw
        case rel => exact ⟨f, pos + n, by omega, by omega, HN.out, HB1.out, HI1.out⟩
        case measure => rw [iterPos_of HI.out, iterPos_of HI1.out]; omega
    · have hn := Lib.run_next_end_at (P := Tryd.prog) wr w.heap.size s pos 0 hi hlt
      have HN : Hid (nameG s (s.size + 1) 0 = true) := Lib.hid (by rw [HE.out, nameG, if_neg hlt])
      have hnf : nameF s = (!s.toList.isEmpty && wordL s.toList == 0) := by unfold nameF; rw [HN.out, Bool.true_and]
      have HNF := Lib.hid hnf
      clear hi hnf
      have hwd := fun w => word_any s w
      generalize wordL s.toList = q at HNF hwd
      go_wp2_with (go_at_call 17; refine (hwd _).mono ?_; rintro e w2 ⟨rfl, rfl⟩)
      all_goals
        go_ret
        refine ⟨ret_bool ?_, HB.out⟩
        rw [HNF.out]
        try simp [*]

theorem own_len {w : World} {base e size n : Nat} {v : Value} {xs : List Value} (h : w.ownsRow base e size v n xs) : n ≤ 9223372036854775807 := by
  rcases h.2 with ⟨_, rfl⟩ | ⟨g, cap, cur, _, _, _, h1, h2, _⟩
  · omega
  · unfold maxLen at h2; omega

/-- The cells of a row of tokens. -/
theorem tok_cells {w : World} {base : Nat} {v : Value} {tk : List Tok} (ho : w.ownsRow base 38 3 v tk.length (flat tk)) (hne : tk ≠ []) :
    ∃ g c, v = .slice (some ⟨g, 0, none⟩) tk.length c ∧ g < w.heap.size ∧ ∀ k (h : k < tk.length), w.cell? ⟨g, k * 3, none⟩ = some (.int .i64 tk[k].kind) ∧ w.cell? ⟨g, k * 3 + 1, none⟩ = some (.string tk[k].text) ∧ w.cell? ⟨g, k * 3 + 2, none⟩ = some (.int .i64 tk[k].at_) := by
  rcases ho.2 with ⟨_, h0⟩ | ⟨g, c, cur, rfl, _⟩
  · exact absurd (List.eq_nil_of_length_eq_zero h0) hne
  · refine ⟨g, c, rfl, (ho.lt g rfl).2, fun k h => ?_⟩
    have e : ∀ j, (⟨g, 0, none⟩ : Addr).add j = ⟨g, j, none⟩ := by intro j; unfold Addr.add; split <;> simp_all
    have hf : ∀ (l : List Tok) (k : Nat) (h : k < l.length) (j : Nat), j < 3 → (flat l)[k * 3 + j]? = ([.int .i64 l[k].kind, .string l[k].text, .int .i64 l[k].at_] : List Value)[j]? := by
      intro l
      induction l with
      | nil => intro k h; simp at h
      | cons t l ih =>
        intro k h j hj
        have e1 : flat (t :: l) = [.int .i64 t.kind, .string t.text, .int .i64 t.at_] ++ flat l := rfl
        rw [e1]
        cases k with
        | zero => rw [List.getElem?_append_left (by simp; omega)]; simp
        | succ k =>
          rw [List.getElem?_append_right (by simp; omega)]
          rw [show (k + 1) * 3 + j - ([.int .i64 t.kind, .string t.text, .int .i64 t.at_] : List Value).length = k * 3 + j from by simp; omega, ih k (by simpa using h) j hj]
          simp
    have hc : ∀ j u, (flat tk)[j]? = some u → w.cell? ((⟨g, 0, none⟩ : Addr).add j) = some u := ho.cells (g := g) rfl
    refine ⟨?_, ?_, ?_⟩
    · have := hc (k * 3 + 0) _ (hf tk k h 0 (by omega)); rwa [e] at this
    · have := hc (k * 3 + 1) _ (hf tk k h 1 (by omega)); rwa [e] at this
    · have := hc (k * 3 + 2) _ (hf tk k h 2 (by omega)); rwa [e] at this

theorem scan_err {s : ByteArray} {at_ n : Int} (h : scanF s = .error (at_, n)) : n = 12 ∨ n = 2 ∨ n = 3 := by
  unfold scanF at h
  split at h
  · cases h; exact .inl rfl
  split at h
  · cases h; exact .inr (.inl rfl)
  split at h
  · cases h
  · cases h; exact .inr (.inr rfl)

set_option maxRecDepth 100000 in
set_option maxHeartbeats 6400000 in
theorem kinds_walk (p : Option Addr) (cap : Nat) (s : ByteArray) (w : World) (hb : BSl w p s) (hE : Env w) (h2 : 2 ≤ w.heap.size) :
    Calls Tryd.prog 7 #[.slice p s.size cap] w fun e w' => e = .returned (.bool true) ∧ Below w.heap.size w w' := by
  by_cases hl : 1000 < s.size
  · go_enter Tryd.func7, Tryd.ntmps7
    go_wp2_with fail
    go_ret
    exact ⟨rfl, Below.refl _ _⟩
  have hsc := Scan_any p cap s w hb hE h2 (by omega)
  have hko : ∀ tk nt, scanF s = .ok (tk, nt) → ∀ t ∈ tk, KOK t := fun tk nt h => kok_scan h
  have her : ∀ a n, scanF s = .error (a, n) → n = 12 ∨ n = 2 ∨ n = 3 := fun a n h => scan_err h
  generalize scanF s = R at hsc hko her
  have HE := Lib.hid hE
  clear hE hb
  rcases R with ⟨at_, n⟩ | ⟨tk, nt⟩
  · have hn := her _ _ rfl
    have hn0 : (n != 0) = true := by rcases hn with rfl | rfl | rfl <;> rfl
    clear her hko hn
    go_enter Tryd.func7, Tryd.ntmps7
    go_wp2_with (first
      | (go_at_call 10; refine hsc.mono ?_; rintro e w2 ⟨rfl, hb2⟩)
      | (go_at_call 14; refine (awake_any _ (HE.out.below hb2 h2) (by have := hb2.size; omega)).mono ?_; rintro e w3 ⟨rfl, hb3⟩))
    go_ret
    exact ⟨rfl, hb2.trans (hb3.mono hb2.size)⟩
  · have hk := hko tk nt rfl
    clear hko her
    go_enter Tryd.func7, Tryd.ntmps7
    go_wp2_with (go_at_call 10; refine hsc.mono ?_; rintro e w2 ⟨vt, rfl, hb2, ho⟩)
    have htl : tk.length ≤ 9223372036854775807 := own_len ho
    have HO := Lib.hid ho
    have HB := Lib.hid hb2
    have HK := Lib.hid hk
    obtain ⟨a, c, rfl⟩ := own_slice ho
    have hlt2 : 2 ≤ w2.heap.size := by have := hb2.size; omega
    have HE2 : Hid (Env w2) := Lib.hid (HE.out.below hb2 h2)
    clear ho hb2 hk hsc
    go_loopw [6] (fun v wr => ∃ k : Nat, v = .int .i64 k ∧ k ≤ tk.length ∧ Below w2.heap.size w2 wr) (fun v _ => tk.length - (intOf v).toNat)
    case atStart => exact ⟨0, rfl, by omega, Below.refl _ _⟩
    case round =>
      obtain ⟨k, rfl, hkl, hbr⟩ := hrel
      have HBR := Lib.hid hbr
      clear hbr
      by_cases hlt : k < tk.length
      · obtain ⟨g, c', hv, hg, hcs⟩ := tok_cells HO.out (by intro e; rw [e] at hlt; simp at hlt)
        simp only [Value.slice.injEq, true_and] at hv
        obtain ⟨rfl, rfl⟩ := hv
        obtain ⟨d0, d1, d2⟩ := hcs k hlt
        have ok := HK.out tk[k] (List.getElem_mem hlt)
        have e0 : wr.cell? ⟨g, k * 3, none⟩ = some (.int .i64 tk[k].kind) := by rw [HBR.out.cell (p := ⟨g, k * 3, none⟩) hg]; exact d0
        have e1 : wr.cell? ⟨g, k * 3 + 1, none⟩ = some (.string tk[k].text) := by rw [HBR.out.cell (p := ⟨g, k * 3 + 1, none⟩) hg]; exact d1
        have e2 : wr.cell? ⟨g, k * 3 + 2, none⟩ = some (.int .i64 tk[k].at_) := by rw [HBR.out.cell (p := ⟨g, k * 3 + 2, none⟩) hg]; exact d2
        clear d0 d1 d2 hcs
        obtain ⟨o1, o2, o3, o4, o5, o6, o7⟩ := ok
        generalize tk[k] = t at *
        obtain ⟨kd, x, at_⟩ := t
        simp only at o1 o2 o3 o4 o5 o6 o7 e0 e1 e2
        go_wp2_with fail
        go_region
        have HB3 : Hid (Below w2.heap.size w2 wr.drew) := Lib.hid (HBR.out.trans ⟨rfl, rfl, rfl, Nat.le_refl _, fun _ _ => rfl⟩)
        clear e0 e1 e2 HO HK
        generalize wr.drew = w3 at HB3 ⊢
        have hn := fun w => name_all x w
        have hw := fun w => word_any x w
        generalize nameF x = nb at o3 hn
        generalize wordL x.toList = q at o4 o5 hw
        have hkd : kd = 1 ∨ kd = 2 ∨ kd = 3 ∨ kd = 4 ∨ kd = 5 ∨ kd = 6 := by omega
        rcases hkd with rfl | rfl | rfl | rfl | rfl | rfl
        · have o3' : nb = true := by rw [o3]; rfl
          have o4' : (q == 1) = false := by rw [o4]; rfl
          have o5' : (q == 2) = false := by rw [o5]; rfl
          subst o3'
          clear o3 o4 o5 o6 o7 o1 o2
          go_wp2_with (first
            | (go_at_call 15; refine (hn _).mono ?_; rintro e w4 ⟨rfl, hb4⟩)
            | (go_at_call 17; refine (hw _).mono ?_; rintro e w5 ⟨rfl, hw5⟩; replace hw5 := hw5.symm; subst hw5))
          all_goals
            go_roundw
            case rel => exact ⟨k + 1, by go_num, by omega, HB3.out.trans (hb4.mono HB3.out.size)⟩
            case measure => simp [intOf]; omega
        · have o3' : nb = false := by rw [o3]; rfl
          have o4' : (q == 1) = true := by rw [o4]; rfl
          have o5' : (q == 2) = false := by rw [o5]; rfl
          subst o3'
          clear o3 o4 o5 o6 o7 o1 o2
          go_wp2_with (first
            | (go_at_call 15; refine (hn _).mono ?_; rintro e w4 ⟨rfl, hb4⟩)
            | (go_at_call 17; refine (hw _).mono ?_; rintro e w5 ⟨rfl, hw5⟩; replace hw5 := hw5.symm; subst hw5))
          all_goals
            go_roundw
            case rel => exact ⟨k + 1, by go_num, by omega, HB3.out.trans (hb4.mono HB3.out.size)⟩
            case measure => simp [intOf]; omega
        · have o3' : nb = false := by rw [o3]; rfl
          have o4' : (q == 1) = false := by rw [o4]; rfl
          have o5' : (q == 2) = true := by rw [o5]; rfl
          subst o3'
          clear o3 o4 o5 o6 o7 o1 o2
          go_wp2_with (first
            | (go_at_call 15; refine (hn _).mono ?_; rintro e w4 ⟨rfl, hb4⟩)
            | (go_at_call 17; refine (hw _).mono ?_; rintro e w5 ⟨rfl, hw5⟩; replace hw5 := hw5.symm; subst hw5))
          all_goals
            go_roundw
            case rel => exact ⟨k + 1, by go_num, by omega, HB3.out.trans (hb4.mono HB3.out.size)⟩
            case measure => simp [intOf]; omega
        · have o3' : nb = false := by rw [o3]; rfl
          have o4' : (q == 1) = false := by rw [o4]; rfl
          have o5' : (q == 2) = false := by rw [o5]; rfl
          subst o3'
          obtain ⟨hp, hx1, hx2⟩ := o6 rfl
          have hx : ∀ h : 0 < x.size, x[0].toNat = byteN x 0 := fun h => byte_at x 0 h
          generalize byteN x 0 = y at hx hx1 hx2
          clear o3 o4 o5 o6 o7 o1 o2
          go_wp2_with (first
            | (go_at_call 15; refine (hn _).mono ?_; rintro e w4 ⟨rfl, hb4⟩)
            | (go_at_call 17; refine (hw _).mono ?_; rintro e w5 ⟨rfl, hw5⟩; replace hw5 := hw5.symm; subst hw5))
          all_goals
            go_roundw
            case rel => exact ⟨k + 1, by go_num, by omega, HB3.out.trans (hb4.mono HB3.out.size)⟩
            case measure => simp [intOf]; omega
        · have o3' : nb = false := by rw [o3]; rfl
          have o4' : (q == 1) = false := by rw [o4]; rfl
          have o5' : (q == 2) = false := by rw [o5]; rfl
          subst o3'
          obtain ⟨hp, hx1⟩ := o7 rfl
          have hx : ∀ h : 0 < x.size, x[0].toNat = byteN x 0 := fun h => byte_at x 0 h
          generalize byteN x 0 = y at hx hx1
          clear o3 o4 o5 o6 o7 o1 o2
          rcases hx1 with hy | hy
          all_goals
            subst hy
            go_wp2_with (first
              | (go_at_call 15; refine (hn _).mono ?_; rintro e w4 ⟨rfl, hb4⟩)
              | (go_at_call 17; refine (hw _).mono ?_; rintro e w5 ⟨rfl, hw5⟩; replace hw5 := hw5.symm; subst hw5))
            go_roundw
            case rel => exact ⟨k + 1, by go_num, by omega, HB3.out.trans (hb4.mono HB3.out.size)⟩
            case measure => simp [intOf]; omega
        · have o3' : nb = false := by rw [o3]; rfl
          have o4' : (q == 1) = false := by rw [o4]; rfl
          have o5' : (q == 2) = false := by rw [o5]; rfl
          subst o3'
          clear o3 o4 o5 o6 o7 o1 o2
          go_wp2_with (first
            | (go_at_call 15; refine (hn _).mono ?_; rintro e w4 ⟨rfl, hb4⟩)
            | (go_at_call 17; refine (hw _).mono ?_; rintro e w5 ⟨rfl, hw5⟩; replace hw5 := hw5.symm; subst hw5))
          all_goals
            go_roundw
            case rel => exact ⟨k + 1, by go_num, by omega, HB3.out.trans (hb4.mono HB3.out.size)⟩
            case measure => simp [intOf]; omega
      · obtain rfl : k = tk.length := by omega
        go_wp2_with (go_at_call 14; refine (awake_any _ (HE2.out.below HBR.out hlt2) (by have := HBR.out.size; omega)).mono ?_; rintro e w5 ⟨rfl, hb5⟩)
        go_ret
        exact ⟨rfl, HB.out.trans ((HBR.out.trans (hb5.mono HBR.out.size)).mono HB.out.size)⟩
end Go.Proofs.YtaboimjnhocajaaDoor
