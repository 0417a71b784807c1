import Derived.Test.YtaboimjnhocajaaDoorTkRf
import Derived.Test.YtaboimjnhocajaaDoorTkRg
import Derived.Test.YtaboimjnhocajaaDoorTkY
namespace Go.Proofs.YtaboimjnhocajaaDoor
open Go.RowKit
set_option linter.unusedSimpArgs false
set_option linter.unusedVariables false

theorem info_u8 : (Tryd.prog.info? 5).map (fun i => (i.zero, i.size, i.bytes)) = some (some (.int .u8 0), 1, 1) := by kernel_rfl

set_option maxRecDepth 100000 in
set_option maxHeartbeats 3200000 in
theorem refScan_any (p : Option Addr) (cap : Nat) (s : ByteArray) (w : World) (hb : BSl w p s) (hs : s.size ≤ 1000) (hcap : s.size ≤ cap) :
    Calls Tryd.prog 11 #[.slice p s.size cap] w (RefP w (scanF s)) := by
  rw [← ref_scan]
  unfold refScanF
  rw [if_neg (by omega)]
  by_cases hw : 0 ≤ wrongR s (s.size + 1) 0
  · rw [if_pos hw]
    have hwr := refWrong_any p cap s w hb (by omega)
    generalize wrongR s (s.size + 1) 0 = x at hw hwr
    go_enter Tryd.func11, Tryd.ntmps11
    go_wp2_with (go_at_call 20; refine hwr.mono ?_; rintro e w2 ⟨rfl, hw2⟩; replace hw2 := hw2.symm; subst hw2)
    refine bodyPost_ret (v := .tuple #[.slice none 0 0, .slice none 0 0, .int .i64 x, .int .i64 2]) ?_ rfl ?_
    · simp [results, Tryd.results11, go_sem]
    · exact ⟨rfl, Below.refl _ _⟩
  · rw [if_neg hw]
    rcases hb with h0 | ⟨b, o, rfl, hB, hlt⟩
    · have hR : refF s (s.size + 1) 0 [] [] = .ok ([], []) := by
        rw [h0, refF, if_neg (by omega)]; rfl
      rw [hR]
      have hwr := refWrong_any p cap s w (.inl h0) (by omega)
      generalize wrongR s (s.size + 1) 0 = x at hw hwr
      rw [h0] at hwr ⊢
      have hen := refEnds_any w.heap.size (.slice none 0 0) [] w (own_nil_ref _ _) (by simp)
      go_enter Tryd.func11, Tryd.ntmps11
      go_wp2_with (go_at_call 20; refine hwr.mono ?_; rintro e w2 ⟨rfl, hw2⟩; replace hw2 := hw2.symm; subst hw2)
      go_loopw [7, 8, 9] (fun vl vn va wr => vl = .slice none 0 0 ∧ vn = .slice none 0 0 ∧ va = .int .i64 0 ∧ w = wr) (fun _ _ _ _ => 0)
      case atStart => exact ⟨rfl, rfl, rfl, rfl⟩
      case round =>
        obtain ⟨rfl, rfl, rfl, hwe⟩ := hrel
        subst hwe
        go_wp2_with (go_at_call 21; refine hen.mono ?_; rintro e w2 ⟨rfl, hb2⟩)
        refine bodyPost_ret (v := .tuple #[.slice none 0 0, .slice none 0 0, .int .i64 0, .int .i64 0]) ?_ rfl ?_
        · simp [results, Tryd.results11, go_sem]
        · exact ⟨_, _, rfl, hb2, own_nil_ref _ _, own_nil_ref _ _⟩
    · have h := refScan_inner b o cap s w hB hlt hs hcap (valid_of (by rw [wrongF_eq]; exact hw)) hw _ rfl
      revert h
      cases refF s (s.size + 1) 0 [] [] <;> exact fun h => h

set_option maxRecDepth 100000 in
set_option maxHeartbeats 6400000 in
theorem scans_walk (p : Option Addr) (cap : Nat) (s : ByteArray) (w : World) (hb : BSl w p s) (hcap : s.size ≤ cap) (hE : Env w) (h2 : 2 ≤ w.heap.size) :
    Calls Tryd.prog 3 #[.slice p s.size cap] w fun e w' => e = .returned (.bool true) ∧ Below w.heap.size w w' := by
  by_cases hl : 1000 < s.size
  · go_enter Tryd.func3, Tryd.ntmps3
    go_wp2_with fail
    go_ret
    exact ⟨rfl, Below.refl _ _⟩
  have hsc := fun (w' : World) (q : Option Addr) (c : Nat) (h : BSl w' q s) (hb' : Below w.heap.size w w') => Scan_any q c s w' h (hE.below hb' h2) (by have := hb'.size; omega) (by omega)
  have hnt := fun (w' : World) (hb' : Below w.heap.size w w') => Notes_any p cap s w' (hb.below hb') (hE.below hb' h2) (by have := hb'.size; omega) (by omega)
  have hrf := fun (w' : World) (hb' : Below w.heap.size w w') => refScan_any p cap s w' (hb.below hb') (by omega) hcap
  have hln : ∀ tk nt, scanF s = .ok (tk, nt) → tk.length ≤ 65537 ∧ nt.length ≤ 65536 := fun tk nt h => scan_len h
  generalize scanF s = R at hsc hnt hrf hln
  have HSC := Lib.hid hsc
  have HNT := Lib.hid hnt
  have HRF := Lib.hid hrf
  have HBS := Lib.hid hb
  have HE := Lib.hid hE
  clear hsc hnt hrf hb hE
  by_cases h0 : s.size = 0
  · have hal : Below w.heap.size w (w.alloc (.cells #[] 5)) := (Below.refl _ _).alloc (Nat.le_refl _) _
    have HAL := Lib.hid hal
    clear hal
    rcases p with _ | x
    all_goals
      go_enter Tryd.func3, Tryd.ntmps3
      go_wp2_with fail
      simp [go_sem, storeCells, h0]
      have hs1 := HSC.out _ (some ⟨w.heap.size, 0, none⟩) 0 (.inl h0) HAL.out
      rw [h0] at hs1
      rcases R with ⟨at_, n⟩ | ⟨tk, nt⟩
      · go_wp2_with (first
          | (go_at_call 10; refine hs1.mono ?_; rintro e w5 ⟨rfl, hb5⟩; have hB5 := HAL.out.trans (hb5.mono HAL.out.size); have hr5 := HRF.out w5 hB5; rw [h0] at hr5)
          | (go_at_call 11; refine hr5.mono ?_; rintro e w6 ⟨rfl, hb6⟩))
        have hB6 := hB5.trans (hb6.mono hB5.size)
        go_at_call 12
        refine (told_any 0 0 _ _ [] w6 ⟨rfl, .inl ⟨rfl, rfl⟩⟩ ⟨rfl, .inl ⟨rfl, rfl⟩⟩ (by simp)).mono ?_
        rintro e w7 ⟨rfl, hb7⟩
        have hB7 := hB6.trans (hb7.mono hB6.size)
        have hn7 := HNT.out w7 hB7
        rw [h0] at hn7
        go_wp2_with fail
        go_at_call 13
        refine hn7.mono ?_
        rintro e w8 ⟨rfl, hb8⟩
        have hB8 := hB7.trans (hb8.mono hB7.size)
        go_wp2_with fail
        go_at_call 12
        refine (told_any 0 0 _ _ [] w8 ⟨rfl, .inl ⟨rfl, rfl⟩⟩ ⟨rfl, .inl ⟨rfl, rfl⟩⟩ (by simp)).mono ?_
        rintro e w9 ⟨rfl, hb9⟩
        have hB9 := hB8.trans (hb9.mono hB8.size)
        go_wp2_with fail
        go_at_call 14
        refine (awake_any w9 (HE.out.below hB9 h2) (by have := hB9.size; omega)).mono ?_
        rintro e w10 ⟨rfl, hb10⟩
        go_wp2_with fail
        go_ret
        exact ⟨rfl, hB9.trans (hb10.mono hB9.size)⟩
      · obtain ⟨hl1, hl2⟩ := hln tk nt rfl
        go_wp2_with (first
          | (go_at_call 10; refine hs1.mono ?_; rintro e w5 ⟨vt, rfl, hb5, ho5⟩; have hB5 := HAL.out.trans (hb5.mono HAL.out.size); have hr5 := HRF.out w5 hB5; rw [h0] at hr5)
          | (go_at_call 11; refine hr5.mono ?_; rintro e w6 ⟨vt6, vn6, rfl, hb6, ho6, hn6⟩))
        have hB6 := hB5.trans (hb6.mono hB5.size)
        go_at_call 12
        refine (told_any _ _ vt vt6 tk w6 (row_kept ho5 hb6) ho6 (by omega)).mono ?_
        rintro e w7 ⟨rfl, hb7⟩
        have hB7 := hB6.trans (hb7.mono hB6.size)
        have hn7 := HNT.out w7 hB7
        rw [h0] at hn7
        go_wp2_with fail
        go_at_call 13
        refine hn7.mono ?_
        rintro e w8 ⟨vn8, rfl, hb8, ho8⟩
        have hB8 := hB7.trans (hb8.mono hB7.size)
        go_wp2_with fail
        go_at_call 12
        refine (told_any _ _ vn8 vn6 nt w8 ho8 (row_kept (row_kept hn6 hb7) hb8) (by omega)).mono ?_
        rintro e w9 ⟨rfl, hb9⟩
        have hB9 := hB8.trans (hb9.mono hB8.size)
        go_wp2_with fail
        go_at_call 14
        refine (awake_any w9 (HE.out.below hB9 h2) (by have := hB9.size; omega)).mono ?_
        rintro e w10 ⟨rfl, hb10⟩
        go_wp2_with fail
        go_ret
        exact ⟨rfl, hB9.trans (hb10.mono hB9.size)⟩
  · obtain ⟨b, o, rfl, hB, hltb⟩ : ∃ b o, p = some ⟨b, o, none⟩ ∧ BytesN w b o s ∧ b < w.heap.size := by
      rcases HBS.out with h | h
      · exact absurd h h0
      · exact h
    obtain ⟨i0, hi0, hz0, hz1, hz2⟩ := info_parts info_u8
    obtain ⟨news, hnw⟩ : ∃ news : List Value, news = (List.range s.size).map fun i => .int .u8 (byteN s i) := ⟨_, rfl⟩
    have hnl : news.length = s.size * 1 := by rw [hnw]; simp
    have hne : ∀ j u, news[j]? = some u → (w.alloc (.cells #[] 5)).cell? ((⟨b, o, none⟩ : Addr).add j) = some u := by
      intro j u hj
      rw [hnw] at hj
      have hjl : j < s.size := by
        by_cases hc : j < s.size
        · exact hc
        · rw [List.getElem?_eq_none (by simp; omega)] at hj; cases hj
      have hal : Below w.heap.size w (w.alloc (.cells #[] 5)) := (Below.refl _ _).alloc (Nat.le_refl _) _
      have e : (⟨b, o, none⟩ : Addr).add j = ⟨b, o + j, none⟩ := by unfold Addr.add; split <;> simp_all
      rw [e, hal.cell hltb, hB j hjl]
      simpa [hjl] using hj
    have hon : ∀ u ∈ news, u.oneCell' = true := by
      intro u hu
      rw [hnw] at hu
      obtain ⟨i, _, rfl⟩ := List.mem_map.1 hu
      rfl
    have how : (w.alloc (.cells #[] 5)).ownsRow w.heap.size 5 1 (.slice (some ⟨w.heap.size, 0, none⟩) 0 0) 0 [] :=
      ⟨rfl, .inr ⟨w.heap.size, 0, #[], rfl, Nat.le_refl _, heap_alloc_new w _, Nat.le_refl _, by unfold maxLen; omega, rfl, rfl⟩⟩
    have HNW := Lib.hid hnw
    have HNL := Lib.hid hnl
    have HNE := Lib.hid hne
    have HON := Lib.hid hon
    have HOW := Lib.hid how
    clear hnw hnl hne hon how hB
    go_enter Tryd.func3, Tryd.ntmps3
    go_wp2_with (at_builtin; refine stop_list ?_)
    refine Lib.hid ?_
    refine wpList_append_lies _ rfl _ _ 22 rfl w.heap.size 5 i0 _ 1 1 Tryd.underlying22 hi0 hz0 hz1 hz2 rfl (by omega) (.slice (some ⟨w.heap.size, 0, none⟩) 0 0) 0 [] rfl HOW.out
        ⟨b, o, none⟩ s.size cap news rfl HNL.out HNE.out HON.out (by omega) (by unfold maxLen; omega) (by omega) (by simp) (w.heap.size + 1) (by simp) ?_
    intro gg cap2 w3 hown hgrow hat hlt3
    have hal3 : Below w.heap.size w w3 := by
      have h4 : Below w.heap.size w (w.alloc (.cells #[] 5)) := (Below.refl _ _).alloc (Nat.le_refl _) _
      exact h4.grown hgrow (by simp) (fun k hk => by simp only [Value.ownBlock, Option.some.injEq] at hk; omega)
    have HAL := Lib.hid hal3
    have hbs3 : BSl w3 (some ⟨gg, 0, none⟩) s := by
      refine .inr ⟨gg, 0, rfl, fun i hi => ?_, hlt3⟩
      have hc := hown.cells (g := gg) rfl i (.int .u8 (byteN s i)) (by rw [HNW.out]; simp [hi])
      have e : (⟨gg, 0, none⟩ : Addr).add i = ⟨gg, 0 + i, none⟩ := by unfold Addr.add; split <;> simp_all
      rw [e] at hc
      exact hc
    have hs1 := HSC.out w3 (some ⟨gg, 0, none⟩) cap2 hbs3 hal3
    clear hown hgrow hat hal3 hbs3
    rcases R with ⟨at_, n⟩ | ⟨tk, nt⟩
    · go_wp2_with (first
        | (go_at_call 10; refine hs1.mono ?_; rintro e w5 ⟨rfl, hb5⟩; have hB5 := HAL.out.trans (hb5.mono HAL.out.size); have hr5 := HRF.out w5 hB5)
        | (go_at_call 11; refine hr5.mono ?_; rintro e w6 ⟨rfl, hb6⟩))
      have hB6 := hB5.trans (hb6.mono hB5.size)
      go_at_call 12
      refine (told_any 0 0 _ _ [] w6 ⟨rfl, .inl ⟨rfl, rfl⟩⟩ ⟨rfl, .inl ⟨rfl, rfl⟩⟩ (by simp)).mono ?_
      rintro e w7 ⟨rfl, hb7⟩
      have hB7 := hB6.trans (hb7.mono hB6.size)
      have hn7 := HNT.out w7 hB7
      go_wp2_with fail
      go_at_call 13
      refine hn7.mono ?_
      rintro e w8 ⟨rfl, hb8⟩
      have hB8 := hB7.trans (hb8.mono hB7.size)
      go_wp2_with fail
      go_at_call 12
      refine (told_any 0 0 _ _ [] w8 ⟨rfl, .inl ⟨rfl, rfl⟩⟩ ⟨rfl, .inl ⟨rfl, rfl⟩⟩ (by simp)).mono ?_
      rintro e w9 ⟨rfl, hb9⟩
      have hB9 := hB8.trans (hb9.mono hB8.size)
      go_wp2_with fail
      go_at_call 14
      refine (awake_any w9 (HE.out.below hB9 h2) (by have := hB9.size; omega)).mono ?_
      rintro e w10 ⟨rfl, hb10⟩
      go_wp2_with fail
      go_ret
      exact ⟨rfl, hB9.trans (hb10.mono hB9.size)⟩
    · obtain ⟨hl1, hl2⟩ := hln tk nt rfl
      go_wp2_with (first
        | (go_at_call 10; refine hs1.mono ?_; rintro e w5 ⟨vt, rfl, hb5, ho5⟩; have hB5 := HAL.out.trans (hb5.mono HAL.out.size); have hr5 := HRF.out w5 hB5)
        | (go_at_call 11; refine hr5.mono ?_; rintro e w6 ⟨vt6, vn6, rfl, hb6, ho6, hn6⟩))
      have hB6 := hB5.trans (hb6.mono hB5.size)
      go_at_call 12
      refine (told_any _ _ vt vt6 tk w6 (row_kept ho5 hb6) ho6 (by omega)).mono ?_
      rintro e w7 ⟨rfl, hb7⟩
      have hB7 := hB6.trans (hb7.mono hB6.size)
      have hn7 := HNT.out w7 hB7
      go_wp2_with fail
      go_at_call 13
      refine hn7.mono ?_
      rintro e w8 ⟨vn8, rfl, hb8, ho8⟩
      have hB8 := hB7.trans (hb8.mono hB7.size)
      go_wp2_with fail
      go_at_call 12
      refine (told_any _ _ vn8 vn6 nt w8 ho8 (row_kept (row_kept hn6 hb7) hb8) (by omega)).mono ?_
      rintro e w9 ⟨rfl, hb9⟩
      have hB9 := hB8.trans (hb9.mono hB8.size)
      go_wp2_with fail
      go_at_call 14
      refine (awake_any w9 (HE.out.below hB9 h2) (by have := hB9.size; omega)).mono ?_
      rintro e w10 ⟨rfl, hb10⟩
      go_wp2_with fail
      go_ret
      exact ⟨rfl, hB9.trans (hb10.mono hB9.size)⟩
end Go.Proofs.YtaboimjnhocajaaDoor
