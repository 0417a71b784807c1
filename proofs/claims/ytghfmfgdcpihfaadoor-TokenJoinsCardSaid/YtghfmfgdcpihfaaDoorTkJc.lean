import Derived.Test.YtghfmfgdcpihfaaDoorTkJb
import Derived.Test.YtghfmfgdcpihfaaDoorTkR
import Derived.Test.YtghfmfgdcpihfaaDoorReg
import Derived.Lib.AppendStr
import Derived.Deep.OwnRows
namespace Go.Proofs.YtghfmfgdcpihfaaDoor
open Go.RowKit
set_option linter.unusedSimpArgs false
set_option linter.unusedVariables false
set_option linter.unusedSectionVars false

/-! TokenJoins. -/
theorem info8j : (Tryd.prog.info? 5).map (fun i => (i.zero, i.size, i.bytes)) = some (some (.int .u8 0), 1, 1) := by kernel_rfl
def cellsL (l : List UInt8) : List Value := l.map fun b => Value.int .u8 b.toNat
theorem cellsL_app (a b : List UInt8) : cellsL (a ++ b) = cellsL a ++ cellsL b := by simp [cellsL]
theorem cellsL_str (x : ByteArray) : cellsL x.data.toList = Lib.strCells x := rfl
theorem own_bsl {w : World} {B : Nat} {a : Option Addr} {c : Nat} {l : List UInt8} (h : w.ownsRow B 5 1 (.slice a l.length c) l.length (cellsL l)) : BSl w a (ofB l) := by
  by_cases h0 : l = []
  · subst h0; exact .inl rfl
  rcases h.2 with ⟨hv, h2⟩ | ⟨g, cap, cur, hv, _⟩
  · exact absurd (List.eq_nil_of_length_eq_zero h2) h0
  · simp only [Value.slice.injEq, true_and] at hv
    obtain ⟨rfl, rfl⟩ := hv
    refine .inr ⟨g, 0, rfl, ?_, (h.lt g rfl).2⟩
    intro i hi
    rw [ofB_size] at hi
    rw [Nat.zero_add, h.cellAt i (by omega)]
    simp only [cellsL, List.getElem?_map, List.getElem?_eq_getElem hi, Option.map_some, ofB_byte, List.getD_eq_getElem?_getD, Option.getD_some]
theorem own_below {w w' : World} {base e size n : Nat} {v : Value} {xs : List Value} (h : w.ownsRow base e size v n xs) (hb : Below w.heap.size w w') : w'.ownsRow base e size v n xs :=
  h.kept (row := none) ⟨hb.os, hb.tape, hb.output, hb.size, fun k hk _ => hb.block k hk⟩ (by cases v.ownBlock <;> simp)
theorem joinL_take {tk : List Tok} {k : Nat} (h : k < tk.length) : joinL (tk.take (k + 1)) = joinL (tk.take k) ++ piece tk[k] := by
  rw [List.take_succ_eq_append_getElem h, joinL_snoc]
theorem joinL_take_le (tk : List Tok) (k : Nat) : (joinL (tk.take k)).length ≤ (joinL tk).length := by
  have : joinL tk = joinL (tk.take k) ++ joinL (tk.drop k) := by rw [joinL, joinL, joinL, ← List.flatMap_append, List.take_append_drop]
  rw [this]; simp
theorem blank_new {w : World} {t : TypeId} : ∀ j u, ([.int .u8 32] : List Value)[j]? = some u → (w.alloc (.cells #[.int .u8 32] t)).cell? ((⟨w.heap.size, 0, none⟩ : Addr).add j) = some u :=
  World.news_of_block (cs := #[.int .u8 32]) (heap_alloc_new w _)

set_option maxRecDepth 100000 in
set_option maxHeartbeats 6400000 in
theorem joins_walk (p : Option Addr) (cap : Nat) (s : ByteArray) (w : World) (hb : BSl w p s) (hE : Env w) (h2 : 2 ≤ w.heap.size) :
    Calls Tryd.prog 3 #[.slice p s.size cap] w fun e w' => e = .returned (.bool true) ∧ Below w.heap.size w w' := by
  by_cases hl : 1000 < s.size
  · go_enter Tryd.func3, Tryd.ntmps3
    go_wp2_with fail
    go_ret
    exact ⟨rfl, Below.refl _ _⟩
  have hsc := Scan_any p cap s w hb hE h2 (by omega)
  have hjo : ∀ tk nt, scanF s = .ok (tk, nt) → (joinL tk).length ≤ 2002 ∧ ∃ m, scanF (ofB (joinL tk)) = .ok (m, []) ∧ m.map key = tk.map key := fun tk nt h => joins (by omega) h
  have her : ∀ a n, scanF s = .error (a, n) → n = 12 ∨ n = 2 ∨ n = 3 := fun a n h => scan_err h
  generalize scanF s = R at hsc hjo her
  have HE := Lib.hid hE
  clear hE hb
  rcases R with ⟨at_, n⟩ | ⟨tk, nt⟩
  · have hn := her _ _ rfl
    have hn0 : (n != 0) = true := by rcases hn with rfl | rfl | rfl <;> rfl
    clear her hjo hn
    go_enter Tryd.func3, Tryd.ntmps3
    go_wp2_with (first
      | (go_at_call 4; refine hsc.mono ?_; rintro e w2 ⟨rfl, hb2⟩)
      | (go_at_call 5; refine (awake_any _ (HE.out.below hb2 h2) (by have := hb2.size; omega)).mono ?_; rintro e w3 ⟨rfl, hb3⟩))
    go_ret
    exact ⟨rfl, hb2.trans (hb3.mono hb2.size)⟩
  · obtain ⟨hjz, m, hm, hkey⟩ := hjo tk nt rfl
    obtain ⟨i0, hi0, hz0, hz1, hz2⟩ := info_parts info8j
    clear her hjo
    go_enter Tryd.func3, Tryd.ntmps3
    go_wp2_with (go_at_call 4; refine hsc.mono ?_; rintro e w2 ⟨vt, rfl, hb2, ho⟩)
    have htl : tk.length ≤ 9223372036854775807 := own_len ho
    have HB := Lib.hid hb2
    have HM := Lib.hid hm
    have HKEY := Lib.hid hkey
    have HJZ := Lib.hid hjz
    obtain ⟨a, c, rfl⟩ := own_slice ho
    have hlt2 : 2 ≤ w2.heap.size := by have := hb2.size; omega
    have HE2 : Hid (Env w2) := Lib.hid (HE.out.below hb2 h2)
    obtain ⟨n, hlen⟩ : ∃ n, tk.length = n := ⟨_, rfl⟩
    have HLEN := Lib.hid hlen
    have HTC : Hid (0 < n → ∃ g, a = some ⟨g, 0, none⟩ ∧ g < w2.heap.size ∧ ∀ k (h : k < n), w2.cell? ⟨g, k * 3, none⟩ = some (.int .i64 (tk[k]'(by rw [HLEN.out]; exact h)).kind) ∧ w2.cell? ⟨g, k * 3 + 1, none⟩ = some (.string (tk[k]'(by rw [HLEN.out]; exact h)).text)) := by
      subst hlen
      refine Lib.hid fun h0 => ?_
      obtain ⟨g, c', hv, hg, hcs⟩ := tok_cells ho (by intro e; rw [e] at h0; simp at h0)
      simp only [Value.slice.injEq, true_and] at hv
      exact ⟨g, hv.1, hg, fun k h => ⟨(hcs k h).1, (hcs k h).2.1⟩⟩
    clear ho hb2 hsc hm hkey hjz
    rw [hlen] at htl ⊢
    clear hlen
    go_loopw [6, 7] (fun vc vi wr => ∃ k : Nat, vi = .int .i64 k ∧ k ≤ n ∧ wr.ownsRow w2.heap.size 5 1 vc (joinL (tk.take k)).length (cellsL (joinL (tk.take k))) ∧ Below w2.heap.size w2 wr) (fun _ vi _ => n - (intOf vi).toNat)
    case atStart => exact ⟨0, rfl, by omega, World.ownsRow_nil _ _ _ _, Below.refl _ _⟩
    case round =>
      obtain ⟨k, rfl, hkl, hown, hbr⟩ := hrel
      have HO := Lib.hid hown
      have HBR := Lib.hid hbr
      have hwr := hbr.size
      clear hown hbr
      have hjk : (joinL (tk.take k)).length ≤ 2002 := Nat.le_trans (joinL_take_le tk k) HJZ.out
      by_cases hlt : k < n
      · obtain ⟨g, rfl, hg, hcs⟩ := HTC.out (by omega)
        obtain ⟨x0, x1⟩ := hcs k hlt
        have e1 := (HBR.out.cell (p := ⟨g, k * 3 + 1, none⟩) hg).trans x1
        have HT := Lib.hid (joinL_take (tk := tk) (k := k) (by rw [HLEN.out]; exact hlt))
        have hjk1 : (joinL (tk.take (k + 1))).length ≤ 2002 := Nat.le_trans (joinL_take_le tk (k + 1)) HJZ.out
        rw [HT.out] at hjk1
        have X1 := Lib.hid x1
        clear hcs x0 x1
        generalize (tk[k]'(by rw [HLEN.out]; exact hlt)) = t at e1 HT hjk1 X1
        rw [List.length_append, piece_len] at hjk1
        have hp0 : Hid (piece t = t.text.data.toList ++ (if isNl t then [] else [32])) := Lib.hid rfl
        have hnl : Hid (isNl t = (t.text.toList == [10])) := Lib.hid rfl
        generalize ht : t.text = x at *
        go_wp2_with (at_builtin; refine Lib.wpList_append_own_string _ rfl _ _ 22 9 rfl w2.heap.size 5 i0 Tryd.underlying22 Tryd.underlying9 hi0 hz0 hz1 hz2 _ _ _ rfl HO.out x rfl ?c3 ?c4 ?c5 ?_)
        case c3 => unfold maxLen; omega
        case c4 => omega
        case c5 => omega
        intro v1 w1 hown1 hgrow1 _
        have HB1 : Hid (Below w2.heap.size w2 w1) := Lib.hid (HBR.out.grown hgrow1 hwr (fun k hk => (HO.out.lt k hk).1))
        have HO1 := Lib.hid hown1
        have e2 := (HB1.out.cell (p := ⟨g, k * 3 + 1, none⟩) hg).trans X1.out
        have hxl : Hid (x.data.toList.length = x.size) := Lib.hid (by simp)
        have hw1 := HB1.out.size
        clear hown1 hgrow1 e1
        by_cases hx : x.toList = [10]
        · have hpc : piece t = x.data.toList := by rw [hp0.out, hnl.out, hx]; simp
          have HF : Hid (w1.ownsRow w2.heap.size 5 1 v1 (joinL (tk.take (k + 1))).length (cellsL (joinL (tk.take (k + 1))))) := Lib.hid (by
            rw [HT.out, hpc, List.length_append, cellsL_app, cellsL_str, hxl.out]; exact HO1.out)
          have hx2 : (x.toList == [10]) = true := by simpa using hx
          have hx3 : (x.toList != [10]) = false := by simpa using hx
          clear hx hpc
          go_wp2_with fail
          go_roundw
          case rel => exact ⟨k + 1, by go_num, by omega, HF.out, HB1.out⟩
          case measure => simp [intOf]; omega
        · have hx2 : (x.toList == [10]) = false := by simpa using hx
          have hx3 : (x.toList != [10]) = true := by simpa using hx
          have hpc : piece t = x.data.toList ++ [32] := by rw [hp0.out, hnl.out, hx2]; simp
          clear hx
          rw [hnl.out, hx2, if_neg (by decide)] at hjk1
          go_wp2_with (at_builtin; refine wpList_append_own _ rfl _ _ 22 rfl w2.heap.size 5 i0 (.int .u8 0) 1 1 Tryd.underlying22 hi0 hz0 hz1 hz2 rfl (by decide) _ _ _ rfl (HO1.out.alloc _) ⟨w1.heap.size, 0, none⟩ 1 1 [.int .u8 32] rfl rfl blank_new ?d2 ?d3 ?d4 ?d5 ?_)
          case d2 => intro u hu; simp at hu; subst hu; rfl
          case d3 => unfold maxLen; omega
          case d4 => omega
          case d5 => simp; omega
          intro v3 w3 hown3 hgrow3 _
          have HB3 : Hid (Below w2.heap.size w2 w3) := Lib.hid ((HB1.out.alloc hw1 _).grown hgrow3 (by simp; omega) (fun k hk => (HO1.out.lt k hk).1))
          have HF : Hid (w3.ownsRow w2.heap.size 5 1 v3 (joinL (tk.take (k + 1))).length (cellsL (joinL (tk.take (k + 1))))) := Lib.hid (by
            rw [HT.out, hpc, List.length_append, List.length_append, hxl.out, ← Nat.add_assoc, cellsL_app, cellsL_app, cellsL_str]; exact hown3)
          clear hown3 hgrow3 hpc
          go_wp2_with fail
          go_roundw
          case rel => exact ⟨k + 1, by go_num, by omega, HF.out, HB3.out⟩
          case measure => simp [intOf]; omega
      · obtain rfl : k = n := by omega
        have hall : tk.take k = tk := List.take_of_length_le (by rw [HLEN.out]; exact Nat.le_refl _)
        have ho6 := HO.out
        rw [hall] at ho6
        clear hjk hall HO
        obtain ⟨a6, c6, rfl⟩ := own_slice ho6
        have hbs := own_bsl ho6
        have hsc2 := Scan_any a6 c6 (ofB (joinL tk)) wr hbs (HE2.out.below HBR.out hlt2) (by omega) (by rw [ofB_size]; have := HJZ.out; omega)
        rw [HM.out, ofB_size] at hsc2
        have hml : m.length = k := by
          have := congrArg List.length HKEY.out
          rw [List.length_map, List.length_map, HLEN.out] at this
          exact this
        have HML := Lib.hid hml
        have HKK : Hid (∀ j (h : j < k), (m[j]'(by rw [HML.out]; exact h)).kind = (tk[j]'(by rw [HLEN.out]; exact h)).kind ∧ (m[j]'(by rw [HML.out]; exact h)).text = (tk[j]'(by rw [HLEN.out]; exact h)).text) := Lib.hid fun j h => by
          have h1 : (m.map key)[j]? = (tk.map key)[j]? := by rw [HKEY.out]
          rw [List.getElem?_map, List.getElem?_map, List.getElem?_eq_getElem (by rw [HML.out]; exact h), List.getElem?_eq_getElem (by rw [HLEN.out]; exact h), Option.map_some, Option.map_some, Option.some.injEq] at h1
          simp only [key, Prod.mk.injEq] at h1
          exact h1
        clear hbs ho6
        go_wp2_with (go_at_call 4; refine hsc2.mono ?_; rintro e w4 ⟨vt4, rfl, hb4, ho4⟩; obtain ⟨a4, c4, rfl⟩ := own_slice ho4; rw [hml])
        have HB4 : Hid (Below w2.heap.size w2 w4) := Lib.hid (HBR.out.trans (hb4.mono hwr))
        have hw4 := HB4.out.size
        have HTM : Hid (0 < k → ∃ g, a4 = some ⟨g, 0, none⟩ ∧ g < w4.heap.size ∧ ∀ j (h : j < k), w4.cell? ⟨g, j * 3, none⟩ = some (.int .i64 (m[j]'(by rw [HML.out]; exact h)).kind) ∧ w4.cell? ⟨g, j * 3 + 1, none⟩ = some (.string (m[j]'(by rw [HML.out]; exact h)).text)) := by
          refine Lib.hid fun h0 => ?_
          obtain ⟨g, c', hv, hg, hcs⟩ := tok_cells ho4 (by intro e; rw [e] at hml; simp at hml; omega)
          simp only [Value.slice.injEq, true_and] at hv
          exact ⟨g, hv.1, hg, fun j h => ⟨(hcs j (by rw [HML.out]; exact h)).1, (hcs j (by rw [HML.out]; exact h)).2.1⟩⟩
        clear ho4 hb4 hml hsc2
        go_loopw [11] (fun v wr => ∃ j : Nat, v = .int .i64 j ∧ j ≤ k ∧ Below w4.heap.size w4 wr) (fun v _ => k - (intOf v).toNat)
        case atStart => exact ⟨0, rfl, by omega, Below.refl _ _⟩
        case round =>
          obtain ⟨j, rfl, hjl, hbq⟩ := hrel
          have HBQ := Lib.hid hbq
          have hwq := hbq.size
          clear hbq
          by_cases hlt : j < k
          · obtain ⟨g, rfl, hg, hcs⟩ := HTC.out (by omega)
            obtain ⟨g4, rfl, hg4, hcs4⟩ := HTM.out (by omega)
            obtain ⟨x0, x1⟩ := hcs j hlt
            obtain ⟨y0, y1⟩ := hcs4 j hlt
            obtain ⟨z0, z1⟩ := HKK.out j hlt
            rw [z0] at y0
            rw [z1] at y1
            clear hcs hcs4 z0 z1
            generalize (tk[j]'(by rw [HLEN.out]; exact hlt)) = t at x0 x1 y0 y1
            obtain ⟨kd, x, at_⟩ := t
            simp only at x0 x1 y0 y1
            have f0 := (HBQ.out.cell (p := ⟨g, j * 3, none⟩) (by show g < _; omega)).trans ((HB4.out.cell (p := ⟨g, j * 3, none⟩) hg).trans x0)
            have f1 := (HBQ.out.cell (p := ⟨g, j * 3 + 1, none⟩) (by show g < _; omega)).trans ((HB4.out.cell (p := ⟨g, j * 3 + 1, none⟩) hg).trans x1)
            have g0 := (HBQ.out.cell (p := ⟨g4, j * 3, none⟩) hg4).trans y0
            have g1 := (HBQ.out.cell (p := ⟨g4, j * 3 + 1, none⟩) hg4).trans y1
            clear x0 x1 y0 y1
            obtain ⟨cs, hcs⟩ : ∃ cs : List (Nat × Nat × Value), cs = [(g, j * 3, .int .i64 kd), (g, j * 3 + 1, .string x), (g4, j * 3, .int .i64 kd), (g4, j * 3 + 1, .string x)] := ⟨_, rfl⟩
            have q0 : ∀ i : Wld (InvC wr cs), i.w.cell? ⟨g, j * 3, none⟩ = some (.int .i64 kd) := fun i => InvC.cell i (by rw [hcs]; simp)
            have q1 : ∀ i : Wld (InvC wr cs), i.w.cell? ⟨g, j * 3 + 1, none⟩ = some (.string x) := fun i => InvC.cell i (by rw [hcs]; simp)
            have q2 : ∀ i : Wld (InvC wr cs), i.w.cell? ⟨g4, j * 3, none⟩ = some (.int .i64 kd) := fun i => InvC.cell i (by rw [hcs]; simp)
            have q3 : ∀ i : Wld (InvC wr cs), i.w.cell? ⟨g4, j * 3 + 1, none⟩ = some (.string x) := fun i => InvC.cell i (by rw [hcs]; simp)
            have hI0 : Hid (InvC wr cs wr.drew) := by
              refine Lib.hid (InvC.start (Below.refl _ _) ?_)
              rw [hcs]
              intro u hu
              simp only [List.mem_cons, List.not_mem_nil, or_false] at hu
              rcases hu with rfl | rfl | rfl | rfl
              · exact f0
              · exact f1
              · exact g0
              · exact g1
            have hne5 : Nonempty (Wld (InvC wr cs)) := ⟨⟨_, hI0.out⟩⟩
            have hk1 : (kd == kd) = true := by simp
            have hk2 : (kd != kd) = false := by simp
            have hx1 : (x.toList == x.toList) = true := by simp
            have hx2 : (x.toList != x.toList) = false := by simp
            clear hcs f0 f1 g0 g1
            go_wp2_with fail
            refine wp_region_inv (InvC wr cs) (by kernel_rfl) (by kernel_rfl) hI0.out ?_
            repeat (go_big_quiet_step (fail))
            refine wpQuiet_nil ?_
            intro w6 hw6
            have HB6 : Hid (Below w4.heap.size w4 w6) := by obtain ⟨i, rfl⟩ := hw6; exact Lib.hid (HBQ.out.trans (i.ok.1.mono hwq))
            clear hw6 q0 q1 q2 q3 hne5 hI0
            go_wp2_with fail
            go_roundw
            case rel => exact ⟨j + 1, by go_num, by omega, HB6.out⟩
            case measure => simp [intOf]; omega
          · obtain rfl : j = k := by omega
            have haw := awake_any wr ((HE2.out.below HB4.out hlt2).below HBQ.out (by omega)) (by omega)
            have HAW := Lib.hid haw
            clear haw
            go_wp2_with (go_at_call 5; refine HAW.out.mono ?_; rintro e w5 ⟨rfl, hb5⟩)
            go_ret
            exact ⟨rfl, HB.out.trans ((HB4.out.trans ((HBQ.out.trans (hb5.mono hwq)).mono hw4)).mono HB.out.size)⟩
end Go.Proofs.YtghfmfgdcpihfaaDoor
