import Derived.Test.YtlgolagedgllbaaDoorVrAb
import Derived.Laws.AppendOwn
import Derived.Deep.AppendLies
namespace Go.Proofs.YtlgolagedgllbaaDoor
open Go.RowKit Go.Shelf
set_option linter.unusedSimpArgs false
set_option linter.unusedVariables false
set_option linter.unusedSectionVars false

/-! The document's Words. -/
def strV (ws : List (List UInt8)) : List Value := ws.map fun x => .string ⟨x.toArray⟩
theorem strV_len (ws : List (List UInt8)) : (strV ws).length = ws.length := by simp [strV]
theorem strV_snoc (ws : List (List UInt8)) (x : List UInt8) : strV (ws ++ [x]) = strV ws ++ [.string ⟨x.toArray⟩] := by simp [strV]
theorem row_keptV {w w' : World} {base e size n : Nat} {v : Value} {xs : List Value} (h : w.ownsRow base e size v n xs) (hb : Below w.heap.size w w') : w'.ownsRow base e size v n xs :=
  h.kept (row := none) ⟨hb.os, hb.tape, hb.output, hb.size, fun k hk _ => hb.block k hk⟩ (by cases v.ownBlock <;> simp)
theorem infoStr : (Tryd.prog.info? 9).map (fun i => (i.zero, i.size, i.bytes)) = some (some (.string ByteArray.empty), 1, 16) := by kernel_rfl
theorem stop_listV {P : Program} {ops : Array Oper} {Q : Exit → Act → World → Prop} {l : List Oper} {a : Act} {w : World} (h : Hid (wpList P ops Q l a w)) : wpList P ops Q l a w := h.out
theorem ba_app (one : List UInt8) (c : Nat) (s : ByteArray) (i : Nat) (h : i < s.size) (hc : byteN s i = c) : (⟨one.toArray⟩ : ByteArray) ++ s.extract i (i + 1) = ⟨(one ++ [UInt8.ofNat c]).toArray⟩ := by
  apply ByteArray.ext
  apply Array.toList_inj.1
  rw [app_list, extract_list, (drop_byte s i h).1, byte_get s i h, hc, Nat.add_sub_cancel_left]
  simp
theorem refW_step (s : ByteArray) (i c : Nat) (h : i < s.size) (hc : byteN s i = c) (one : List UInt8) :
    refW one (noteL (s.data.toList.drop i)) = if c = 47 ∧ byteN s (i + 1) = 47 ∧ i + 1 < s.size then endW one
      else if c = 32 ∨ c = 9 ∨ c = 13 then endW one ++ refW [] (noteL (s.data.toList.drop (i + 1))) else refW (one ++ [UInt8.ofNat c]) (noteL (s.data.toList.drop (i + 1))) := by
  have hcl : c < 256 := by rw [← hc]; exact byteN_lt s i
  have hn : (UInt8.ofNat c).toNat = c := by simp; omega
  rw [(drop_byte s i h).1, byte_get s i h, hc, noteL]
  have e1 : UInt8.ofNat c = 47 ↔ c = 47 := by
    rw [← UInt8.toNat_inj, hn]; exact Iff.rfl
  have e2 : (s.data.toList.drop (i + 1)).head? = some 47 ↔ (byteN s (i + 1) = 47 ∧ i + 1 < s.size) := by
    by_cases h2 : i + 1 < s.size
    · rw [(drop_byte s (i + 1) h2).1, List.head?_cons, ← (drop_byte s (i + 1) h2).2]
      simp only [Option.some.injEq, ← UInt8.toNat_inj]
      exact ⟨fun x => ⟨x, h2⟩, fun x => x.1⟩
    · rw [List.drop_eq_nil_of_le (by simp; omega)]
      simp [h2]
  by_cases hA : c = 47 ∧ byteN s (i + 1) = 47 ∧ i + 1 < s.size
  · rw [if_pos ⟨e1.2 hA.1, e2.2 hA.2⟩, if_pos hA, refW]
  · rw [if_neg (fun x => hA ⟨e1.1 x.1, e2.1 x.2⟩), if_neg hA, refW]
    have hb : blB (UInt8.ofNat c) = true ↔ (c = 32 ∨ c = 9 ∨ c = 13) := by
      unfold blB
      simp only [Bool.or_eq_true, beq_iff_eq, ← UInt8.toNat_inj, hn]
      simp
      omega
    by_cases hB : c = 32 ∨ c = 9 ∨ c = 13
    · rw [if_pos (hb.2 hB), if_pos hB]
    · rw [if_neg (fun x => hB (hb.1 x)), if_neg hB]
def WordsP (w : World) (R : List (List UInt8)) (e : Ending) (w' : World) : Prop :=
  ∃ v, e = .returned v ∧ w'.ownsRow w.heap.size 9 1 v R.length (strV R) ∧ Below w.heap.size w w'
theorem app_below {w wr w1 : World} {v : Value} {n : Nat} {xs : List Value} {o : Obj} (hb : Below w.heap.size w wr) (ho : wr.ownsRow w.heap.size 9 1 v n xs) (hg : (wr.alloc o).grownBy w1 v.ownBlock) : Below w.heap.size w w1 := by
  have h1 : Below w.heap.size w (wr.alloc o) := hb.alloc hb.size o
  refine h1.grown hg ?_ (fun k hk => (ho.lt k hk).1)
  have := hb.size
  have h2 : (wr.alloc o).heap.size = wr.heap.size + 1 := by simp
  omega
set_option maxRecDepth 100000 in
set_option maxHeartbeats 12800000 in
theorem refwords_v (s : ByteArray) (w : World) (hs : s.size ≤ 1000000) :
    Calls Tryd.prog 27 #[.string s] w (WordsP w (refW [] (noteL s.data.toList))) := by
  obtain ⟨i0, hi0, hz0, hz1, hz2⟩ := info_parts infoStr
  obtain ⟨R, hR⟩ : ∃ R, refW [] (noteL s.data.toList) = R := ⟨_, rfl⟩
  rw [hR]
  have HR : Hid (R = [] ++ refW [] (noteL (s.data.toList.drop 0))) := Lib.hid (by rw [← hR]; rfl)
  have HB := Lib.hid (fun i h => str_byte s i h)
  have HST := Lib.hid (fun i c h hc one => refW_step s i c h hc one)
  have HEND : Hid (∀ i one, ¬ i < s.size → refW one (noteL (s.data.toList.drop i)) = endW one) := Lib.hid (by
    intro i one h
    rw [List.drop_eq_nil_of_le (by simp; omega)]
    rw [noteL, refW])
  clear hR
  go_enter Tryd.func27, Tryd.ntmps27
  go_wp2_with fail
  go_loopw [3, 4, 5] (fun ov nv iv wr => ∃ (i : Nat) (acc : List (List UInt8)) (one : List UInt8), iv = .int .i64 i ∧ i ≤ s.size ∧ nv = .string ⟨one.toArray⟩ ∧ wr.ownsRow w.heap.size 9 1 ov acc.length (strV acc) ∧ R = acc ++ refW one (noteL (s.data.toList.drop i)) ∧ one.length ≤ i ∧ acc.length ≤ i ∧ Below w.heap.size w wr) (fun _ _ iv _ => s.size - (intOf iv).toNat)
  case atStart => exact ⟨0, [], [], rfl, by omega, rfl, ⟨rfl, .inl ⟨rfl, rfl⟩⟩, HR.out, by simp, by simp, Below.refl _ _⟩
  case round =>
    obtain ⟨i, acc, one, rfl, hi, rfl, hrow, hRe, hol, hal, hbr⟩ := hrel
    have HO := Lib.hid hrow
    have HRE := Lib.hid hRe
    have HBR := Lib.hid hbr
    have hwr := hbr.size
    have hoz : (⟨one.toArray⟩ : ByteArray).size = one.length := List.size_toArray
    have HOZ := Lib.hid hoz
    clear hrow hRe hbr hoz
    obtain ⟨nb, hnb⟩ : ∃ nb : ByteArray, (⟨one.toArray⟩ : ByteArray) = nb := ⟨_, rfl⟩
    have HNB := Lib.hid hnb
    have hnz : nb.size ≤ i := by rw [← hnb, HOZ.out]; exact hol
    have hstrA : Hid (strV (acc ++ [one]) = strV acc ++ [.string nb]) := Lib.hid (by rw [strV_snoc, hnb])
    have hEE : Hid (nb.size = 0 → one = []) := Lib.hid (fun h => List.eq_nil_of_length_eq_zero (by rw [← HOZ.out, hnb]; exact h))
    have hEN : Hid (nb.size ≠ 0 → one ≠ []) := Lib.hid (fun h e => h (by rw [← hnb, HOZ.out, e]; rfl))
    rw [hnb]
    clear hnb
    by_cases hlt : i < s.size
    · have hlti : (i : Int) < (s.size : Int) := by omega
      have hb := HB.out i hlt
      obtain ⟨c, hc⟩ : ∃ c, byteN s i = c := ⟨_, rfl⟩
      rw [hc] at hb
      have HC := Lib.hid hc
      clear hc
      by_cases c47 : c = 47
      · subst c47
        have k0 : ((47 : Int) == 47) = true := rfl
        by_cases hn : i + 1 < s.size
        · have hni : (i : Int) + 1 < (s.size : Int) := by omega
          have hnd : decide ((i : Int) + 1 < (s.size : Int)) = true := decide_eq_true hni
          have hnat : ((i : Int) + 1).toNat = i + 1 := by omega
          have hb2 := HB.out (i + 1) hn
          obtain ⟨d, hd⟩ : ∃ d, byteN s (i + 1) = d := ⟨_, rfl⟩
          rw [hd] at hb2
          have HD := Lib.hid hd
          clear hd
          by_cases d47 : d = 47
          · subst d47
            have HF : Hid (R = acc ++ endW one) := Lib.hid (by rw [HRE.out, HST.out i 47 hlt HC.out, if_pos ⟨rfl, HD.out, hn⟩])
            by_cases hz : nb.size = 0
            · have hq := empty_list nb hz
              have HF2 : Hid (R = acc) := Lib.hid (by rw [HF.out, hEE.out hz]; simp [endW])
              clear hz
              as_aux_lemma =>
                go_wp2_with fail
                go_ret
                exact ⟨_, rfl, by rw [HF2.out]; exact HO.out, HBR.out⟩
            · have hq := full_list nb hz
              have HF2 : Hid (R = acc ++ [one]) := Lib.hid (by rw [HF.out]; unfold endW; rw [if_neg (hEN.out hz)])
              clear hz
              as_aux_lemma =>
                go_wp2_with (at_builtin; refine stop_listV ?_)
                refine Lib.hid ?_
                refine wpList_append_lies _ rfl _ _ 57 rfl w.heap.size 9 i0 _ 1 16 Tryd.underlying57 hi0 hz0 hz1 hz2 rfl (by omega) _ acc.length (strV acc) rfl (HO.out.alloc _)
                        ⟨wr.heap.size, 0, none⟩ 1 1 [.string nb] rfl rfl (World.news_of_block (cs := #[.string nb]) (t := 9) (fr := (0, 0)) (heap_alloc_new wr _)) (by simp [Value.oneCell'])
                        (by omega) (by unfold maxLen; omega) (by omega) (by simp; omega) (wr.heap.size + 1) (by simp) ?_
                intro gg cap2 w3 hown hgrow hat hlt3
                have HON : Hid (w3.ownsRow w.heap.size 9 1 (.slice (some ⟨gg, 0, none⟩) (acc.length + 1) cap2) (acc ++ [one]).length (strV (acc ++ [one]))) := Lib.hid (by rw [hstrA.out, List.length_append]; exact hown)
                have HBN : Hid (Below w.heap.size w w3) := Lib.hid (app_below HBR.out HO.out hgrow)
                clear hown hgrow hat
                go_wp2_with fail
                go_ret
                exact ⟨_, rfl, by rw [HF2.out]; exact HON.out, HBN.out⟩
          · have d1 : ((d : Int) == 47) = false := by rw [beq_eq_false_iff_ne]; omega
            have d2 : decide ((d : Int) = 47) = false := decide_eq_false (by omega)
            have d3 : ¬ (d : Int) = 47 := by omega
            have HF : Hid (R = acc ++ refW (one ++ [UInt8.ofNat 47]) (noteL (s.data.toList.drop (i + 1)))) := Lib.hid (by rw [HRE.out, HST.out i 47 hlt HC.out, if_neg (by rw [HD.out]; exact fun h => d47 h.2.1), if_neg (by omega)])
            have hx1 : i + 1 ≤ s.size := by omega
            have hx1i : (i : Int) + 1 ≤ (s.size : Int) := by omega
            have hx2 : (i : Int) ≤ (i : Int) + 1 := by omega
            have hx3 : i ≤ i + 1 := by omega
            have hx4 : (0 : Int) ≤ (i : Int) + 1 := by omega
            have hx5 : ((i : Int) + 1).toNat = i + 1 := by omega
            have HAP : Hid (nb ++ s.extract i (i + 1) = ⟨(one ++ [UInt8.ofNat 47]).toArray⟩) := Lib.hid (by rw [← HNB.out]; exact ba_app one 47 s i hlt HC.out)
            have hez : (s.extract i (i + 1)).size = 1 := by rw [ByteArray.size_extract]; omega
            obtain ⟨x, hx⟩ : ∃ x, s.extract i (i + 1) = x := ⟨_, rfl⟩
            rw [hx] at HAP hez
            have hov : ¬ 9223372036854775807 < nb.size + x.size := by omega
            have hov2 : ¬ 9223372036854775807 < nb.size + 1 := by omega
            as_aux_lemma =>
              go_wp2_with fail
              go_roundw
              case rel => exact ⟨i + 1, acc, one ++ [UInt8.ofNat 47], by go_num, by omega, by rw [← HAP.out], HO.out, HF.out, by simp; omega, by omega, HBR.out⟩
              case measure => simp [intOf]; omega
        · have hni : ¬ (i : Int) + 1 < (s.size : Int) := by omega
          have hnd : decide ((i : Int) + 1 < (s.size : Int)) = false := decide_eq_false hni
          have HF : Hid (R = acc ++ refW (one ++ [UInt8.ofNat 47]) (noteL (s.data.toList.drop (i + 1)))) := Lib.hid (by rw [HRE.out, HST.out i 47 hlt HC.out, if_neg (fun h => hn h.2.2), if_neg (by omega)])
          have hx1 : i + 1 ≤ s.size := by omega
          have hx1i : (i : Int) + 1 ≤ (s.size : Int) := by omega
          have hx2 : (i : Int) ≤ (i : Int) + 1 := by omega
          have hx3 : i ≤ i + 1 := by omega
          have hx4 : (0 : Int) ≤ (i : Int) + 1 := by omega
          have hx5 : ((i : Int) + 1).toNat = i + 1 := by omega
          have HAP : Hid (nb ++ s.extract i (i + 1) = ⟨(one ++ [UInt8.ofNat 47]).toArray⟩) := Lib.hid (by rw [← HNB.out]; exact ba_app one 47 s i hlt HC.out)
          have hez : (s.extract i (i + 1)).size = 1 := by rw [ByteArray.size_extract]; omega
          obtain ⟨x, hx⟩ : ∃ x, s.extract i (i + 1) = x := ⟨_, rfl⟩
          rw [hx] at HAP hez
          have hov : ¬ 9223372036854775807 < nb.size + x.size := by omega
          have hov2 : ¬ 9223372036854775807 < nb.size + 1 := by omega
          as_aux_lemma =>
            go_wp2_with fail
            go_roundw
            case rel => exact ⟨i + 1, acc, one ++ [UInt8.ofNat 47], by go_num, by omega, by rw [← HAP.out], HO.out, HF.out, by simp; omega, by omega, HBR.out⟩
            case measure => simp [intOf]; omega
      have k1 : ((c : Int) == 47) = false := by rw [beq_eq_false_iff_ne]; omega
      have k2 : decide ((c : Int) = 47) = false := decide_eq_false (by omega)
      have k3 : ¬ (c : Int) = 47 := by omega
      by_cases cb : c = 32 ∨ c = 9 ∨ c = 13
      · have HF : Hid (R = acc ++ (endW one ++ refW [] (noteL (s.data.toList.drop (i + 1))))) := Lib.hid (by rw [HRE.out, HST.out i c hlt HC.out, if_neg (fun h => c47 h.1), if_pos cb])
        clear c47
        by_cases hz : nb.size = 0
        · have hq := empty_list nb hz
          have HF2 : Hid (R = acc ++ refW [] (noteL (s.data.toList.drop (i + 1)))) := Lib.hid (by rw [HF.out, hEE.out hz]; rfl)
          clear hz
          rcases cb with rfl | rfl | rfl
          all_goals
            as_aux_lemma =>
              go_wp2_with fail
              go_roundw
              case rel => exact ⟨i + 1, acc, [], by go_num, by omega, rfl, HO.out, HF2.out, by simp, by omega, HBR.out⟩
              case measure => simp [intOf]; omega
        · have hq := full_list nb hz
          have HF2 : Hid (R = (acc ++ [one]) ++ refW [] (noteL (s.data.toList.drop (i + 1)))) := Lib.hid (by rw [HF.out]; unfold endW; rw [if_neg (hEN.out hz), List.append_assoc])
          clear hz
          rcases cb with rfl | rfl | rfl
          all_goals
            as_aux_lemma =>
              go_wp2_with (at_builtin; refine stop_listV ?_)
              refine Lib.hid ?_
              refine wpList_append_lies _ rfl _ _ 57 rfl w.heap.size 9 i0 _ 1 16 Tryd.underlying57 hi0 hz0 hz1 hz2 rfl (by omega) _ acc.length (strV acc) rfl (HO.out.alloc _)
                      ⟨wr.heap.size, 0, none⟩ 1 1 [.string nb] rfl rfl (World.news_of_block (cs := #[.string nb]) (t := 9) (fr := (0, 0)) (heap_alloc_new wr _)) (by simp [Value.oneCell'])
                      (by omega) (by unfold maxLen; omega) (by omega) (by simp; omega) (wr.heap.size + 1) (by simp) ?_
              intro gg cap2 w3 hown hgrow hat hlt3
              have HON : Hid (w3.ownsRow w.heap.size 9 1 (.slice (some ⟨gg, 0, none⟩) (acc.length + 1) cap2) (acc ++ [one]).length (strV (acc ++ [one]))) := Lib.hid (by rw [hstrA.out, List.length_append]; exact hown)
              have HBN : Hid (Below w.heap.size w w3) := Lib.hid (app_below HBR.out HO.out hgrow)
              clear hown hgrow hat
              go_wp2_with fail
              go_roundw
              case rel => exact ⟨i + 1, acc ++ [one], [], by go_num, by omega, rfl, HON.out, HF2.out, by simp, by simp; omega, HBN.out⟩
              case measure => simp [intOf]; omega
      have e32 : ((c : Int) == 32) = false := by rw [beq_eq_false_iff_ne]; omega
      have f32 : decide ((c : Int) = 32) = false := decide_eq_false (by omega)
      have g32 : ¬ (c : Int) = 32 := by omega
      have e9 : ((c : Int) == 9) = false := by rw [beq_eq_false_iff_ne]; omega
      have f9 : decide ((c : Int) = 9) = false := decide_eq_false (by omega)
      have g9 : ¬ (c : Int) = 9 := by omega
      have e13 : ((c : Int) == 13) = false := by rw [beq_eq_false_iff_ne]; omega
      have f13 : decide ((c : Int) = 13) = false := decide_eq_false (by omega)
      have g13 : ¬ (c : Int) = 13 := by omega
      have HF : Hid (R = acc ++ refW (one ++ [UInt8.ofNat c]) (noteL (s.data.toList.drop (i + 1)))) := Lib.hid (by rw [HRE.out, HST.out i c hlt HC.out, if_neg (fun h => c47 h.1), if_neg cb])
      have hx1 : i + 1 ≤ s.size := by omega
      have hx1i : (i : Int) + 1 ≤ (s.size : Int) := by omega
      have hx2 : (i : Int) ≤ (i : Int) + 1 := by omega
      have hx3 : i ≤ i + 1 := by omega
      have hx4 : (0 : Int) ≤ (i : Int) + 1 := by omega
      have hx5 : ((i : Int) + 1).toNat = i + 1 := by omega
      have HAP : Hid (nb ++ s.extract i (i + 1) = ⟨(one ++ [UInt8.ofNat c]).toArray⟩) := Lib.hid (by rw [← HNB.out]; exact ba_app one c s i hlt HC.out)
      have hez : (s.extract i (i + 1)).size = 1 := by rw [ByteArray.size_extract]; omega
      obtain ⟨x, hx⟩ : ∃ x, s.extract i (i + 1) = x := ⟨_, rfl⟩
      rw [hx] at HAP hez
      have hov : ¬ 9223372036854775807 < nb.size + x.size := by omega
      have hov2 : ¬ 9223372036854775807 < nb.size + 1 := by omega
      as_aux_lemma =>
        go_wp2_with fail
        go_roundw
        case rel => exact ⟨i + 1, acc, one ++ [UInt8.ofNat c], by go_num, by omega, by rw [← HAP.out], HO.out, HF.out, by simp; omega, by omega, HBR.out⟩
        case measure => simp [intOf]; omega
    · have hlti : ¬ (i : Int) < (s.size : Int) := by omega
      have hld : decide ((i : Int) < (s.size : Int)) = false := decide_eq_false hlti
      have HF : Hid (R = acc ++ endW one) := Lib.hid (by rw [HRE.out, HEND.out i one hlt])
      by_cases hz : nb.size = 0
      · have hq := empty_list nb hz
        have HF2 : Hid (R = acc) := Lib.hid (by rw [HF.out, hEE.out hz]; simp [endW])
        clear hz
        as_aux_lemma =>
          go_wp2_with fail
          go_ret
          exact ⟨_, rfl, by rw [HF2.out]; exact HO.out, HBR.out⟩
      · have hq := full_list nb hz
        have HF2 : Hid (R = acc ++ [one]) := Lib.hid (by rw [HF.out]; unfold endW; rw [if_neg (hEN.out hz)])
        clear hz
        as_aux_lemma =>
          go_wp2_with (at_builtin; refine stop_listV ?_)
          refine Lib.hid ?_
          refine wpList_append_lies _ rfl _ _ 57 rfl w.heap.size 9 i0 _ 1 16 Tryd.underlying57 hi0 hz0 hz1 hz2 rfl (by omega) _ acc.length (strV acc) rfl (HO.out.alloc _)
                  ⟨wr.heap.size, 0, none⟩ 1 1 [.string nb] rfl rfl (World.news_of_block (cs := #[.string nb]) (t := 9) (fr := (0, 0)) (heap_alloc_new wr _)) (by simp [Value.oneCell'])
                  (by omega) (by unfold maxLen; omega) (by omega) (by simp; omega) (wr.heap.size + 1) (by simp) ?_
          intro gg cap2 w3 hown hgrow hat hlt3
          have HON : Hid (w3.ownsRow w.heap.size 9 1 (.slice (some ⟨gg, 0, none⟩) (acc.length + 1) cap2) (acc ++ [one]).length (strV (acc ++ [one]))) := Lib.hid (by rw [hstrA.out, List.length_append]; exact hown)
          have HBN : Hid (Below w.heap.size w w3) := Lib.hid (app_below HBR.out HO.out hgrow)
          clear hown hgrow hat
          go_wp2_with fail
          go_ret
          exact ⟨_, rfl, by rw [HF2.out]; exact HON.out, HBN.out⟩
end Go.Proofs.YtlgolagedgllbaaDoor
