import Derived.Test.YtppnjliamfnlkaaLtAv
namespace Go.Proofs.Ytppnjliamfnlkaa
open Go.RowKit
set_option linter.unusedSimpArgs false
set_option linter.unusedVariables false
set_option linter.unusedSectionVars false

/-! The document's Text: back-quoted (MADE BY wip/gen_reftext.py). -/

set_option maxRecDepth 100000 in
set_option maxHeartbeats 3200000 in
theorem reftext_ok96 (s : ByteArray) (w : World) (hs : s.size ≤ 65536) (h : 2 ≤ s.size) (ha : byteN s 0 = 96) (hb : byteN s (s.size - 1) = 96) (hw : wrongF s < 0) :
    Calls Try.prog 14 #[.string s] w (DocP w (docF 96 (s.extract 1 (s.size - 1)) ((s.extract 1 (s.size - 1)).size + 1) 0 [])) := by
  have d1 : decide ((65536 : Int) < (s.size : Int)) = false := by simp; omega
  have d2 : decide (65536 < s.size) = false := by simp; omega
  have d3 : decide ((s.size : Int) < 2) = false := by simp; omega
  have d4 : decide (s.size < 2) = false := by simp; omega
  have hx0 := str_byte s 0 (by omega)
  obtain ⟨k, hk⟩ : ∃ k, s.size - 1 = k := ⟨_, rfl⟩
  have hkI : (s.size : Int) - 1 = (k : Int) := by omega
  have hk2 : k < s.size := by omega
  have hk3 : (k : Int) < s.size := by omega
  have hx1 := str_byte s k hk2
  have h00 : 0 < s.size := by omega
  have h00' : (0 : Int) < s.size := by omega
  have hk8 : IntKind.i64.wrap (k : Int) = k := IntWalk.i64_in _ (by omega)
  rw [hk] at hb
  rw [ha] at hx0
  rw [hb] at hx1
  rw [hk]
  clear hk
  have hcv := fun w => run_bytes_of_string (P := Try.prog) w 9 32 5 s Try.underlying9 Try.underlying32 Try.underlying5
  have hcv2 := hcv w.drew
  go_enter Try.func14, Try.ntmps14
  go_wp2_with fail
  refine wp_region_any (by kernel_rfl) ?_
  change wpAny _ _ _ _ _ _ _ (World.drew _)
  refine wpAny_take (i := 0) (v := .string s) rfl (by kernel_rfl) (by kernel_rfl) (by kernel_rfl) (fun _ _ _ h => h) (Or.inl ⟨by kernel_rfl, by intro w; go_simp⟩) ?_
  refine wpAny_take (i := 1) (v := .int .i64 s.size) rfl (by kernel_rfl) (by kernel_rfl) (by kernel_rfl) (fun _ _ _ h => h) (Or.inl ⟨by kernel_rfl, by intro w; go_simp⟩) ?_
  refine wpAny_take (i := 2) (v := .bool false) rfl (by kernel_rfl) (by kernel_rfl) (by kernel_rfl) (fun _ _ _ h => h) (Or.inl ⟨by kernel_rfl, by intro w; go_simp⟩) ?_
  refine wpAny_take (i := 3) (v := .bool false) rfl (by kernel_rfl) (by kernel_rfl) (by kernel_rfl) (fun _ _ _ h => h) (Or.inl ⟨by kernel_rfl, by intro w; go_simp⟩) ?_
  refine wpAny_take (i := 4) (v := .string s) rfl (by kernel_rfl) (by kernel_rfl) (by kernel_rfl) (fun _ _ _ h => h) (Or.inl ⟨by kernel_rfl, by intro w; go_simp⟩) ?_
  refine wpAny_take (i := 5) (v := .int .u8 96) rfl (by kernel_rfl) (by kernel_rfl) (by kernel_rfl) (fun _ _ _ h => h) (Or.inl ⟨by kernel_rfl, by intro w; go_simp⟩) ?_
  refine wpAny_take (i := 6) (v := .string s) rfl (by kernel_rfl) (by kernel_rfl) (by kernel_rfl) (fun _ _ _ h => h) (Or.inl ⟨by kernel_rfl, by intro w; go_simp⟩) ?_
  refine wpAny_take (i := 7) (v := .string s) rfl (by kernel_rfl) (by kernel_rfl) (by kernel_rfl) (fun _ _ _ h => h) (Or.inl ⟨by kernel_rfl, by intro w; go_simp⟩) ?_
  refine wpAny_take (i := 8) (v := .int .i64 s.size) rfl (by kernel_rfl) (by kernel_rfl) (by kernel_rfl) (fun _ _ _ h => h) (Or.inl ⟨by kernel_rfl, by intro w; go_simp⟩) ?_
  refine wpAny_take (i := 9) (v := .int .i64 k) rfl (by kernel_rfl) (by kernel_rfl) (by kernel_rfl) (fun _ _ _ h => h) (Or.inl ⟨by kernel_rfl, by intro w; go_simp⟩) ?_
  refine wpAny_take (i := 10) (v := .int .u8 96) rfl (by kernel_rfl) (by kernel_rfl) (by kernel_rfl) (fun _ _ _ h => h) (Or.inl ⟨by kernel_rfl, by intro w; go_simp⟩) ?_
  refine wpAny_take (i := 11) (v := .bool false) rfl (by kernel_rfl) (by kernel_rfl) (by kernel_rfl) (fun _ _ _ h => h) (Or.inl ⟨by kernel_rfl, by intro w; go_simp⟩) ?_
  refine wpAny_take (i := 12) (v := .bool false) rfl (by kernel_rfl) (by kernel_rfl) (by kernel_rfl) (fun _ _ _ h => h) (Or.inl ⟨by kernel_rfl, by intro w; go_simp⟩) ?_
  refine wpAny_take (i := 13) (v := .bool false) rfl (by kernel_rfl) (by kernel_rfl) (by kernel_rfl) (fun _ _ _ h => h) (Or.inl ⟨by kernel_rfl, by intro w; go_simp⟩) ?_
  refine wpAny_take (i := 14) (v := .string s) rfl (by kernel_rfl) (by kernel_rfl) (by kernel_rfl) (fun _ _ _ h => h) (Or.inl ⟨by kernel_rfl, by intro w; go_simp⟩) ?_
  refine wpAny_take (i := 15) (v := .int .u8 96) rfl (by kernel_rfl) (by kernel_rfl) (by kernel_rfl) (fun _ _ _ h => h) (Or.inl ⟨by kernel_rfl, by intro w; go_simp⟩) ?_
  refine wpAny_take (i := 16) (v := .bool true) rfl (by kernel_rfl) (by kernel_rfl) (by kernel_rfl) (fun _ _ _ h => h) (Or.inl ⟨by kernel_rfl, by intro w; go_simp⟩) ?_
  refine wpAny_take (i := 17) (v := .bool true) rfl (by kernel_rfl) (by kernel_rfl) (by kernel_rfl) (fun _ _ _ h => h) (Or.inl ⟨by kernel_rfl, by intro w; go_simp⟩) ?_
  refine wpAny_take (i := 18) (v := .string s) rfl (by kernel_rfl) (by kernel_rfl) (by kernel_rfl) (fun _ _ _ h => h) (Or.inl ⟨by kernel_rfl, by intro w; go_simp⟩) ?_
  refine wpAny_take (i := 19) (v := .int .u8 96) rfl (by kernel_rfl) (by kernel_rfl) (by kernel_rfl) (fun _ _ _ h => h) (Or.inl ⟨by kernel_rfl, by intro w; go_simp⟩) ?_
  refine wpAny_take (i := 20) (v := .bool false) rfl (by kernel_rfl) (by kernel_rfl) (by kernel_rfl) (fun _ _ _ h => h) (Or.inl ⟨by kernel_rfl, by intro w; go_simp⟩) ?_
  refine wpAny_take (i := 21) (v := .bool false) rfl (by kernel_rfl) (by kernel_rfl) (by kernel_rfl) (fun _ _ _ h => h) (Or.inl ⟨by kernel_rfl, by intro w; go_simp⟩) ?_
  refine wpAny_take (i := 22) (v := .bool false) rfl (by kernel_rfl) (by kernel_rfl) (by kernel_rfl) (fun _ _ _ h => h) (Or.inl ⟨by kernel_rfl, by intro w; go_simp⟩) ?_
  refine wpAny_take (i := 23) (v := .bool false) rfl (by kernel_rfl) (by kernel_rfl) (by kernel_rfl) (fun _ _ _ h => h) (Or.inl ⟨by kernel_rfl, by intro w; go_simp⟩) ?_
  refine wpAny_take (i := 24) (v := .string s) rfl (by kernel_rfl) (by kernel_rfl) (by kernel_rfl) (fun _ _ _ h => h) (Or.inl ⟨by kernel_rfl, by intro w; go_simp⟩) ?_
  refine wpAny_ready (rs := [25]) (by kernel_rfl) (by simp) ?_
  refine AllReady.cons rfl ?_ AllReady.nil
  intro K' hK
  rw [if_pos (by kernel_rfl)]
  go_simp
  have hge := grownCap_ge w.drew s.size 0 5
  generalize grownCap w.drew s.size 0 5 = gc at *
  have hbs := bytesRow_bsl s w gc hge ((bytesRow s gc).size, (bytesRow s gc).size + 1)
  have hb7 : Below w.heap.size w (w.alloc (.cells (bytesRow s gc) 5 ((bytesRow s gc).size, (bytesRow s gc).size + 1))) := (Below.refl _ _).alloc (Nat.le_refl _) _
  have HB7 := Lib.hid hb7
  generalize w.alloc (.cells (bytesRow s gc) 5 ((bytesRow s gc).size, (bytesRow s gc).size + 1)) = w7 at *
  have hwr := refWrong_any (some ⟨w.heap.size, 0, none⟩) gc s w7.drew.drew (bsl_drew (bsl_drew hbs)) (by omega)
  rw [← wrongF_eq] at hwr
  clear hbs hb7 hcv hcv2 hge
  generalize wrongF s = wf at *
  have hwd : decide (0 ≤ wf) = false := by simp; omega
  refine hK _ _ ?_
  refine wpAny_ready (rs := [26]) (by kernel_rfl) (by simp) ?_
  refine AllReady.cons rfl ?_ AllReady.nil
  intro K2 hK2
  rw [if_pos (by kernel_rfl)]
  go_simp
  go_at_call 25
  with_reducible refine Calls.mono hwr ?_
  rintro e w8 ⟨rfl, rfl⟩
  refine hK2 _ _ ?_
  refine wpAny_take (i := 27) (v := .bool false) rfl (by kernel_rfl) (by kernel_rfl) (by kernel_rfl) (fun _ _ _ h => h) (Or.inl ⟨by kernel_rfl, by intro w; go_simp⟩) ?_
  refine wpAny_take (i := 28) (v := .bool false) rfl (by kernel_rfl) (by kernel_rfl) (by kernel_rfl) (fun _ _ _ h => h) (Or.inl ⟨by kernel_rfl, by intro w; go_simp⟩) ?_
  refine wpAny_done (by kernel_rfl) ?_ _
  have hzt : (s.extract 1 k).size = k - 1 := by simp; omega
  obtain ⟨t, ht⟩ : ∃ t, s.extract 1 k = t := ⟨_, rfl⟩
  have htz : t.size ≤ 65536 := by rw [← ht, hzt]; omega
  have hBB : Hid (Below w.heap.size w w7.drew.drew) := Lib.hid HB7.out.drew.drew
  obtain ⟨w8, hw8⟩ : ∃ w8, w7.drew.drew = w8 := ⟨_, rfl⟩
  rw [hw8] at hBB
  rw [hw8]
  have k1 : (1 : Int) ≤ (k : Int) := by omega
  have k2 : 1 ≤ k := by omega
  have k3 : (k : Int) ≤ s.size := by omega
  rw [ht]
  have HT := Lib.hid ht
  generalize hX : docF 96 t (t.size + 1) 0 [] = X
  have HX := Lib.hid hX
  have HXE : Hid (docF 96 (s.extract 1 k) ((s.extract 1 k).size + 1) 0 [] = X) := Lib.hid (by rw [ht]; exact hX)
  clear hX hw8 hzt HB7 hwd
  obtain ⟨i0, hi0, hz0, hz1, hz2⟩ := info_parts info8
  go_wp2_with fail
  go_loopw [4, 6] (fun ov av wr => ∃ (f i : Nat) (out : List Nat), av = .int .i64 i ∧ i ≤ t.size ∧ t.size < f + i ∧ X = docF 96 t f i out ∧ (∀ d ∈ out, d < 256) ∧ out.length ≤ 4 * i ∧ wr.ownsRow w.heap.size 5 1 ov out.length (u8s out) ∧ Below w.heap.size w wr) (fun _ av _ => t.size - (intOf av).toNat)
  case atStart => exact ⟨t.size + 1, 0, [], rfl, by omega, by omega, HX.out.symm, by simp, by simp, World.ownsRow_nil _ _ _ _, hBB.out⟩
  case round =>
    obtain ⟨f, i, out, rfl, hi, hf, he, ho, hol, hown, hbl⟩ := hrel
    obtain ⟨f, rfl⟩ : ∃ g, f = g + 1 := ⟨f - 1, by omega⟩
    have hst := doc_step 96 t f i out
    rw [← he] at hst
    have hwr : w.heap.size ≤ wr.heap.size := hbl.size
    have HBL := Lib.hid hbl
    have HO := Lib.hid hown
    have HOL := Lib.hid ho
    clear he hbl hown ho HX hBB
    by_cases hlt : i < t.size
    · rw [if_neg (by omega)] at hst
      have hltI : (i : Int) < t.size := by omega
      have hxi := str_byte t i hlt
      have hcl := byteN_lt t i
      obtain ⟨c, hc⟩ : ∃ c, byteN t i = c := ⟨_, rfl⟩
      rw [hc] at hst hxi hcl
      clear hc
      by_cases h96 : c = 96
      · subst h96
        rw [if_pos (.inl rfl)] at hst
        have HS := Lib.hid hst
        clear hst
        go_wp2_with fail
        go_ret2
        rw [HXE.out, HS.out]
        exact ⟨rfl, HBL.out⟩
      have j1 : ((c : Int) == 96) = false := by simp; omega
      rw [if_neg (by omega)] at hst
      by_cases h13 : c = 13
      · subst h13
        rw [if_pos ⟨rfl, rfl⟩] at hst
        have HS := Lib.hid hst
        clear hst
        go_wp2_with fail
        go_roundw
        case rel => exact ⟨f, i + 1, out, by go_num, by omega, by omega, HS.out, HOL.out, by omega, HO.out, HBL.out⟩
        case measure => simp [intOf]; omega
      · have j3 : ((c : Int) == 13) = false := by simp; omega
        rw [if_neg (by omega), if_neg (by omega)] at hst
        have HS := Lib.hid hst
        clear hst
        go_wp2_with (first
          | (at_builtin; refine wpList_append_own _ rfl _ _ 32 rfl w.heap.size 5 i0 (.int .u8 0) 1 1 Try.underlying32 hi0 hz0 hz1 hz2 rfl (by decide) _ _ _ rfl (HO.out.alloc _) ⟨wr.heap.size, 0, none⟩ 1 1 [.int .u8 (c : Int)] rfl rfl newsN ?c2 ?c3 ?c4 ?c5 ?_))
        case c2 => intro u hu; simp at hu; subst hu; rfl
        case c3 => unfold maxLen; omega
        case c4 => omega
        case c5 => simp; omega
        intro v' w1 hown' hgrow _
        have HO2 : Hid (w1.ownsRow w.heap.size 5 1 v' (out ++ [c]).length (u8s (out ++ [c]))) := Lib.hid (by simpa [u8s] using hown')
        have HB3 : Hid (Below w.heap.size w w1) := Lib.hid (append8_below HBL.out HO.out hwr hgrow)
        clear hown' hgrow
        have HOL2 : Hid (∀ d ∈ out ++ [c], d < 256) := Lib.hid (by intro x hx; rcases List.mem_append.1 hx with h | h; exact HOL.out x h; simp at h; omega)
        go_wp2_with fail
        go_roundw
        case rel => exact ⟨f, i + 1, out ++ [c], by go_num, by omega, by omega, HS.out, HOL2.out, by simp; omega, HO2.out, HB3.out⟩
        case measure => simp [intOf]; omega
    · rw [if_pos (by omega)] at hst
      have HS := Lib.hid hst
      clear hst
      obtain ⟨a, cc, rfl⟩ := row_slice HO.out
      have hcv := conv_at (row_bsl HO.out HOL.out) cc
      rw [bytesOf_size] at hcv
      go_wp2_with fail
      go_ret2
      rw [HXE.out, HS.out]
      exact ⟨rfl, HBL.out⟩
end Go.Proofs.Ytppnjliamfnlkaa
