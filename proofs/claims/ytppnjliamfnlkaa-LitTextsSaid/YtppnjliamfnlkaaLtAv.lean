import Derived.Test.YtppnjliamfnlkaaLtAt
import Derived.Test.YtppnjliamfnlkaaLtAu
import Derived.Test.YtppnjliamfnlkaaPlF1
namespace Go.Proofs.Ytppnjliamfnlkaa
open Go.RowKit
set_option linter.unusedSimpArgs false
set_option linter.unusedVariables false
set_option linter.unusedSectionVars false

/-! The document's Text: bytes that are text (MADE BY wip/gen_reftext.py). -/
def DocP (w : World) : Option (List Nat) → Ending → World → Prop
  | some l, e, w' => e = .returned (.tuple #[.string (bytesOf l), .int .i64 0]) ∧ Below w.heap.size w w'
  | none, e, w' => e = .returned (.tuple #[.string ⟨#[]⟩, .int .i64 4]) ∧ Below w.heap.size w w'
theorem partN_len {t : ByteArray} {a k : Nat} {l : List Nat} (h : partN t a = some (l, k)) : 1 ≤ l.length ∧ l.length ≤ 4 ∧ ∀ x ∈ l, x < 256 := by
  have h1 : ∀ v : Nat, v < 256 → 1 ≤ [v].length ∧ [v].length ≤ 4 ∧ ∀ x ∈ [v], x < 256 := by
    intro v hv
    refine ⟨by simp, by simp, ?_⟩
    intro x hx
    simp at hx; omega
  have h2 : ∀ v : Nat, 1 ≤ (runeN v).length ∧ (runeN v).length ≤ 4 ∧ ∀ x ∈ runeN v, x < 256 := fun v => ⟨runeN_pos v, (runeN_all v).1, (runeN_all v).2⟩
  unfold partN sgnN at h
  split at h
  · cases h
  split at h
  · rename_i hs; cases h; exact h1 _ (single_lt hs)
  split at h
  · split at h
    · cases h
    · rename_i hr; cases h; exact h1 _ (refVal_lt hr)
  split at h
  · split at h
    · cases h
    · split at h <;> cases h; exact h2 _
  split at h
  · split at h
    · cases h
    · split at h <;> cases h; exact h2 _
  split at h
  · cases h
  · split at h
    · rename_i hv; cases h; exact h1 _ hv
    · cases h
theorem part_news {w : World} {p : Option Addr} {t : ByteArray} {l : List Nat} (hl : t.data.toList.map UInt8.toNat = l) (h : BSl w p t) (hp : 1 ≤ l.length) (h8 : ∀ x ∈ l, x < 256) :
    ∃ ad, p = some ad ∧ ∀ j u, (u8s l)[j]? = some u → w.cell? (ad.add j) = some u := by
  subst hl
  rcases h with h0 | ⟨b, o, rfl, hb, _⟩
  · simp at hp; omega
  · refine ⟨_, rfl, ?_⟩
    intro j u hu
    have hj : j < t.size := by
      have := (List.getElem?_eq_some_iff.1 hu).1
      simpa [u8s] using this
    have hc := hb j hj
    have hjl : j < t.data.toList.length := by simpa using hj
    have : u = .int .u8 (byteN t j) := by
      simp only [u8s, List.getElem?_map, List.getElem?_eq_getElem hjl, Option.map_some, Option.some.injEq] at hu
      rw [← hu]
      simp [byteN, List.getD_eq_getElem?_getD, List.getElem?_eq_getElem hjl]
    rw [this]
    by_cases hj0 : j = 0
    · subst hj0; simpa [Addr.add] using hc
    · simpa [Addr.add, hj0] using hc
theorem refpart_none {t : ByteArray} {p : Nat} (hn : partN t p = none) (hs : t.size ≤ 100000000) (ha : p ≤ t.size) (w : World) :
    Calls Try.prog 26 #[.string t, .int .i64 p] w fun e w' => e = .returned (.tuple #[.slice none 0 0, .int .i64 0]) ∧ Below w.heap.size w w' := by
  have := refpart_any t p w hs ha
  rw [hn] at this; exact this
theorem refpart_some {t : ByteArray} {p kk m : Nat} {l : List Nat} (hn : partN t p = some (l, kk)) (hm : l.length = m) (hs : t.size ≤ 100000000) (ha : p ≤ t.size) (w : World) :
    Calls Try.prog 26 #[.string t, .int .i64 p] w fun e w' => (∃ ap cap tt, e = .returned (.tuple #[.slice ap m cap, .int .i64 (kk : Int)]) ∧ tt.data.toList.map UInt8.toNat = l ∧ BSl w' ap tt) ∧ Below w.heap.size w w' := by
  have := refpart_any t p w hs ha
  rw [hn] at this; rw [← hm]; exact this
theorem doc_step (q : Nat) (t : ByteArray) (f i : Nat) (out : List Nat) : docF q t (f + 1) i out =
    if t.size ≤ i then some out
    else if byteN t i = q ∨ (q = 34 ∧ byteN t i = 10) then none
    else if q = 96 ∧ byteN t i = 13 then docF q t f (i + 1) out
    else if q = 34 ∧ byteN t i = 92 then (match partN t (i + 1) with | none => none | some (l, k) => docF q t f (i + 1 + k) (out ++ l))
    else docF q t f (i + 1) (out ++ [byteN t i]) := by rw [docF]; rfl

set_option maxRecDepth 100000 in
set_option maxHeartbeats 3200000 in
theorem reftext_ok34 (s : ByteArray) (w : World) (hs : s.size ≤ 65536) (h : 2 ≤ s.size) (ha : byteN s 0 = 34) (hb : byteN s (s.size - 1) = 34) (hw : wrongF s < 0) :
    Calls Try.prog 14 #[.string s] w (DocP w (docF 34 (s.extract 1 (s.size - 1)) ((s.extract 1 (s.size - 1)).size + 1) 0 [])) := by
  have d1 : decide ((65536 : Int) < (s.size : Int)) = false := by simp; omega
  have d2 : decide (65536 < s.size) = false := by simp; omega
  have d3 : decide ((s.size : Int) < 2) = false := by simp; omega
  have d4 : decide (s.size < 2) = false := by simp; omega
  have hx0 := str_byte s 0 (by omega)
  obtain ⟨k, hk⟩ : ∃ k, s.size - 1 = k := ⟨_, rfl⟩
  have hkI : (s.size : Int) - 1 = (k : Int) := by omega
  have hk2 : k < s.size := by omega
  have hk3 : (k : Int) < s.size := by omega
  have hx1 := str_byte s k hk2
  have h00 : 0 < s.size := by omega
  have h00' : (0 : Int) < s.size := by omega
  have hk8 : IntKind.i64.wrap (k : Int) = k := IntWalk.i64_in _ (by omega)
  rw [hk] at hb
  rw [ha] at hx0
  rw [hb] at hx1
  rw [hk]
  clear hk
  have hcv := fun w => run_bytes_of_string (P := Try.prog) w 9 32 5 s Try.underlying9 Try.underlying32 Try.underlying5
  have hcv2 := hcv w.drew
  go_enter Try.func14, Try.ntmps14
  go_wp2_with fail
  refine wp_region_any (by kernel_rfl) ?_
  change wpAny _ _ _ _ _ _ _ (World.drew _)
  refine wpAny_take (i := 0) (v := .string s) rfl (by kernel_rfl) (by kernel_rfl) (by kernel_rfl) (fun _ _ _ h => h) (Or.inl ⟨by kernel_rfl, by intro w; go_simp⟩) ?_
  refine wpAny_take (i := 1) (v := .int .i64 s.size) rfl (by kernel_rfl) (by kernel_rfl) (by kernel_rfl) (fun _ _ _ h => h) (Or.inl ⟨by kernel_rfl, by intro w; go_simp⟩) ?_
  refine wpAny_take (i := 2) (v := .bool false) rfl (by kernel_rfl) (by kernel_rfl) (by kernel_rfl) (fun _ _ _ h => h) (Or.inl ⟨by kernel_rfl, by intro w; go_simp⟩) ?_
  refine wpAny_take (i := 3) (v := .bool false) rfl (by kernel_rfl) (by kernel_rfl) (by kernel_rfl) (fun _ _ _ h => h) (Or.inl ⟨by kernel_rfl, by intro w; go_simp⟩) ?_
  refine wpAny_take (i := 4) (v := .string s) rfl (by kernel_rfl) (by kernel_rfl) (by kernel_rfl) (fun _ _ _ h => h) (Or.inl ⟨by kernel_rfl, by intro w; go_simp⟩) ?_
  refine wpAny_take (i := 5) (v := .int .u8 34) rfl (by kernel_rfl) (by kernel_rfl) (by kernel_rfl) (fun _ _ _ h => h) (Or.inl ⟨by kernel_rfl, by intro w; go_simp⟩) ?_
  refine wpAny_take (i := 6) (v := .string s) rfl (by kernel_rfl) (by kernel_rfl) (by kernel_rfl) (fun _ _ _ h => h) (Or.inl ⟨by kernel_rfl, by intro w; go_simp⟩) ?_
  refine wpAny_take (i := 7) (v := .string s) rfl (by kernel_rfl) (by kernel_rfl) (by kernel_rfl) (fun _ _ _ h => h) (Or.inl ⟨by kernel_rfl, by intro w; go_simp⟩) ?_
  refine wpAny_take (i := 8) (v := .int .i64 s.size) rfl (by kernel_rfl) (by kernel_rfl) (by kernel_rfl) (fun _ _ _ h => h) (Or.inl ⟨by kernel_rfl, by intro w; go_simp⟩) ?_
  refine wpAny_take (i := 9) (v := .int .i64 k) rfl (by kernel_rfl) (by kernel_rfl) (by kernel_rfl) (fun _ _ _ h => h) (Or.inl ⟨by kernel_rfl, by intro w; go_simp⟩) ?_
  refine wpAny_take (i := 10) (v := .int .u8 34) rfl (by kernel_rfl) (by kernel_rfl) (by kernel_rfl) (fun _ _ _ h => h) (Or.inl ⟨by kernel_rfl, by intro w; go_simp⟩) ?_
  refine wpAny_take (i := 11) (v := .bool false) rfl (by kernel_rfl) (by kernel_rfl) (by kernel_rfl) (fun _ _ _ h => h) (Or.inl ⟨by kernel_rfl, by intro w; go_simp⟩) ?_
  refine wpAny_take (i := 12) (v := .bool false) rfl (by kernel_rfl) (by kernel_rfl) (by kernel_rfl) (fun _ _ _ h => h) (Or.inl ⟨by kernel_rfl, by intro w; go_simp⟩) ?_
  refine wpAny_take (i := 13) (v := .bool false) rfl (by kernel_rfl) (by kernel_rfl) (by kernel_rfl) (fun _ _ _ h => h) (Or.inl ⟨by kernel_rfl, by intro w; go_simp⟩) ?_
  refine wpAny_take (i := 14) (v := .string s) rfl (by kernel_rfl) (by kernel_rfl) (by kernel_rfl) (fun _ _ _ h => h) (Or.inl ⟨by kernel_rfl, by intro w; go_simp⟩) ?_
  refine wpAny_take (i := 15) (v := .int .u8 34) rfl (by kernel_rfl) (by kernel_rfl) (by kernel_rfl) (fun _ _ _ h => h) (Or.inl ⟨by kernel_rfl, by intro w; go_simp⟩) ?_
  refine wpAny_take (i := 16) (v := .bool false) rfl (by kernel_rfl) (by kernel_rfl) (by kernel_rfl) (fun _ _ _ h => h) (Or.inl ⟨by kernel_rfl, by intro w; go_simp⟩) ?_
  refine wpAny_take (i := 17) (v := .bool false) rfl (by kernel_rfl) (by kernel_rfl) (by kernel_rfl) (fun _ _ _ h => h) (Or.inl ⟨by kernel_rfl, by intro w; go_simp⟩) ?_
  refine wpAny_take (i := 18) (v := undef) rfl (by kernel_rfl) (by kernel_rfl) (by kernel_rfl) (fun _ _ _ h => h) (Or.inr ⟨by kernel_rfl, rfl⟩) ?_
  refine wpAny_take (i := 19) (v := undef) rfl (by kernel_rfl) (by kernel_rfl) (by kernel_rfl) (fun _ _ _ h => h) (Or.inr ⟨by kernel_rfl, rfl⟩) ?_
  refine wpAny_take (i := 20) (v := undef) rfl (by kernel_rfl) (by kernel_rfl) (by kernel_rfl) (fun _ _ _ h => h) (Or.inr ⟨by kernel_rfl, rfl⟩) ?_
  refine wpAny_take (i := 21) (v := .bool false) rfl (by kernel_rfl) (by kernel_rfl) (by kernel_rfl) (fun _ _ _ h => h) (Or.inl ⟨by kernel_rfl, by intro w; go_simp⟩) ?_
  refine wpAny_take (i := 22) (v := .bool false) rfl (by kernel_rfl) (by kernel_rfl) (by kernel_rfl) (fun _ _ _ h => h) (Or.inl ⟨by kernel_rfl, by intro w; go_simp⟩) ?_
  refine wpAny_take (i := 23) (v := .bool false) rfl (by kernel_rfl) (by kernel_rfl) (by kernel_rfl) (fun _ _ _ h => h) (Or.inl ⟨by kernel_rfl, by intro w; go_simp⟩) ?_
  refine wpAny_take (i := 24) (v := .string s) rfl (by kernel_rfl) (by kernel_rfl) (by kernel_rfl) (fun _ _ _ h => h) (Or.inl ⟨by kernel_rfl, by intro w; go_simp⟩) ?_
  refine wpAny_ready (rs := [25]) (by kernel_rfl) (by simp) ?_
  refine AllReady.cons rfl ?_ AllReady.nil
  intro K' hK
  rw [if_pos (by kernel_rfl)]
  go_simp
  have hge := grownCap_ge w.drew s.size 0 5
  generalize grownCap w.drew s.size 0 5 = gc at *
  have hbs := bytesRow_bsl s w gc hge ((bytesRow s gc).size, (bytesRow s gc).size + 1)
  have hb7 : Below w.heap.size w (w.alloc (.cells (bytesRow s gc) 5 ((bytesRow s gc).size, (bytesRow s gc).size + 1))) := (Below.refl _ _).alloc (Nat.le_refl _) _
  have HB7 := Lib.hid hb7
  generalize w.alloc (.cells (bytesRow s gc) 5 ((bytesRow s gc).size, (bytesRow s gc).size + 1)) = w7 at *
  have hwr := refWrong_any (some ⟨w.heap.size, 0, none⟩) gc s w7.drew.drew (bsl_drew (bsl_drew hbs)) (by omega)
  rw [← wrongF_eq] at hwr
  clear hbs hb7 hcv hcv2 hge
  generalize wrongF s = wf at *
  have hwd : decide (0 ≤ wf) = false := by simp; omega
  refine hK _ _ ?_
  refine wpAny_ready (rs := [26]) (by kernel_rfl) (by simp) ?_
  refine AllReady.cons rfl ?_ AllReady.nil
  intro K2 hK2
  rw [if_pos (by kernel_rfl)]
  go_simp
  go_at_call 25
  with_reducible refine Calls.mono hwr ?_
  rintro e w8 ⟨rfl, rfl⟩
  refine hK2 _ _ ?_
  refine wpAny_take (i := 27) (v := .bool false) rfl (by kernel_rfl) (by kernel_rfl) (by kernel_rfl) (fun _ _ _ h => h) (Or.inl ⟨by kernel_rfl, by intro w; go_simp⟩) ?_
  refine wpAny_take (i := 28) (v := .bool false) rfl (by kernel_rfl) (by kernel_rfl) (by kernel_rfl) (fun _ _ _ h => h) (Or.inl ⟨by kernel_rfl, by intro w; go_simp⟩) ?_
  refine wpAny_done (by kernel_rfl) ?_ _
  have hzt : (s.extract 1 k).size = k - 1 := by simp; omega
  obtain ⟨t, ht⟩ : ∃ t, s.extract 1 k = t := ⟨_, rfl⟩
  have htz : t.size ≤ 65536 := by rw [← ht, hzt]; omega
  have hBB : Hid (Below w.heap.size w w7.drew.drew) := Lib.hid HB7.out.drew.drew
  obtain ⟨w8, hw8⟩ : ∃ w8, w7.drew.drew = w8 := ⟨_, rfl⟩
  rw [hw8] at hBB
  rw [hw8]
  have k1 : (1 : Int) ≤ (k : Int) := by omega
  have k2 : 1 ≤ k := by omega
  have k3 : (k : Int) ≤ s.size := by omega
  rw [ht]
  have HT := Lib.hid ht
  generalize hX : docF 34 t (t.size + 1) 0 [] = X
  have HX := Lib.hid hX
  have HXE : Hid (docF 34 (s.extract 1 k) ((s.extract 1 k).size + 1) 0 [] = X) := Lib.hid (by rw [ht]; exact hX)
  clear hX hw8 hzt HB7 hwd
  obtain ⟨i0, hi0, hz0, hz1, hz2⟩ := info_parts info8
  go_wp2_with fail
  go_loopw [4, 6] (fun ov av wr => ∃ (f i : Nat) (out : List Nat), av = .int .i64 i ∧ i ≤ t.size ∧ t.size < f + i ∧ X = docF 34 t f i out ∧ (∀ d ∈ out, d < 256) ∧ out.length ≤ 4 * i ∧ wr.ownsRow w.heap.size 5 1 ov out.length (u8s out) ∧ Below w.heap.size w wr) (fun _ av _ => t.size - (intOf av).toNat)
  case atStart => exact ⟨t.size + 1, 0, [], rfl, by omega, by omega, HX.out.symm, by simp, by simp, World.ownsRow_nil _ _ _ _, hBB.out⟩
  case round =>
    obtain ⟨f, i, out, rfl, hi, hf, he, ho, hol, hown, hbl⟩ := hrel
    obtain ⟨f, rfl⟩ : ∃ g, f = g + 1 := ⟨f - 1, by omega⟩
    have hst := doc_step 34 t f i out
    rw [← he] at hst
    have hwr : w.heap.size ≤ wr.heap.size := hbl.size
    have HBL := Lib.hid hbl
    have HO := Lib.hid hown
    have HOL := Lib.hid ho
    clear he hbl hown ho HX hBB
    by_cases hlt : i < t.size
    · rw [if_neg (by omega)] at hst
      have hltI : (i : Int) < t.size := by omega
      have hxi := str_byte t i hlt
      have hcl := byteN_lt t i
      obtain ⟨c, hc⟩ : ∃ c, byteN t i = c := ⟨_, rfl⟩
      rw [hc] at hst hxi hcl
      clear hc
      by_cases h34 : c = 34
      · subst h34
        rw [if_pos (.inl rfl)] at hst
        have HS := Lib.hid hst
        clear hst
        go_wp2_with fail
        go_ret2
        rw [HXE.out, HS.out]
        exact ⟨rfl, HBL.out⟩
      have j1 : ((c : Int) == 34) = false := by simp; omega
      by_cases h10 : c = 10
      · subst h10
        rw [if_pos (.inr ⟨rfl, rfl⟩)] at hst
        have HS := Lib.hid hst
        clear hst
        go_wp2_with fail
        go_ret2
        rw [HXE.out, HS.out]
        exact ⟨rfl, HBL.out⟩
      have j2 : ((c : Int) == 10) = false := by simp; omega
      rw [if_neg (by omega), if_neg (by omega)] at hst
      by_cases h92 : c = 92
      · subst h92
        rw [if_pos ⟨rfl, rfl⟩] at hst
        obtain ⟨p, hp⟩ : ∃ p, i + 1 = p := ⟨_, rfl⟩
        have hpI : (i : Int) + 1 = (p : Int) := by omega
        rw [hp] at hst
        cases hpn : partN t p with
        | none =>
          rw [hpn] at hst
          have hpt := refpart_none hpn (by omega) (by omega)
          have HS := Lib.hid hst
          clear hst hpn hp
          go_wp2_with (go_at_call 26; with_reducible refine Calls.mono (hpt _) ?_; rintro e w2 ⟨rfl, hb⟩; have HB2 := Lib.hid hb; clear hb)
          go_ret2
          rw [HXE.out, HS.out]
          exact ⟨rfl, HBL.out.trans (HB2.out.mono hwr)⟩
        | some lk =>
          obtain ⟨l, kk⟩ := lk
          obtain ⟨b1, b2⟩ := partN_le (by omega) hpn
          obtain ⟨l1, l2, l3⟩ := partN_len hpn
          rw [hpn] at hst
          simp only at hst
          have HS := Lib.hid hst
          have HL3 := Lib.hid l3
          have hkz : ((kk : Int) == 0) = false := by rw [beq_eq_false_iff_ne]; omega
          have hkz2 : (kk == 0) = false := by rw [beq_eq_false_iff_ne]; omega
          obtain ⟨m, hm⟩ : ∃ m, l.length = m := ⟨_, rfl⟩
          have hpt := refpart_some hpn hm (by omega) (by omega)
          rw [hm] at l1 l2
          have HM := Lib.hid hm
          clear hst hpn hp l3
          go_wp2_with (first
            | (go_at_call 26; with_reducible refine Calls.mono (hpt _) ?_; rintro e w2 ⟨⟨ap, cap, tt, rfl, htt, hbs⟩, hb⟩
               have hO2 := row_over HO.out hb
               have HB2 := Lib.hid (HBL.out.trans (hb.mono hwr))
               have hw2 : w.heap.size ≤ w2.heap.size := Nat.le_trans hwr hb.size
               obtain ⟨ad, hap, hnews⟩ := part_news htt hbs (by rw [HM.out]; omega) HL3.out
               subst hap
               have HN := Lib.hid hnews
               have HO3 := Lib.hid hO2
               clear htt hbs hb hO2 hpt hnews)
            | (at_builtin; refine wpList_append_own _ rfl _ _ 32 rfl w.heap.size 5 i0 (.int .u8 0) 1 1 Try.underlying32 hi0 hz0 hz1 hz2 rfl (by decide) _ _ _ rfl HO3.out ad m cap (u8s l) rfl ?c1 HN.out ?c2 ?c3 ?c4 ?c5 ?_))
          case c1 => rw [u8s_len, HM.out, Nat.mul_one]
          case c2 => intro u hu; simp only [u8s, List.mem_map] at hu; obtain ⟨x, _, rfl⟩ := hu; rfl
          case c3 => unfold maxLen; omega
          case c4 => omega
          case c5 => omega
          intro v' w1 hown' hgrow _
          have HO2 : Hid (w1.ownsRow w.heap.size 5 1 v' (out ++ l).length (u8s (out ++ l))) := Lib.hid (by rw [List.length_append, HM.out]; simpa [u8s] using hown')
          have HB3 : Hid (Below w.heap.size w w1) := Lib.hid (HB2.out.grown hgrow hw2 (fun k hk => (HO3.out.lt k hk).1))
          clear hown' hgrow
          have HOL2 : Hid (∀ d ∈ out ++ l, d < 256) := Lib.hid (by intro x hx; rcases List.mem_append.1 hx with h | h; exact HOL.out x h; exact HL3.out x h)
          have HLN : Hid ((out ++ l).length = out.length + m) := Lib.hid (by rw [List.length_append, HM.out])
          go_wp2_with fail
          go_roundw
          case rel => exact ⟨f, p + kk, out ++ l, by go_num, by omega, by omega, HS.out, HOL2.out, by rw [HLN.out]; omega, HO2.out, HB3.out⟩
          case measure => simp [intOf]; omega
      · have j3 : ((c : Int) == 92) = false := by simp; omega
        rw [if_neg (by omega)] at hst
        have HS := Lib.hid hst
        clear hst
        go_wp2_with (first
          | (at_builtin; refine wpList_append_own _ rfl _ _ 32 rfl w.heap.size 5 i0 (.int .u8 0) 1 1 Try.underlying32 hi0 hz0 hz1 hz2 rfl (by decide) _ _ _ rfl (HO.out.alloc _) ⟨wr.heap.size, 0, none⟩ 1 1 [.int .u8 (c : Int)] rfl rfl newsN ?c2 ?c3 ?c4 ?c5 ?_))
        case c2 => intro u hu; simp at hu; subst hu; rfl
        case c3 => unfold maxLen; omega
        case c4 => omega
        case c5 => simp; omega
        intro v' w1 hown' hgrow _
        have HO2 : Hid (w1.ownsRow w.heap.size 5 1 v' (out ++ [c]).length (u8s (out ++ [c]))) := Lib.hid (by simpa [u8s] using hown')
        have HB3 : Hid (Below w.heap.size w w1) := Lib.hid (append8_below HBL.out HO.out hwr hgrow)
        clear hown' hgrow
        have HOL2 : Hid (∀ d ∈ out ++ [c], d < 256) := Lib.hid (by intro x hx; rcases List.mem_append.1 hx with h | h; exact HOL.out x h; simp at h; omega)
        go_wp2_with fail
        go_roundw
        case rel => exact ⟨f, i + 1, out ++ [c], by go_num, by omega, by omega, HS.out, HOL2.out, by simp; omega, HO2.out, HB3.out⟩
        case measure => simp [intOf]; omega
    · rw [if_pos (by omega)] at hst
      have HS := Lib.hid hst
      clear hst
      obtain ⟨a, cc, rfl⟩ := row_slice HO.out
      have hcv := conv_at (row_bsl HO.out HOL.out) cc
      rw [bytesOf_size] at hcv
      go_wp2_with fail
      go_ret2
      rw [HXE.out, HS.out]
      exact ⟨rfl, HBL.out⟩
end Go.Proofs.Ytppnjliamfnlkaa
