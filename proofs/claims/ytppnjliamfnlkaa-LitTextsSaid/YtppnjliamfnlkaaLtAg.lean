import Derived.Test.YtppnjliamfnlkaaLtP
import Derived.Lib.SliceRun
namespace Go.Proofs.Ytppnjliamfnlkaa
open Go.RowKit
set_option linter.unusedSimpArgs false
set_option linter.unusedVariables false
set_option linter.unusedSectionVars false

/-! slices.DeleteFunc at bytes, with the closure that asks for 13. -/
theorem cr_any (c : Nat) (w : World) :
    Calls Try.prog 35 #[.int .u8 c] w fun e w' => e = .returned (.bool (decide (c = 13))) ∧ w' = w := by
  by_cases h : c = 13
  · subst h
    go_enter Try.func35, Try.ntmps35
    go_wp2_with fail
    go_ret
    exact ⟨rfl, rfl⟩
  · have hd : ((c : Int) == 13) = false := by rw [beq_eq_false_iff_ne]; omega
    rw [show decide (c = 13) = false from by simpa using h]
    go_enter Try.func35, Try.ntmps35
    go_wp2_with fail
    go_ret
    exact ⟨rfl, rfl⟩
/-- Where the first 13 stands. -/
def firstCR (s : ByteArray) (x : Int) : Prop := (∃ k : Nat, x = k ∧ k < s.size ∧ byteN s k = 13 ∧ ∀ j, j < k → byteN s j ≠ 13) ∨ (x = -1 ∧ ∀ j, j < s.size → byteN s j ≠ 13)
set_option maxHeartbeats 3200000 in
theorem ifunc_any (b cap : Nat) (s : ByteArray) (w : World) (hb : BytesN w b 0 s) (hs : s.size ≤ 100000000) :
    Calls Try.prog 46 #[.slice (some ⟨b, 0, none⟩) s.size cap, .func (.func 35) #[] #[]] w fun e w' => (∃ x : Int, e = .returned (.int .i64 x) ∧ firstCR s x) ∧ w' = w := by
  have HB := Lib.hid hb
  clear hb
  go_enter Try.func46, Try.ntmps46
  go_wp2_with fail
  go_loopw [8] (fun iv wr => ∃ k : Nat, iv = .int .i64 k ∧ k ≤ s.size ∧ (∀ j, j < k → byteN s j ≠ 13) ∧ wr = w) (fun iv _ => s.size - (intOf iv).toNat)
  case atStart => exact ⟨0, rfl, by omega, by omega, rfl⟩
  case round =>
    obtain ⟨k, rfl, hk, hn, rfl⟩ := hrel
    have HN := Lib.hid hn
    clear hn
    by_cases hlt : k < s.size
    · have e0 : wr.cell? ⟨b, k, none⟩ = some (.int .u8 (byteN s k)) := by have := HB.out k hlt; rwa [Nat.zero_add] at this
      have hcr := fun w => cr_any (byteN s k) w
      by_cases h13 : byteN s k = 13
      · have HF : Hid (firstCR s (k : Int)) := Lib.hid (.inl ⟨k, rfl, hlt, h13, HN.out⟩)
        rw [h13] at e0 hcr
        rw [show decide (13 = 13) = true from rfl, show ((13 : Nat) : Int) = 13 from rfl] at hcr
        rw [show ((13 : Nat) : Int) = 13 from rfl] at e0
        clear h13
        go_wp2_with (go_at_call 35; with_reducible refine Calls.mono (hcr _) ?_; rintro e w3 ⟨rfl, hw3⟩; replace hw3 := hw3.symm; subst hw3)
        go_ret
        exact ⟨⟨_, rfl, HF.out⟩, rfl⟩
      · have HN2 : Hid (∀ j, j < k + 1 → byteN s j ≠ 13) := Lib.hid (by
          intro j hj
          by_cases hjk : j = k
          · subst hjk; exact h13
          · exact HN.out j (by omega))
        rw [show decide (byteN s k = 13) = false from by simpa using h13] at hcr
        clear h13
        generalize byteN s k = c at *
        go_wp2_with (go_at_call 35; with_reducible refine Calls.mono (hcr _) ?_; rintro e w3 ⟨rfl, hw3⟩; replace hw3 := hw3.symm; subst hw3)
        go_roundw
        case rel => exact ⟨k + 1, by go_num, by omega, HN2.out, by first | rfl | trivial⟩
        case measure => simp [intOf]; omega
    · have HF : Hid (firstCR s (-1)) := Lib.hid (.inr ⟨rfl, fun j hj => HN.out j (by omega)⟩)
      go_wp2_with fail
      go_ret
      exact ⟨⟨_, rfl, HF.out⟩, rfl⟩

def RowB (w : World) (b n : Nat) (f : Nat → Nat) : Prop := ∀ j, j < n → w.cell? ⟨b, j, none⟩ = some (.int .u8 (f j)) ∧ w.frozen? ⟨b, j, none⟩ = false
theorem RowB.set {w : World} {b n : Nat} {f : Nat → Nat} (h : RowB w b n f) (i v : Nat) (hi : i < n) : RowB (w.setCell ⟨b, i, none⟩ (.int .u8 v)) b n (fun j => if j = i then v else f j) := by
  have he : w.setCell ⟨b, i, none⟩ (.int .u8 v) = w.setCells b i [.int .u8 (v : Int)] := rfl
  rw [he]
  intro j hj
  refine ⟨?_, by rw [World.frozen?_setCells]; exact (h j hj).2⟩
  by_cases hji : j = i
  · subst hji
    simp only [if_true]
    have := World.cell?_setCells_in b [.int .u8 (v : Int)] j w (by
      intro t ht
      simp only [List.length_cons, List.length_nil] at ht
      obtain rfl : t = 0 := by omega
      rw [Nat.add_zero, (h j hj).1]; rfl) 0 (by simp)
    rw [Nat.add_zero] at this
    exact this
  · simp only [if_neg hji]
    rw [World.cell?_setCells_out b _ _ _ _ (fun _ _ => by simp only [List.length_cons, List.length_nil]; omega)]
    exact (h j hj).1
def FL (s : ByteArray) (j : Nat) : List Nat := ((bytesL s).take j).filter (· ≠ 13)
theorem bytesL_get (s : ByteArray) (j : Nat) (h : j < s.size) : (bytesL s)[j]? = some (byteN s j) := by
  have hk : j < s.data.toList.length := by simpa using h
  simp only [bytesL, List.getElem?_map, List.getElem?_eq_getElem hk, Option.map_some, byteN, List.getD_eq_getElem?_getD, Option.getD_some]
theorem FL_succ (s : ByteArray) (j : Nat) (h : j < s.size) : FL s (j + 1) = FL s j ++ (if byteN s j = 13 then [] else [byteN s j]) := by
  unfold FL
  rw [List.take_add_one, bytesL_get s j h, List.filter_append]
  congr 1
  by_cases h13 : byteN s j = 13
  · simp [h13]
  · simp [h13]
theorem FL_len (s : ByteArray) : ∀ j, j ≤ s.size → (FL s j).length ≤ j := by
  intro j hj
  unfold FL
  refine Nat.le_trans (List.length_filter_le _ _) ?_
  simp [bytesL_len]; omega
theorem FL_plain (s : ByteArray) : ∀ k, k ≤ s.size → (∀ j, j < k → byteN s j ≠ 13) → FL s k = (bytesL s).take k
  | 0, _, _ => by simp [FL]
  | k + 1, h, hn => by
    rw [FL_succ s k (by omega), FL_plain s k (by omega) (fun j hj => hn j (by omega)), if_neg (hn k (by omega)), List.take_add_one, bytesL_get s k (by omega)]
    rfl
theorem FL_all (s : ByteArray) : FL s s.size = (bytesL s).filter (· ≠ 13) := by
  unfold FL
  rw [List.take_of_length_le (by rw [bytesL_len]; omega)]
theorem FL_lt (s : ByteArray) (j : Nat) : ∀ x ∈ FL s j, x < 256 := fun x hx => bytesL_lt s x (List.mem_of_mem_take (List.mem_filter.1 hx).1)
theorem fl_bsl {w : World} {b n : Nat} {f : Nat → Nat} {l : List Nat} (h : RowB w b n f) (hl : l.length ≤ n) (hx : ∀ x ∈ l, x < 256) (hf : ∀ t, t < l.length → l[t]? = some (f t)) (hb : b < w.heap.size) : BSl w (some ⟨b, 0, none⟩) (bytesOf l) := by
  refine .inr ⟨b, 0, rfl, ?_, hb⟩
  intro i hi
  rw [bytesOf_size] at hi
  rw [Nat.zero_add, (h i (by omega)).1]
  have h1 := bytesOf_byte l hx i hi
  have h2 := hf i hi
  simp only [u8s, List.getElem?_map, h2, Option.map_some, Option.some.injEq] at h1
  rw [h1]

theorem byteN_13 (s : ByteArray) (j : Nat) (h : j < s.size) : byteN s j = 13 ↔ s.data.toList[j]? = some 13 := by
  have hk : j < s.data.toList.length := by simpa using h
  simp only [byteN, List.getD_eq_getElem?_getD, List.getElem?_eq_getElem hk, Option.getD_some, Option.some.injEq]
  rw [← UInt8.toNat_inj]; rfl
theorem firstCR_ex (s : ByteArray) : ∃ x, firstCR s x := by
  have hge := Lib.indexByte_ge s.data.toList 13
  by_cases h : Lib.indexByte s.data.toList 13 = -1
  · exact ⟨-1, .inr ⟨rfl, fun j hj h13 => Lib.indexByte_none h j ((byteN_13 s j hj).1 h13)⟩⟩
  · obtain ⟨k, hk⟩ : ∃ k : Nat, Lib.indexByte s.data.toList 13 = k := ⟨(Lib.indexByte s.data.toList 13).toNat, by omega⟩
    have h2 := Lib.indexByte_some hk
    have hlt : k < s.size := by simpa using ix_lt hk
    exact ⟨k, .inl ⟨k, rfl, hlt, (byteN_13 s k hlt).2 h2.1, fun j hj h13 => h2.2 j hj ((byteN_13 s j (by omega)).1 h13)⟩⟩
theorem firstCR_uniq {s : ByteArray} {x y : Int} (h : firstCR s x) (h' : firstCR s y) : x = y := by
  rcases h with ⟨k, rfl, k1, k2, k3⟩ | ⟨rfl, hn⟩
  · rcases h' with ⟨m, rfl, m1, m2, m3⟩ | ⟨rfl, hn⟩
    · by_cases h1 : k < m
      · exact absurd k2 (m3 k h1)
      · by_cases h2 : m < k
        · exact absurd m2 (k3 m h2)
        · omega
    · exact absurd k2 (hn k k1)
  · rcases h' with ⟨m, rfl, m1, m2, m3⟩ | ⟨rfl, hn'⟩
    · exact absurd m2 (hn m m1)
    · rfl

theorem Lib.below_setCells_w2 {B b : Nat} {a : World} (hb : B ≤ b) : ∀ {w : World} (_ : Below B a w) (vs : List Value) (o : Nat), Below B a (w.setCells b o vs)
  | w, h, [], o => h
  | w, h, v :: vs, o => Lib.below_setCells_w2 hb (h.setCell (p := ⟨b, o, none⟩) hb v) vs (o + 1)

set_option maxHeartbeats 6400000 in
theorem dfunc_any (b cap : Nat) (s : ByteArray) (w : World) (hr : RowB w b s.size (byteN s)) (hb : b < w.heap.size) (hs : s.size ≤ 100000000) (hcap : s.size ≤ cap) :
    Calls Try.prog 34 #[.slice (some ⟨b, 0, none⟩) s.size cap, .func (.func 35) #[] #[]] w fun e w' =>
      e = .returned (.slice (some ⟨b, 0, none⟩) (FL s s.size).length cap) ∧ BSl w' (some ⟨b, 0, none⟩) (bytesOf (FL s s.size)) ∧ Below b w w' := by
  have hif := ifunc_any b cap s w (fun i hi => by rw [Nat.zero_add]; exact (hr i hi).1) hs
  obtain ⟨x, hx⟩ := firstCR_ex s
  have hif2 : Calls Try.prog 46 #[.slice (some ⟨b, 0, none⟩) s.size cap, .func (.func 35) #[] #[]] w fun e w' => e = .returned (.int .i64 x) ∧ w' = w := by
    refine hif.mono ?_
    rintro e w' ⟨⟨y, rfl, hy⟩, rfl⟩
    exact ⟨by rw [firstCR_uniq hy hx], rfl⟩
  clear hif
  have HR := Lib.hid hr
  clear hr
  rcases (show _ ∨ _ from hx.symm) with ⟨rfl, hn⟩ | ⟨k, rfl, hk, h13, hn⟩
  · have hfl := FL_plain s s.size (Nat.le_refl _) hn
    rw [List.take_of_length_le (by rw [bytesL_len]; omega)] at hfl
    have HFL := Lib.hid hfl
    clear hfl hn
    go_enter Try.func34, Try.ntmps34
    go_wp2_with (go_at_call 46; with_reducible refine Calls.mono hif2 ?_; rintro e w2 ⟨rfl, hw2⟩; replace hw2 := hw2.symm; subst hw2; clear hif2)
    go_ret
    rw [HFL.out, bytesL_len]
    refine ⟨rfl, ?_, Below.refl _ _⟩
    exact fl_bsl HR.out (by rw [bytesL_len]; omega) (bytesL_lt s) (fun t ht => bytesL_get s t (by rwa [bytesL_len] at ht)) hb
  · have HH : Hid (byteN s k = 13 ∧ ∀ j, j < k → byteN s j ≠ 13) := Lib.hid ⟨h13, hn⟩
    clear h13 hn
    have hkm : ((k : Int) == -1) = false := by rw [beq_eq_false_iff_ne]; omega
    go_enter Try.func34, Try.ntmps34
    go_wp2_with (go_at_call 46; with_reducible refine Calls.mono hif2 ?_; rintro e w2 ⟨rfl, hw2⟩; replace hw2 := hw2.symm; subst hw2; clear hif2)
    have h13 := HH.out.1
    have hn := HH.out.2
    have HFL : Hid (FL s (k + 1) = (bytesL s).take k) := Lib.hid (by rw [FL_succ s k hk, if_pos h13, List.append_nil, FL_plain s k (by omega) hn])
    have hfll : ((bytesL s).take k).length = k := by simp [bytesL_len]; omega
    clear h13 hn hkm
    go_loopw [5, 6, 7] (fun iv jv _ wr => ∃ (i j : Nat) (f : Nat → Nat), iv = .int .i64 i ∧ jv = .int .i64 j ∧ i < j ∧ j ≤ s.size ∧ i = (FL s j).length ∧ RowB wr b s.size f ∧ (∀ t, t < i → (FL s j)[t]? = some (f t)) ∧ (∀ t, j ≤ t → t < s.size → f t = byteN s t) ∧ Below b w wr ∧ b < wr.heap.size) (fun _ jv _ _ => s.size - (intOf jv).toNat)
    case atStart =>
      refine ⟨k, k + 1, byteN s, rfl, rfl, by omega, by omega, by rw [HFL.out, hfll], HR.out, ?_, fun _ _ _ => rfl, Below.refl _ _, hb⟩
      intro t ht
      rw [HFL.out, List.getElem?_take, if_pos ht]
      exact bytesL_get s t (by omega)
    case round =>
      obtain ⟨i, j, f, rfl, rfl, hij, hj, hi, hrow, hf1, hf2, hbl, hbs⟩ := hrel
      have HROW := Lib.hid hrow
      have HF1 := Lib.hid hf1
      have HF2 := Lib.hid hf2
      have HBL := Lib.hid hbl
      have HI := Lib.hid hi
      clear hrow hf1 hf2 hbl HFL hfll HR hi
      by_cases hlt : j < s.size
      · have hfj := HF2.out j (Nat.le_refl _) hlt
        have e0 : wr.cell? ⟨b, j, none⟩ = some (.int .u8 (byteN s j)) := by rw [(HROW.out j hlt).1, hfj]
        have e1 : wr.cell? ⟨b, i, none⟩ = some (.int .u8 (f i)) := (HROW.out i (by omega)).1
        have e2 : wr.frozen? ⟨b, i, none⟩ = false := (HROW.out i (by omega)).2
        have hcr := fun w => cr_any (byteN s j) w
        have hil : i < s.size := by omega
        have hils : (i : Int) < s.size := by omega
        by_cases h13 : byteN s j = 13
        · have HFN : Hid (FL s (j + 1) = FL s j) := Lib.hid (by rw [FL_succ s j hlt, if_pos h13, List.append_nil])
          rw [h13] at e0 hcr
          rw [show decide (13 = 13) = true from rfl, show ((13 : Nat) : Int) = 13 from rfl] at hcr
          rw [show ((13 : Nat) : Int) = 13 from rfl] at e0
          clear h13 hfj e1 e2
          go_wp2_with (go_at_call 35; with_reducible refine Calls.mono (hcr _) ?_; rintro e w3 ⟨rfl, hw3⟩; replace hw3 := hw3.symm; subst hw3)
          go_roundw
          case rel => exact ⟨i, j + 1, f, rfl, by go_num, by omega, by omega, by rw [HFN.out]; exact HI.out, HROW.out, by rw [HFN.out]; exact HF1.out, fun t h1 h2 => HF2.out t (by omega) h2, HBL.out, hbs⟩
          case measure => simp [intOf]; omega
        · have HFN : Hid (FL s (j + 1) = FL s j ++ [byteN s j]) := Lib.hid (by rw [FL_succ s j hlt, if_neg h13])
          rw [show decide (byteN s j = 13) = false from by simpa using h13] at hcr
          have HRN := Lib.hid (HROW.out.set i (byteN s j) hil)
          clear h13 hfj
          have HEV : Hid (∃ v, byteN s j = v) := Lib.hid ⟨_, rfl⟩
          generalize hv : byteN s j = v at e0 hcr HFN HRN
          have HV := Lib.hid hv
          clear hv
          go_wp2_with (go_at_call 35; with_reducible refine Calls.mono (hcr _) ?_; rintro e w3 ⟨rfl, hw3⟩; replace hw3 := hw3.symm; subst hw3)
          go_roundw
          case rel =>
            refine ⟨i + 1, j + 1, _, by go_num, by go_num, by omega, by omega, by rw [HFN.out, List.length_append, ← HI.out]; rfl, HRN.out, ?_, ?_, HBL.out.setCell (p := ⟨b, i, none⟩) (Nat.le_refl _) _, by simpa using hbs⟩
            · intro t ht
              rw [HFN.out]
              by_cases hti : t = i
              · subst hti
                simp only [if_true]
                rw [List.getElem?_append_right (by rw [← HI.out]; omega), ← HI.out, Nat.sub_self]; rfl
              · simp only [if_neg hti]
                rw [List.getElem?_append_left (by rw [← HI.out]; omega)]
                exact HF1.out t (by omega)
            · intro t h1 h2
              simp only [if_neg (show ¬ t = i by omega)]
              exact HF2.out t (by omega) h2
          case measure => simp [intOf]; omega
      · obtain rfl : j = s.size := by omega
        have hclr := Lib.run_clear_slice (P := Try.prog) wr 32 5 0 (.int .u8 0) Try.underlying32 (fun _ => by kernel_rfl) rfl rfl b i (s.size - i) (cap - i) (by omega) (fun t ht => by rw [(HROW.out (i + t) (by omega)).1]; rfl) (fun t ht => (HROW.out (i + t) (by omega)).2)
        have hsi : (s.size : Int) - (i : Int) = ((s.size - i : Nat) : Int) := by omega
        have hic : i ≤ cap := by omega
        have hisz : i ≤ s.size := by omega
        have hicI : (i : Int) ≤ cap := by omega
        have hisI : (i : Int) ≤ s.size := by omega
        go_wp2_with fail
        go_ret
        have hrow2 : RowB (wr.setCells b i (List.replicate (s.size - i) (.int .u8 0))) b i f := by
          intro t ht
          refine ⟨?_, by rw [World.frozen?_setCells]; exact (HROW.out t (by omega)).2⟩
          rw [World.cell?_setCells_out b _ _ _ _ (fun _ _ => .inl ht)]
          exact (HROW.out t (by omega)).1
        have hbel : Below b w (wr.setCells b i (List.replicate (s.size - i) (.int .u8 0))) := Lib.below_setCells_w2 (Nat.le_refl b) HBL.out _ _
        refine ⟨by rw [← HI.out]; rfl, ?_, hbel⟩
        exact fl_bsl hrow2 (by rw [← HI.out]; omega) (FL_lt s _) (fun t ht => HF1.out t (by rw [HI.out]; exact ht)) (Nat.lt_of_lt_of_le hb hbel.size)
end Go.Proofs.Ytppnjliamfnlkaa
