import Derived.Test.YtjgpopjnmonlkaaGreatDoorVrA
import Derived.Test.YtjgpopjnmonlkaaGreatDoorShelf
import Derived.Test.YtjgpopjnmonlkaaGreatDoorReg
namespace Go.Proofs.YtjgpopjnmonlkaaGreatDoor
open Go.RowKit Go.Shelf
set_option linter.unusedSimpArgs false
set_option linter.unusedVariables false
set_option linter.unusedSectionVars false

/-! Layer 4: a version's minor. -/
/-- What start-up has laid, as far as versions ask for it. -/
def EnvV (w : World) : Prop := (∃ tp p, w.var? Tryz.prog "strconv.ErrSyntax" = some #[.iface tp p]) ∧ (∃ tp p, w.var? Tryz.prog "strconv.ErrRange" = some #[.iface tp p]) ∧ (∃ m, w.cell? ⟨0, 0, none⟩ = some (.int .i64 m)) ∧ 8 ≤ w.heap.size
theorem var_below {w w' : World} {name : String} {v : Array Value} {g : Nat} (hg : Tryz.prog.globalNamed name = some g) (hb : w'.heap[g]? = w.heap[g]?) (h : w.var? Tryz.prog name = some v) : w'.var? Tryz.prog name = some v := by
  unfold World.var? at h ⊢
  rw [hg] at h ⊢
  simp only [Option.bind_some] at h ⊢
  rw [hb]
  exact h
theorem EnvV.keeps {S : Nat → Prop} {w w' : World} (h : EnvV w) (hk : Keeps S w w') (hS : ∀ k, S k → 8 ≤ k) : EnvV w' := by
  obtain ⟨⟨t1, p1, h1⟩, ⟨t2, p2, h2⟩, ⟨m, h3⟩, h4⟩ := h
  have hb : ∀ g, g < 8 → w'.heap[g]? = w.heap[g]? := fun g hg => hk.block g (by omega) (fun e => by have := hS _ e; omega)
  refine ⟨⟨t1, p1, var_below (g := 1) (by kernel_rfl) (hb _ (by decide)) h1⟩, ⟨t2, p2, var_below (g := 2) (by kernel_rfl) (hb _ (by decide)) h2⟩, ⟨m, ?_⟩, Nat.le_trans h4 hk.size⟩
  rw [← h3]
  unfold World.cell?
  rw [hb _ (by decide)]
theorem EnvV.below {B : Nat} {w w' : World} (h : EnvV w) (hb : Below B w w') (hB : 8 ≤ B) : EnvV w' :=
  h.keeps (S := fun k => B ≤ k) ⟨hb.os, hb.tape, hb.output, hb.size, fun k hk hs => hb.block k (by omega)⟩ (fun k hk => by omega)
/-- strconv.Atoi, whatever the text: its number, or an error that is not nil. -/
def AtoiP (s : ByteArray) (e : Ending) : Prop := (∃ v, Lib.atoiAll s.data.toList = .ok v ∧ e = .returned (.tuple #[.int .i64 v, .nilIface])) ∨
  ((∀ v, Lib.atoiAll s.data.toList ≠ .ok v) ∧ ∃ (v : Int) (t : TypeId) (p : Addr), e = .returned (.tuple #[.int .i64 v, .iface t (.pointer (some p))]))
theorem atoi_v (s : ByteArray) (w : World) (hs : s.size ≤ 100000000) (hE : EnvV w) :
    Calls Tryz.prog 62 #[.string s] w fun e w' => AtoiP s e ∧ Below w.heap.size w w' := by
  obtain ⟨⟨t1, p1, h1⟩, ⟨t2, p2, h2⟩, _, _⟩ := hE
  cases h : Lib.atoiAll s.data.toList
  case ok v =>
    refine (Tryz.strconv_Atoi_ok s (by omega) v h w).mono ?_
    rintro e w' ⟨rfl, hw⟩
    refine ⟨.inl ⟨v, h, rfl⟩, ?_⟩
    rcases hw with rfl | ⟨t, rfl⟩
    · exact Below.refl _ _
    · exact Lib.bytesWorld_below _ _ _
  case range =>
    refine (Tryz.strconv_Atoi_range_var s (by omega) h t2 p2 w h2).mono ?_
    rintro e w' ⟨N, rfl, _, _, hb⟩
    exact ⟨.inr ⟨fun v hv => (by rw [h] at hv; cases hv), _, _, _, rfl⟩, hb⟩
  case _ =>
    refine (Tryz.strconv_Atoi_syntax_var s (by omega) h t1 p1 w h1).mono ?_
    rintro e w' ⟨N, rfl, _, _, hb⟩
    exact ⟨.inr ⟨fun v hv => (by rw [h] at hv; cases hv), _, _, _, rfl⟩, hb⟩

/-- May it stand behind a version's minor? -/
def digV (t : ByteArray) : Bool := decide (t.size ≠ 0) && allV t figV (t.size + 1) 0
def leadV (t p : ByteArray) : ByteArray := ⟨(Lib.trimPrefix t.data.toList p.data.toList).toArray⟩
def hasV (t p : ByteArray) : Bool := Lib.hasPrefix t.data.toList p.data.toList
def endV (t : ByteArray) : Bool :=
  if t.size = 0 then true
  else if hasV t ⟨#[46]⟩ then digV (leadV t ⟨#[46]⟩)
  else if hasV t ⟨#[114, 99]⟩ then digV (leadV t ⟨#[114, 99]⟩)
  else if hasV t ⟨#[98, 101, 116, 97]⟩ then digV (leadV t ⟨#[98, 101, 116, 97]⟩)
  else false
theorem cutp (s p : ByteArray) (w : World) : Calls Tryz.prog 47 #[.string s, .string p] w fun e w' => e = .returned (.tuple #[.string (leadV s p), .bool (hasV s p)]) ∧ w' = w := Tryz.strings_CutPrefix s p w
theorem lead_size (t p : ByteArray) : (leadV t p).size ≤ t.size := by
  have : (leadV t p).size = (Lib.trimPrefix t.data.toList p.data.toList).length := by simp [leadV, ByteArray.size]
  rw [this]
  unfold Lib.trimPrefix
  split <;> simp
theorem empty_list (t : ByteArray) (h : t.size = 0) : (t.toList == []) = true := by
  rw [Lib.toList_data, beq_iff_eq]
  exact List.eq_nil_of_length_eq_zero (by simpa using h)
theorem full_list (t : ByteArray) (h : t.size ≠ 0) : (t.toList == []) = false := by
  rw [Lib.toList_data, beq_eq_false_iff_ne]
  intro e
  apply h
  have := congrArg List.length e
  simpa using this
theorem figk : ∀ args (w : World), (callFunc 60 args).run Tryz.prog w = .ok (.enter 60 args) w := enters_of Tryz.func60 (by kernel_rfl) rfl
theorem lead0 (w : World) : (Instr.index 95 (.agg #[.string ⟨#[46]⟩, .string ⟨#[114, 99]⟩, .string ⟨#[98, 101, 116, 97]⟩]) (.int .i64 0)).run Tryz.prog w = .ok (.string ⟨#[46]⟩) w := by kernel_rfl
theorem lead1 (w : World) : (Instr.index 95 (.agg #[.string ⟨#[46]⟩, .string ⟨#[114, 99]⟩, .string ⟨#[98, 101, 116, 97]⟩]) (.int .i64 1)).run Tryz.prog w = .ok (.string ⟨#[114, 99]⟩) w := by kernel_rfl
theorem lead2 (w : World) : (Instr.index 95 (.agg #[.string ⟨#[46]⟩, .string ⟨#[114, 99]⟩, .string ⟨#[98, 101, 116, 97]⟩]) (.int .i64 2)).run Tryz.prog w = .ok (.string ⟨#[98, 101, 116, 97]⟩) w := by kernel_rfl
set_option maxRecDepth 100000 in
set_option maxHeartbeats 3200000 in
theorem ending_v (t : ByteArray) (w : World) (hs : t.size ≤ 100000000) :
    Calls Tryz.prog 64 #[.string t] w fun e w' => e = .returned (.bool (endV t)) ∧ Below w.heap.size w w' := by
  by_cases h0 : t.size = 0
  · have he : endV t = true := by unfold endV; rw [if_pos h0]
    have hl := empty_list t h0
    rw [he]
    clear he h0
    go_enter Tryz.func64, Tryz.ntmps64
    go_wp2_with fail
    go_ret
    exact ⟨rfl, Below.refl _ _⟩
  have hl := full_list t h0
  have HE : Hid (endV t = if hasV t ⟨#[46]⟩ then digV (leadV t ⟨#[46]⟩)
    else if hasV t ⟨#[114, 99]⟩ then digV (leadV t ⟨#[114, 99]⟩) else if hasV t ⟨#[98, 101, 116, 97]⟩ then digV (leadV t ⟨#[98, 101, 116, 97]⟩) else false) := Lib.hid (by unfold endV; rw [if_neg h0])
  have hc := fun p w => cutp t p w
  have hz := fun p => lead_size t p
  have hdig : ∀ p, Hid (digV (leadV t p) = (decide ((leadV t p).size ≠ 0) && allV (leadV t p) figV ((leadV t p).size + 1) 0)) := fun p => Lib.hid rfl
  generalize hasV t = hv at *
  generalize leadV t = lv at *
  clear h0
  go_enter Tryz.func64, Tryz.ntmps64
  go_wp2_with fail
  go_loopw [2, 10] (fun vb vi wr => ∃ k : Nat, vb = .bool false ∧ vi = .int .i64 k ∧ k ≤ 3 ∧ w = wr ∧ (1 ≤ k → hv ⟨#[46]⟩ = false) ∧ (2 ≤ k → hv ⟨#[114, 99]⟩ = false) ∧ (3 ≤ k → hv ⟨#[98, 101, 116, 97]⟩ = false)) (fun _ vi _ => 3 - (intOf vi).toNat)
  case atStart => exact ⟨0, rfl, rfl, by omega, rfl, by omega, by omega, by omega⟩
  case round =>
    obtain ⟨k, rfl, rfl, hk, rfl, n0, n1, n2⟩ := hrel
    have hkk : k = 0 ∨ k = 1 ∨ k = 2 ∨ k = 3 := by omega
    rcases hkk with rfl | rfl | rfl | rfl
    · have hix := lead0
      have hcp := hc ⟨#[46]⟩
      have hzz := hz ⟨#[46]⟩
      have HD := hdig ⟨#[46]⟩
      cases hh : hv ⟨#[46]⟩ with
      | true =>
        rw [hh] at hcp
        have HV : Hid (endV t = digV (lv ⟨#[46]⟩)) := Lib.hid (by rw [HE.out, hh, if_pos rfl])
        generalize lv ⟨#[46]⟩ = x at *
        by_cases hx : x.size = 0
        · have HX : Hid (digV x = false) := Lib.hid (by rw [HD.out, hx]; rfl)
          obtain rfl : x = ⟨#[]⟩ := ByteArray.ext (Array.eq_empty_of_size_eq_zero hx)
          clear hx n0 n1 n2 hc hz hdig HD
          go_wp2_with (go_at_call 47; with_reducible refine Calls.mono (hcp _) ?_; rintro e w2 ⟨rfl, hw2⟩; replace hw2 := hw2.symm; subst hw2)
          refine bodyPost_ret (v := .bool false) ?_ rfl ⟨by rw [HV.out, HX.out], Below.refl _ _⟩
          simp [results, Tryz.results64, go_sem]
        · have hl3 : ¬ x.toList = [] := by have := full_list x hx; simpa using this
          have hl2 : x.toList.isEmpty = false := by cases hq : x.toList with | nil => exact absurd hq hl3 | cons a l => rfl
          have HX : Hid (digV x = allV x figV (x.size + 1) 0) := Lib.hid (by rw [HD.out, decide_eq_true hx]; rfl)
          have hall := fun w => all_v figV 60 x w (by omega) figk figure_v
          generalize allV x figV (x.size + 1) 0 = b at hall HX
          clear hx n0 n1 n2 hc hz hdig HD
          go_wp2_with (first
            | (go_at_call 47; with_reducible refine Calls.mono (hcp _) ?_; rintro e w2 ⟨rfl, hw2⟩; replace hw2 := hw2.symm; subst hw2)
            | (go_at_call 79; with_reducible refine Calls.mono (hall _) ?_; rintro e w3 ⟨rfl, hb3⟩; have HB3 := Lib.hid hb3; clear hb3))
          refine bodyPost_ret (v := .bool b) ?_ rfl ⟨by rw [HV.out, HX.out], HB3.out⟩
          simp [results, Tryz.results64, go_sem]
      | false =>
        rw [hh] at hcp
        go_wp2_with (go_at_call 47; with_reducible refine Calls.mono (hcp _) ?_; rintro e w2 ⟨rfl, hw2⟩; replace hw2 := hw2.symm; subst hw2)
        go_roundw
        case rel => exact ⟨1, by simp_all⟩
        case measure => simp [intOf]
    · have hix := lead1
      have hcp := hc ⟨#[114, 99]⟩
      have hzz := hz ⟨#[114, 99]⟩
      have HD := hdig ⟨#[114, 99]⟩
      cases hh : hv ⟨#[114, 99]⟩ with
      | true =>
        rw [hh] at hcp
        have HV : Hid (endV t = digV (lv ⟨#[114, 99]⟩)) := Lib.hid (by rw [HE.out, n0 (by omega), if_neg (by decide), hh, if_pos rfl])
        generalize lv ⟨#[114, 99]⟩ = x at *
        by_cases hx : x.size = 0
        · have HX : Hid (digV x = false) := Lib.hid (by rw [HD.out, hx]; rfl)
          obtain rfl : x = ⟨#[]⟩ := ByteArray.ext (Array.eq_empty_of_size_eq_zero hx)
          clear hx n0 n1 n2 hc hz hdig HD
          go_wp2_with (go_at_call 47; with_reducible refine Calls.mono (hcp _) ?_; rintro e w2 ⟨rfl, hw2⟩; replace hw2 := hw2.symm; subst hw2)
          refine bodyPost_ret (v := .bool false) ?_ rfl ⟨by rw [HV.out, HX.out], Below.refl _ _⟩
          simp [results, Tryz.results64, go_sem]
        · have hl3 : ¬ x.toList = [] := by have := full_list x hx; simpa using this
          have hl2 : x.toList.isEmpty = false := by cases hq : x.toList with | nil => exact absurd hq hl3 | cons a l => rfl
          have HX : Hid (digV x = allV x figV (x.size + 1) 0) := Lib.hid (by rw [HD.out, decide_eq_true hx]; rfl)
          have hall := fun w => all_v figV 60 x w (by omega) figk figure_v
          generalize allV x figV (x.size + 1) 0 = b at hall HX
          clear hx n0 n1 n2 hc hz hdig HD
          go_wp2_with (first
            | (go_at_call 47; with_reducible refine Calls.mono (hcp _) ?_; rintro e w2 ⟨rfl, hw2⟩; replace hw2 := hw2.symm; subst hw2)
            | (go_at_call 79; with_reducible refine Calls.mono (hall _) ?_; rintro e w3 ⟨rfl, hb3⟩; have HB3 := Lib.hid hb3; clear hb3))
          refine bodyPost_ret (v := .bool b) ?_ rfl ⟨by rw [HV.out, HX.out], HB3.out⟩
          simp [results, Tryz.results64, go_sem]
      | false =>
        rw [hh] at hcp
        go_wp2_with (go_at_call 47; with_reducible refine Calls.mono (hcp _) ?_; rintro e w2 ⟨rfl, hw2⟩; replace hw2 := hw2.symm; subst hw2)
        go_roundw
        case rel => exact ⟨2, by simp_all⟩
        case measure => simp [intOf]
    · have hix := lead2
      have hcp := hc ⟨#[98, 101, 116, 97]⟩
      have hzz := hz ⟨#[98, 101, 116, 97]⟩
      have HD := hdig ⟨#[98, 101, 116, 97]⟩
      cases hh : hv ⟨#[98, 101, 116, 97]⟩ with
      | true =>
        rw [hh] at hcp
        have HV : Hid (endV t = digV (lv ⟨#[98, 101, 116, 97]⟩)) := Lib.hid (by rw [HE.out, n0 (by omega), if_neg (by decide), n1 (by omega), if_neg (by decide), hh, if_pos rfl])
        generalize lv ⟨#[98, 101, 116, 97]⟩ = x at *
        by_cases hx : x.size = 0
        · have HX : Hid (digV x = false) := Lib.hid (by rw [HD.out, hx]; rfl)
          obtain rfl : x = ⟨#[]⟩ := ByteArray.ext (Array.eq_empty_of_size_eq_zero hx)
          clear hx n0 n1 n2 hc hz hdig HD
          go_wp2_with (go_at_call 47; with_reducible refine Calls.mono (hcp _) ?_; rintro e w2 ⟨rfl, hw2⟩; replace hw2 := hw2.symm; subst hw2)
          refine bodyPost_ret (v := .bool false) ?_ rfl ⟨by rw [HV.out, HX.out], Below.refl _ _⟩
          simp [results, Tryz.results64, go_sem]
        · have hl3 : ¬ x.toList = [] := by have := full_list x hx; simpa using this
          have hl2 : x.toList.isEmpty = false := by cases hq : x.toList with | nil => exact absurd hq hl3 | cons a l => rfl
          have HX : Hid (digV x = allV x figV (x.size + 1) 0) := Lib.hid (by rw [HD.out, decide_eq_true hx]; rfl)
          have hall := fun w => all_v figV 60 x w (by omega) figk figure_v
          generalize allV x figV (x.size + 1) 0 = b at hall HX
          clear hx n0 n1 n2 hc hz hdig HD
          go_wp2_with (first
            | (go_at_call 47; with_reducible refine Calls.mono (hcp _) ?_; rintro e w2 ⟨rfl, hw2⟩; replace hw2 := hw2.symm; subst hw2)
            | (go_at_call 79; with_reducible refine Calls.mono (hall _) ?_; rintro e w3 ⟨rfl, hb3⟩; have HB3 := Lib.hid hb3; clear hb3))
          refine bodyPost_ret (v := .bool b) ?_ rfl ⟨by rw [HV.out, HX.out], HB3.out⟩
          simp [results, Tryz.results64, go_sem]
      | false =>
        rw [hh] at hcp
        go_wp2_with (go_at_call 47; with_reducible refine Calls.mono (hcp _) ?_; rintro e w2 ⟨rfl, hw2⟩; replace hw2 := hw2.symm; subst hw2)
        go_roundw
        case rel => exact ⟨3, by simp_all⟩
        case measure => simp [intOf]
    · have HV : Hid (endV t = false) := Lib.hid (by rw [HE.out, n0 (by omega), n1 (by omega), n2 (by omega), if_neg (by decide), if_neg (by decide), if_neg (by decide)])
      clear n0 n1 n2 hc hz hdig
      go_wp2_with fail
      go_ret
      exact ⟨by rw [HV.out]; rfl, Below.refl _ _⟩
end Go.Proofs.YtjgpopjnmonlkaaGreatDoor
