import Derived.Test.YtjgpopjnmonlkaaGreatDoorTgCb
namespace Go.Proofs.YtjgpopjnmonlkaaGreatDoor
open Go.RowKit Go.Shelf
set_option linter.unusedSimpArgs false
set_option linter.unusedVariables false
set_option linter.unusedSectionVars false

/-! Layer 5: the document's Version. -/
def goOne (k : Nat) : ByteArray := ⟨([103, 111, 49, 46] ++ Lib.decDigits k).toArray⟩
theorem rel_go : ∀ k : Fin 100, relF (goOne k) = (k : Nat) := by decide +kernel
theorem rel_shape (t : ByteArray) (h : relF t ≠ -1) : ∃ k, k ≤ 99 ∧ t = goOne k := by
  unfold relF at h
  split at h
  · rename_i hh
    obtain ⟨h1, h2, h3⟩ := hh
    cases hW : minorW (leadV t goB) with
    | none => unfold minorE at h2; rw [hW] at h2; cases h2
    | some v =>
      have hv : v ≤ 99 := by
        unfold minorW at hW
        split at hW
        · split at hW
          · rename_i hc
            have := Option.some.inj hW
            have := hc.2.1
            omega
          · cases hW
        · cases hW
      refine ⟨v, hv, ?_⟩
      have hI : minorI (leadV t goB) = (v : Int) := by unfold minorI; rw [hW]
      rw [hI] at h3
      unfold textF at h3
      rw [if_neg (by omega), Int.toNat_natCast] at h3
      have h4 : t.data.toList = [103, 111] ++ (leadV t goB).data.toList := by
        unfold hasV Lib.hasPrefix at h1
        have h5 := List.isPrefixOf_iff_prefix.mp h1
        obtain ⟨r, hr⟩ := h5
        have h6 : (leadV t goB).data.toList = r := by
          show Lib.trimPrefix t.data.toList goB.data.toList = r
          unfold Lib.trimPrefix Lib.hasPrefix
          rw [if_pos h1, ← hr, List.drop_left]
        rw [h6, ← hr]
        rfl
      apply ByteArray.ext
      apply Array.toList_inj.1
      rw [h4, ← h3, app_listC]
      rfl
  · exact absurd rfl h
where app_listC (a b : ByteArray) : (a ++ b).data.toList = a.data.toList ++ b.data.toList := by rw [ByteArray.data_append, Array.toList_append]
theorem rel_no (t : ByteArray) (h : ∀ k, k ≤ 99 → t ≠ goOne k) : relF t = -1 := by
  by_cases hr : relF t = -1
  · exact hr
  · obtain ⟨k, hk, e⟩ := rel_shape t hr
    exact absurd e (h k hk)
theorem go_list (k : Nat) (hk : k ≤ 99) : (goOne k).data.toList = if k < 10 then [103, 111, 49, 46, UInt8.ofNat (48 + k)] else [103, 111, 49, 46, UInt8.ofNat (48 + k / 10), UInt8.ofNat (48 + k % 10)] := by
  show [103, 111, 49, 46] ++ Lib.decDigits k = _
  rw [dec_small k (by omega)]
  split <;> rfl
theorem go_size (k : Nat) (hk : k ≤ 99) : (goOne k).size = 5 ∨ (goOne k).size = 6 := by
  have h : (goOne k).data.toList.length = (goOne k).size := by simp
  rw [← h, go_list k hk]
  split
  · exact .inl rfl
  · exact .inr rfl
theorem go_fig (k : Nat) (hk : k ≤ 99) (i : Nat) (h4 : 4 ≤ i) (hi : i < (goOne k).size) : 48 ≤ byteN (goOne k) i ∧ byteN (goOne k) i ≤ 57 := by
  have h : (goOne k).data.toList.length = (goOne k).size := by simp
  have hb : byteN (goOne k) i = ((goOne k).data.toList.getD i 0).toNat := by simp [byteN, List.getD_eq_getElem?_getD]
  rw [← h] at hi
  rw [hb]
  rw [go_list k hk] at hi ⊢
  split at hi
  · rename_i h10
    rw [if_pos h10]
    simp only [List.length_cons, List.length_nil] at hi
    obtain rfl : i = 4 := by omega
    show 48 ≤ (UInt8.ofNat (48 + k)).toNat ∧ (UInt8.ofNat (48 + k)).toNat ≤ 57
    rw [UInt8.toNat_ofNat']
    omega
  · rename_i h10
    rw [if_neg h10]
    simp only [List.length_cons, List.length_nil] at hi
    rcases (show i = 4 ∨ i = 5 by omega) with rfl | rfl
    · show 48 ≤ (UInt8.ofNat (48 + k / 10)).toNat ∧ (UInt8.ofNat (48 + k / 10)).toNat ≤ 57
      rw [UInt8.toNat_ofNat']
      omega
    · show 48 ≤ (UInt8.ofNat (48 + k % 10)).toNat ∧ (UInt8.ofNat (48 + k % 10)).toNat ≤ 57
      rw [UInt8.toNat_ofNat']
      omega
theorem go_head (k : Nat) (hk : k ≤ 99) (h6 : (goOne k).size = 6) : byteN (goOne k) 4 ≠ 48 := by
  have h : (goOne k).data.toList.length = (goOne k).size := by simp
  have hb : byteN (goOne k) 4 = ((goOne k).data.toList.getD 4 0).toNat := by simp [byteN, List.getD_eq_getElem?_getD]
  rw [h6, go_list k hk] at h
  rw [hb, go_list k hk]
  split at h
  · simp at h
  · rename_i h10
    rw [if_neg h10]
    show (UInt8.ofNat (48 + k / 10)).toNat ≠ 48
    rw [UInt8.toNat_ofNat']
    omega
theorem go_lead (k : Nat) (hk : k ≤ 99) : (goOne k).extract 0 4 = ⟨#[103, 111, 49, 46]⟩ := by
  apply ByteArray.ext
  apply Array.toList_inj.1
  rw [ByteArray.data_extract, Array.toList_extract]
  show ((goOne k).data.toList.drop 0).take (4 - 0) = _
  rw [go_list k hk]
  split <;> rfl
/-- What it is worth so far. -/
def valT (t : ByteArray) (i : Nat) : Nat := if i = 4 then 0 else if i = 5 then byteN t 4 - 48 else 10 * (byteN t 4 - 48) + (byteN t 5 - 48)
theorem rel_yes (t : ByteArray) (hs : t.size = 5 ∨ t.size = 6) (hp : t.extract 0 4 = ⟨#[103, 111, 49, 46]⟩) (hf : ∀ j, 4 ≤ j → j < t.size → 48 ≤ byteN t j ∧ byteN t j ≤ 57) (h0 : t.size = 6 → byteN t 4 ≠ 48) : relF t = (valT t t.size : Nat) := by
  have hl : t.data.toList.length = t.size := by simp
  have hx : t.data.toList.take 4 = [103, 111, 49, 46] := by
    have := congrArg (fun b : ByteArray => b.data.toList) hp
    simp only [ByteArray.data_extract, Array.toList_extract] at this
    simpa using this
  have hb : ∀ i, byteN t i = (t.data.toList.getD i 0).toNat := fun i => by simp [byteN, List.getD_eq_getElem?_getD]
  have key : ∀ k, k ≤ 99 → t = goOne k → valT t t.size = k → relF t = (valT t t.size : Nat) := fun k hk e hv => by
    rw [hv, e]
    exact rel_go ⟨k, by omega⟩
  rcases hs with h5 | h6
  · obtain ⟨f1, f2⟩ := hf 4 (Nat.le_refl _) (by omega)
    refine key (byteN t 4 - 48) (by omega) ?_ (by rw [h5]; rfl)
    apply ByteArray.ext
    apply Array.toList_inj.1
    rw [go_list _ (by omega), if_pos (by omega)]
    rw [h5] at hl
    rw [hb 4] at f1 f2 ⊢
    match hm : t.data.toList, hl with
    | [a, b, c, d, e], _ =>
      rw [hm] at hx f1 f2
      simp only [List.take_succ_cons, List.take_zero, List.cons.injEq, and_true] at hx
      obtain ⟨rfl, rfl, rfl, rfl⟩ := hx
      simp only [List.getD_cons_succ, List.getD_cons_zero] at f1 f2 ⊢
      rw [show 48 + (e.toNat - 48) = e.toNat by omega, UInt8.ofNat_toNat]
  · obtain ⟨f1, f2⟩ := hf 4 (Nat.le_refl _) (by omega)
    obtain ⟨f3, f4⟩ := hf 5 (by omega) (by omega)
    have f5 := h0 h6
    refine key (10 * (byteN t 4 - 48) + (byteN t 5 - 48)) (by omega) ?_ (by rw [h6]; rfl)
    apply ByteArray.ext
    apply Array.toList_inj.1
    rw [go_list _ (by omega), if_neg (by omega)]
    rw [show (10 * (byteN t 4 - 48) + (byteN t 5 - 48)) / 10 = byteN t 4 - 48 by omega, show (10 * (byteN t 4 - 48) + (byteN t 5 - 48)) % 10 = byteN t 5 - 48 by omega, show 48 + (byteN t 4 - 48) = byteN t 4 by omega, show 48 + (byteN t 5 - 48) = byteN t 5 by omega]
    rw [h6] at hl
    rw [hb 4, hb 5]
    match hm : t.data.toList, hl with
    | [a, b, c, d, e, f], _ =>
      rw [hm] at hx
      simp only [List.take_succ_cons, List.take_zero, List.cons.injEq, and_true] at hx
      obtain ⟨rfl, rfl, rfl, rfl⟩ := hx
      simp only [List.getD_cons_succ, List.getD_cons_zero, UInt8.ofNat_toNat]
set_option maxRecDepth 100000 in
set_option maxHeartbeats 3200000 in
theorem refVersion_v (t : ByteArray) (w : World) (hs : t.size ≤ 2000000) :
    Calls Tryz.prog 27 #[.string t] w fun e w' => e = .returned (.int .i64 (relF t)) ∧ w' = w := by
  obtain ⟨ea, eb⟩ := eqs (t.extract 0 4) ⟨#[103, 111, 49, 46]⟩ [103, 111, 49, 46] (by rw [Lib.toList_data])
  by_cases h5 : t.size < 5
  · have h5i : (t.size : Int) < 5 := by omega
    have HF : Hid (relF t = -1) := Lib.hid (rel_no t (fun k hk e => by have := go_size k hk; rw [← e] at this; omega))
    clear ea eb
    go_enter Tryz.func27, Tryz.ntmps27
    go_wp2_with fail
    go_ret
    exact ⟨by rw [HF.out]; rfl, rfl⟩
  have h5i : ¬ (t.size : Int) < 5 := by omega
  by_cases h6 : 6 < t.size
  · have h6i : (6 : Int) < (t.size : Int) := by omega
    have HF : Hid (relF t = -1) := Lib.hid (rel_no t (fun k hk e => by have := go_size k hk; rw [← e] at this; omega))
    clear ea eb
    go_enter Tryz.func27, Tryz.ntmps27
    go_wp2_with fail
    go_ret
    exact ⟨by rw [HF.out]; rfl, rfl⟩
  have h6i : ¬ (6 : Int) < (t.size : Int) := by omega
  have h4n : 4 ≤ t.size := by omega
  have h4i : (4 : Int) ≤ (t.size : Int) := by omega
  by_cases hp : t.extract 0 4 = ⟨#[103, 111, 49, 46]⟩
  · have HP := Lib.hid hp
    rw [decide_eq_true hp] at ea eb
    clear hp
    have HNO := Lib.hid (fun (i : Nat) (h4 : 4 ≤ i) (hi : i < t.size) (hb : ¬ (48 ≤ byteN t i ∧ byteN t i ≤ 57)) => rel_no t (fun k hk e => by have := go_fig k hk i h4 (by rw [← e]; exact hi); rw [← e] at this; exact hb this))
    go_enter Tryz.func27, Tryz.ntmps27
    go_wp2_with fail
    go_loopw [3, 4] (fun nv iv wr => ∃ i n : Nat, iv = .int .i64 i ∧ nv = .int .i64 n ∧ 4 ≤ i ∧ i ≤ t.size ∧ n ≤ 99 ∧ n = valT t i ∧ (∀ j, 4 ≤ j → j < i → 48 ≤ byteN t j ∧ byteN t j ≤ 57) ∧ wr = w) (fun _ iv _ => t.size - (intOf iv).toNat)
    case atStart => exact ⟨4, 0, rfl, rfl, Nat.le_refl _, h4n, by omega, rfl, fun j h1 h2 => by omega, rfl⟩
    case round =>
      obtain ⟨i, n, rfl, rfl, hi4, hi, hn, hv, hall, hwr⟩ := hrel
      have HV := Lib.hid hv
      have HA := Lib.hid hall
      subst hwr
      clear hv hall
      by_cases hlt : i < t.size
      · have hlti : (i : Int) < (t.size : Int) := by omega
        have hb := str_byte t i hlt
        have HNX : Hid (48 ≤ byteN t i ∧ byteN t i ≤ 57 → (∀ j, 4 ≤ j → j < i + 1 → 48 ≤ byteN t j ∧ byteN t j ≤ 57) ∧ 10 * n + (byteN t i - 48) = valT t (i + 1) ∧ 10 * n + (byteN t i - 48) ≤ 99) := Lib.hid (fun h => by
          refine ⟨fun j h1 h2 => ?_, ?_⟩
          · by_cases e : j = i
            · rw [e]; exact h
            · exact HA.out j h1 (by omega)
          · have hvv := HV.out
            rcases (show i = 4 ∨ i = 5 by omega) with rfl | rfl
            · have e4 : valT t 4 = 0 := rfl
              have e5 : valT t (4 + 1) = byteN t 4 - 48 := rfl
              rw [e5]
              rw [e4] at hvv
              omega
            · have h4 := HA.out 4 (Nat.le_refl _) (by omega)
              have e5 : valT t 5 = byteN t 4 - 48 := rfl
              have e6 : valT t (5 + 1) = 10 * (byteN t 4 - 48) + (byteN t 5 - 48) := rfl
              rw [e6]
              rw [e5] at hvv
              omega)
        have HBAD := Lib.hid (HNO.out i hi4 hlt)
        have hc : byteN t i < 256 := by unfold byteN; exact UInt8.toNat_lt _
        generalize byteN t i = c at *
        by_cases c1 : 48 ≤ c
        · by_cases c2 : c ≤ 57
          · obtain ⟨hx1, hx2, hx3⟩ := HNX.out ⟨c1, c2⟩
            obtain ⟨d, hd⟩ : ∃ d, c - 48 = d := ⟨_, rfl⟩
            rw [hd] at hx2 hx3
            have HX1 := Lib.hid hx1
            have HX2 := Lib.hid hx2
            have hd2 : (c : Int) - 48 = (d : Int) := by omega
            have hd9 : d ≤ 9 := by omega
            have k1 : decide ((c : Int) < 48) = false := decide_eq_false (by omega)
            have k2 : decide ((57 : Int) < (c : Int)) = false := decide_eq_false (by omega)
            have k3 : 10 * (n : Int) + (d : Int) = ((10 * n + d : Nat) : Int) := by omega
            obtain ⟨z, hz⟩ : ∃ z, 10 * n + d = z := ⟨_, rfl⟩
            rw [hz] at hx3 k3 HX2
            clear HNX HBAD hx1 hx2 hd hz
            go_wp2_with fail
            go_roundw
            case rel => exact ⟨i + 1, z, by go_num, by go_num, by omega, by omega, by omega, HX2.out, HX1.out, by first | rfl | trivial⟩
            case measure => simp [intOf] <;> omega
          · have HF : Hid (relF t = -1) := Lib.hid (HBAD.out (fun h => c2 h.2))
            have k1 : decide ((c : Int) < 48) = false := decide_eq_false (by omega)
            have k2 : decide ((57 : Int) < (c : Int)) = true := decide_eq_true (by omega)
            clear HNX HBAD
            go_wp2_with fail
            go_ret
            exact ⟨by rw [HF.out]; rfl, rfl⟩
        · have HF : Hid (relF t = -1) := Lib.hid (HBAD.out (fun h => c1 h.1))
          have k1 : decide ((c : Int) < 48) = true := decide_eq_true (by omega)
          clear HNX HBAD
          go_wp2_with fail
          go_ret
          exact ⟨by rw [HF.out]; rfl, rfl⟩
      · have hie : i = t.size := by omega
        have hlti : ¬ (i : Int) < (t.size : Int) := by omega
        have hb4 := str_byte t 4 (by omega)
        have HHD := Lib.hid (fun (h6 : t.size = 6) (h : byteN t 4 = 48) => rel_no t (fun k hk e => by have := go_head k hk (by rw [← e]; exact h6); rw [← e] at this; exact this h))
        have HOK := Lib.hid (fun (h0 : t.size = 6 → byteN t 4 ≠ 48) => rel_yes t (by omega) HP.out (fun j h1 h2 => HA.out j h1 (by omega)) h0)
        have HN : Hid (n = valT t t.size) := Lib.hid (by rw [← hie]; exact HV.out)
        clear hie
        generalize byteN t 4 = c at *
        by_cases g6 : t.size = 6
        · have g6b : ((t.size : Int) == 6) = true := by rw [beq_iff_eq]; omega
          have g6l : (4 : Int) < (t.size : Int) := by omega
          have g6n : 4 < t.size := by omega
          by_cases g0 : c = 48
          · have g0b : ((c : Int) == 48) = true := by rw [beq_iff_eq]; omega
            have HF := Lib.hid (HHD.out g6 g0)
            have HG := Lib.hid g6
            clear g6 g0 HOK HHD
            go_wp2_with fail
            go_ret
            exact ⟨by rw [HF.out]; rfl, rfl⟩
          · have g0b : ((c : Int) == 48) = false := by rw [beq_eq_false_iff_ne]; omega
            have HF := Lib.hid ((HOK.out (fun _ => g0)).trans (by rw [← HN.out]))
            have HG := Lib.hid g6
            clear g6 g0 HOK HHD
            go_wp2_with fail
            go_ret
            exact ⟨by rw [HF.out]; rfl, rfl⟩
        · have g6b : ((t.size : Int) == 6) = false := by rw [beq_eq_false_iff_ne]; omega
          have HF := Lib.hid ((HOK.out (fun h => absurd h g6)).trans (by rw [← HN.out]))
          clear g6 HOK HHD
          go_wp2_with fail
          go_ret
          exact ⟨by rw [HF.out]; rfl, rfl⟩
  · have HF : Hid (relF t = -1) := Lib.hid (rel_no t (fun k hk e => hp (by rw [e]; exact go_lead k hk)))
    rw [decide_eq_false hp] at ea eb
    clear hp
    go_enter Tryz.func27, Tryz.ntmps27
    go_wp2_with fail
    go_ret
    exact ⟨by rw [HF.out]; rfl, rfl⟩
end Go.Proofs.YtjgpopjnmonlkaaGreatDoor
