import Derived.Test.YtghfmfgdcpihfaaDoorTkB
namespace Go.Proofs.YtghfmfgdcpihfaaDoor
open Go.RowKit

def signsL : List ByteArray := [⟨#[60, 60, 61]⟩, ⟨#[62, 62, 61]⟩, ⟨#[38, 94, 61]⟩, ⟨#[46, 46, 46]⟩, ⟨#[38, 38]⟩, ⟨#[124, 124]⟩, ⟨#[61, 61]⟩, ⟨#[33, 61]⟩, ⟨#[60, 61]⟩, ⟨#[62, 61]⟩, ⟨#[58, 61]⟩, ⟨#[43, 43]⟩, ⟨#[45, 45]⟩, ⟨#[43, 61]⟩, ⟨#[45, 61]⟩, ⟨#[42, 61]⟩, ⟨#[47, 61]⟩, ⟨#[37, 61]⟩, ⟨#[38, 61]⟩, ⟨#[124, 61]⟩, ⟨#[94, 61]⟩, ⟨#[60, 60]⟩, ⟨#[62, 62]⟩, ⟨#[38, 94]⟩, ⟨#[60, 45]⟩, ⟨#[43]⟩, ⟨#[45]⟩, ⟨#[42]⟩, ⟨#[47]⟩, ⟨#[37]⟩, ⟨#[38]⟩, ⟨#[124]⟩, ⟨#[94]⟩, ⟨#[60]⟩, ⟨#[62]⟩, ⟨#[61]⟩, ⟨#[33]⟩, ⟨#[40]⟩, ⟨#[41]⟩, ⟨#[91]⟩, ⟨#[93]⟩, ⟨#[123]⟩, ⟨#[125]⟩, ⟨#[44]⟩, ⟨#[59]⟩, ⟨#[46]⟩, ⟨#[58]⟩, ⟨#[126]⟩]
def signsV : Array Value := #[.string ⟨#[60, 60, 61]⟩, .string ⟨#[62, 62, 61]⟩, .string ⟨#[38, 94, 61]⟩, .string ⟨#[46, 46, 46]⟩, .string ⟨#[38, 38]⟩, .string ⟨#[124, 124]⟩, .string ⟨#[61, 61]⟩, .string ⟨#[33, 61]⟩, .string ⟨#[60, 61]⟩, .string ⟨#[62, 61]⟩, .string ⟨#[58, 61]⟩, .string ⟨#[43, 43]⟩, .string ⟨#[45, 45]⟩, .string ⟨#[43, 61]⟩, .string ⟨#[45, 61]⟩, .string ⟨#[42, 61]⟩, .string ⟨#[47, 61]⟩, .string ⟨#[37, 61]⟩, .string ⟨#[38, 61]⟩, .string ⟨#[124, 61]⟩, .string ⟨#[94, 61]⟩, .string ⟨#[60, 60]⟩, .string ⟨#[62, 62]⟩, .string ⟨#[38, 94]⟩, .string ⟨#[60, 45]⟩, .string ⟨#[43]⟩, .string ⟨#[45]⟩, .string ⟨#[42]⟩, .string ⟨#[47]⟩, .string ⟨#[37]⟩, .string ⟨#[38]⟩, .string ⟨#[124]⟩, .string ⟨#[94]⟩, .string ⟨#[60]⟩, .string ⟨#[62]⟩, .string ⟨#[61]⟩, .string ⟨#[33]⟩, .string ⟨#[40]⟩, .string ⟨#[41]⟩, .string ⟨#[91]⟩, .string ⟨#[93]⟩, .string ⟨#[123]⟩, .string ⟨#[125]⟩, .string ⟨#[44]⟩, .string ⟨#[59]⟩, .string ⟨#[46]⟩, .string ⟨#[58]⟩, .string ⟨#[126]⟩]
/-- How many bytes the first of these signs has that s begins with. -/
def firstSign (s : ByteArray) : List ByteArray → Nat
  | [] => 0
  | x :: r => if pre s x then x.size else firstSign s r

theorem sign_at_0 (w : World) : (Instr.index 57 (.agg signsV) (.int .i64 0)).run Tryd.prog w = .ok (.string ⟨#[60, 60, 61]⟩) w := by kernel_rfl
theorem sign_at_1 (w : World) : (Instr.index 57 (.agg signsV) (.int .i64 1)).run Tryd.prog w = .ok (.string ⟨#[62, 62, 61]⟩) w := by kernel_rfl
theorem sign_at_2 (w : World) : (Instr.index 57 (.agg signsV) (.int .i64 2)).run Tryd.prog w = .ok (.string ⟨#[38, 94, 61]⟩) w := by kernel_rfl
theorem sign_at_3 (w : World) : (Instr.index 57 (.agg signsV) (.int .i64 3)).run Tryd.prog w = .ok (.string ⟨#[46, 46, 46]⟩) w := by kernel_rfl
theorem sign_at_4 (w : World) : (Instr.index 57 (.agg signsV) (.int .i64 4)).run Tryd.prog w = .ok (.string ⟨#[38, 38]⟩) w := by kernel_rfl
theorem sign_at_5 (w : World) : (Instr.index 57 (.agg signsV) (.int .i64 5)).run Tryd.prog w = .ok (.string ⟨#[124, 124]⟩) w := by kernel_rfl
theorem sign_at_6 (w : World) : (Instr.index 57 (.agg signsV) (.int .i64 6)).run Tryd.prog w = .ok (.string ⟨#[61, 61]⟩) w := by kernel_rfl
theorem sign_at_7 (w : World) : (Instr.index 57 (.agg signsV) (.int .i64 7)).run Tryd.prog w = .ok (.string ⟨#[33, 61]⟩) w := by kernel_rfl
theorem sign_at_8 (w : World) : (Instr.index 57 (.agg signsV) (.int .i64 8)).run Tryd.prog w = .ok (.string ⟨#[60, 61]⟩) w := by kernel_rfl
theorem sign_at_9 (w : World) : (Instr.index 57 (.agg signsV) (.int .i64 9)).run Tryd.prog w = .ok (.string ⟨#[62, 61]⟩) w := by kernel_rfl
theorem sign_at_10 (w : World) : (Instr.index 57 (.agg signsV) (.int .i64 10)).run Tryd.prog w = .ok (.string ⟨#[58, 61]⟩) w := by kernel_rfl
theorem sign_at_11 (w : World) : (Instr.index 57 (.agg signsV) (.int .i64 11)).run Tryd.prog w = .ok (.string ⟨#[43, 43]⟩) w := by kernel_rfl
theorem sign_at_12 (w : World) : (Instr.index 57 (.agg signsV) (.int .i64 12)).run Tryd.prog w = .ok (.string ⟨#[45, 45]⟩) w := by kernel_rfl
theorem sign_at_13 (w : World) : (Instr.index 57 (.agg signsV) (.int .i64 13)).run Tryd.prog w = .ok (.string ⟨#[43, 61]⟩) w := by kernel_rfl
theorem sign_at_14 (w : World) : (Instr.index 57 (.agg signsV) (.int .i64 14)).run Tryd.prog w = .ok (.string ⟨#[45, 61]⟩) w := by kernel_rfl
theorem sign_at_15 (w : World) : (Instr.index 57 (.agg signsV) (.int .i64 15)).run Tryd.prog w = .ok (.string ⟨#[42, 61]⟩) w := by kernel_rfl
theorem sign_at_16 (w : World) : (Instr.index 57 (.agg signsV) (.int .i64 16)).run Tryd.prog w = .ok (.string ⟨#[47, 61]⟩) w := by kernel_rfl
theorem sign_at_17 (w : World) : (Instr.index 57 (.agg signsV) (.int .i64 17)).run Tryd.prog w = .ok (.string ⟨#[37, 61]⟩) w := by kernel_rfl
theorem sign_at_18 (w : World) : (Instr.index 57 (.agg signsV) (.int .i64 18)).run Tryd.prog w = .ok (.string ⟨#[38, 61]⟩) w := by kernel_rfl
theorem sign_at_19 (w : World) : (Instr.index 57 (.agg signsV) (.int .i64 19)).run Tryd.prog w = .ok (.string ⟨#[124, 61]⟩) w := by kernel_rfl
theorem sign_at_20 (w : World) : (Instr.index 57 (.agg signsV) (.int .i64 20)).run Tryd.prog w = .ok (.string ⟨#[94, 61]⟩) w := by kernel_rfl
theorem sign_at_21 (w : World) : (Instr.index 57 (.agg signsV) (.int .i64 21)).run Tryd.prog w = .ok (.string ⟨#[60, 60]⟩) w := by kernel_rfl
theorem sign_at_22 (w : World) : (Instr.index 57 (.agg signsV) (.int .i64 22)).run Tryd.prog w = .ok (.string ⟨#[62, 62]⟩) w := by kernel_rfl
theorem sign_at_23 (w : World) : (Instr.index 57 (.agg signsV) (.int .i64 23)).run Tryd.prog w = .ok (.string ⟨#[38, 94]⟩) w := by kernel_rfl
theorem sign_at_24 (w : World) : (Instr.index 57 (.agg signsV) (.int .i64 24)).run Tryd.prog w = .ok (.string ⟨#[60, 45]⟩) w := by kernel_rfl
theorem sign_at_25 (w : World) : (Instr.index 57 (.agg signsV) (.int .i64 25)).run Tryd.prog w = .ok (.string ⟨#[43]⟩) w := by kernel_rfl
theorem sign_at_26 (w : World) : (Instr.index 57 (.agg signsV) (.int .i64 26)).run Tryd.prog w = .ok (.string ⟨#[45]⟩) w := by kernel_rfl
theorem sign_at_27 (w : World) : (Instr.index 57 (.agg signsV) (.int .i64 27)).run Tryd.prog w = .ok (.string ⟨#[42]⟩) w := by kernel_rfl
theorem sign_at_28 (w : World) : (Instr.index 57 (.agg signsV) (.int .i64 28)).run Tryd.prog w = .ok (.string ⟨#[47]⟩) w := by kernel_rfl
theorem sign_at_29 (w : World) : (Instr.index 57 (.agg signsV) (.int .i64 29)).run Tryd.prog w = .ok (.string ⟨#[37]⟩) w := by kernel_rfl
theorem sign_at_30 (w : World) : (Instr.index 57 (.agg signsV) (.int .i64 30)).run Tryd.prog w = .ok (.string ⟨#[38]⟩) w := by kernel_rfl
theorem sign_at_31 (w : World) : (Instr.index 57 (.agg signsV) (.int .i64 31)).run Tryd.prog w = .ok (.string ⟨#[124]⟩) w := by kernel_rfl
theorem sign_at_32 (w : World) : (Instr.index 57 (.agg signsV) (.int .i64 32)).run Tryd.prog w = .ok (.string ⟨#[94]⟩) w := by kernel_rfl
theorem sign_at_33 (w : World) : (Instr.index 57 (.agg signsV) (.int .i64 33)).run Tryd.prog w = .ok (.string ⟨#[60]⟩) w := by kernel_rfl
theorem sign_at_34 (w : World) : (Instr.index 57 (.agg signsV) (.int .i64 34)).run Tryd.prog w = .ok (.string ⟨#[62]⟩) w := by kernel_rfl
theorem sign_at_35 (w : World) : (Instr.index 57 (.agg signsV) (.int .i64 35)).run Tryd.prog w = .ok (.string ⟨#[61]⟩) w := by kernel_rfl
theorem sign_at_36 (w : World) : (Instr.index 57 (.agg signsV) (.int .i64 36)).run Tryd.prog w = .ok (.string ⟨#[33]⟩) w := by kernel_rfl
theorem sign_at_37 (w : World) : (Instr.index 57 (.agg signsV) (.int .i64 37)).run Tryd.prog w = .ok (.string ⟨#[40]⟩) w := by kernel_rfl
theorem sign_at_38 (w : World) : (Instr.index 57 (.agg signsV) (.int .i64 38)).run Tryd.prog w = .ok (.string ⟨#[41]⟩) w := by kernel_rfl
theorem sign_at_39 (w : World) : (Instr.index 57 (.agg signsV) (.int .i64 39)).run Tryd.prog w = .ok (.string ⟨#[91]⟩) w := by kernel_rfl
theorem sign_at_40 (w : World) : (Instr.index 57 (.agg signsV) (.int .i64 40)).run Tryd.prog w = .ok (.string ⟨#[93]⟩) w := by kernel_rfl
theorem sign_at_41 (w : World) : (Instr.index 57 (.agg signsV) (.int .i64 41)).run Tryd.prog w = .ok (.string ⟨#[123]⟩) w := by kernel_rfl
theorem sign_at_42 (w : World) : (Instr.index 57 (.agg signsV) (.int .i64 42)).run Tryd.prog w = .ok (.string ⟨#[125]⟩) w := by kernel_rfl
theorem sign_at_43 (w : World) : (Instr.index 57 (.agg signsV) (.int .i64 43)).run Tryd.prog w = .ok (.string ⟨#[44]⟩) w := by kernel_rfl
theorem sign_at_44 (w : World) : (Instr.index 57 (.agg signsV) (.int .i64 44)).run Tryd.prog w = .ok (.string ⟨#[59]⟩) w := by kernel_rfl
theorem sign_at_45 (w : World) : (Instr.index 57 (.agg signsV) (.int .i64 45)).run Tryd.prog w = .ok (.string ⟨#[46]⟩) w := by kernel_rfl
theorem sign_at_46 (w : World) : (Instr.index 57 (.agg signsV) (.int .i64 46)).run Tryd.prog w = .ok (.string ⟨#[58]⟩) w := by kernel_rfl
theorem sign_at_47 (w : World) : (Instr.index 57 (.agg signsV) (.int .i64 47)).run Tryd.prog w = .ok (.string ⟨#[126]⟩) w := by kernel_rfl
theorem sign_idx (k : Nat) (h : k < 48) (w : World) : (Instr.index 57 (.agg signsV) (.int .i64 k)).run Tryd.prog w = .ok (.string (signsL.getD k ByteArray.empty)) w :=
  match k, h with
  | 0, _ => sign_at_0 w
  | 1, _ => sign_at_1 w
  | 2, _ => sign_at_2 w
  | 3, _ => sign_at_3 w
  | 4, _ => sign_at_4 w
  | 5, _ => sign_at_5 w
  | 6, _ => sign_at_6 w
  | 7, _ => sign_at_7 w
  | 8, _ => sign_at_8 w
  | 9, _ => sign_at_9 w
  | 10, _ => sign_at_10 w
  | 11, _ => sign_at_11 w
  | 12, _ => sign_at_12 w
  | 13, _ => sign_at_13 w
  | 14, _ => sign_at_14 w
  | 15, _ => sign_at_15 w
  | 16, _ => sign_at_16 w
  | 17, _ => sign_at_17 w
  | 18, _ => sign_at_18 w
  | 19, _ => sign_at_19 w
  | 20, _ => sign_at_20 w
  | 21, _ => sign_at_21 w
  | 22, _ => sign_at_22 w
  | 23, _ => sign_at_23 w
  | 24, _ => sign_at_24 w
  | 25, _ => sign_at_25 w
  | 26, _ => sign_at_26 w
  | 27, _ => sign_at_27 w
  | 28, _ => sign_at_28 w
  | 29, _ => sign_at_29 w
  | 30, _ => sign_at_30 w
  | 31, _ => sign_at_31 w
  | 32, _ => sign_at_32 w
  | 33, _ => sign_at_33 w
  | 34, _ => sign_at_34 w
  | 35, _ => sign_at_35 w
  | 36, _ => sign_at_36 w
  | 37, _ => sign_at_37 w
  | 38, _ => sign_at_38 w
  | 39, _ => sign_at_39 w
  | 40, _ => sign_at_40 w
  | 41, _ => sign_at_41 w
  | 42, _ => sign_at_42 w
  | 43, _ => sign_at_43 w
  | 44, _ => sign_at_44 w
  | 45, _ => sign_at_45 w
  | 46, _ => sign_at_46 w
  | 47, _ => sign_at_47 w
  | k + 48, h => absurd h (by omega)
theorem signsL_len : signsL.length = 48 := rfl
theorem signsL_size (k : Nat) (h : k < 48) : (signsL.getD k ByteArray.empty).size ≤ 3 := by
  have : ∀ x ∈ signsL, x.size ≤ 3 := by decide
  rw [List.getD, List.getElem?_eq_getElem (by rw [signsL_len]; exact h)]
  exact this _ (List.getElem_mem _)

/-- The table of signs, as start-up lays it. -/
def SignsAt (w : World) : Prop := ∃ t fr, w.heap[0]? = some (.cells signsV t fr)

set_option maxHeartbeats 800000 in
theorem signSize_any (s : ByteArray) (w : World) (hs : s.size ≤ 4611686018427387904) (hg : SignsAt w) :
    Calls Tryd.prog 28 #[.string s] w fun e w' => e = .returned (.int .i64 (firstSign s signsL)) ∧ w' = w := by
  obtain ⟨t, fr, hg⟩ := hg
  have HG := Lib.hid hg; clear hg
  go_enter Tryd.func28, Tryd.ntmps28
  go_wp2_with (refine wpList_load_row rfl 57 (.global 0) rfl 0 rfl t signsV fr _ HG.out Tryd.underlying57 rfl (by kernel_rfl) ?_)
  have hp : ∀ x : ByteArray, pre s x = pre s x := fun _ => rfl
  go_loop [6] (fun i => ∃ k : Nat, i = .int .i64 k ∧ k ≤ 48 ∧ firstSign s signsL = firstSign s (signsL.drop k)) (fun i => 48 - (intOf i).toNat)
  case atStart => exact ⟨0, rfl, by omega, rfl⟩
  case round =>
    obtain ⟨k, rfl, hk, he⟩ := hrel
    have HE := Lib.hid he; clear he hp
    by_cases hlt : k < 48
    · have hi := sign_idx k hlt
      have hz := signsL_size k hlt
      have hst : firstSign s (signsL.drop k) = if pre s (signsL.getD k ByteArray.empty) then (signsL.getD k ByteArray.empty).size else firstSign s (signsL.drop (k + 1)) := by
        rw [List.drop_eq_getElem_cons (by rw [signsL_len]; exact hlt), firstSign]
        simp only [List.getD, List.getElem?_eq_getElem (show k < signsL.length by rw [signsL_len]; exact hlt), Option.getD_some]
      generalize signsL.getD k ByteArray.empty = x at hi hz hst
      have HST := Lib.hid hst; clear hst
      go_wp2_with fail
      refine (hp_any s x _ (by omega) (by omega)).mono ?_
      rintro e w' ⟨rfl, rfl⟩
      generalize pre s x = b at HST ⊢
      cases b
      · have HN : Hid (firstSign s signsL = firstSign s (signsL.drop (k + 1))) := by show _ = _; rw [HE.out, HST.out]; rfl
        go_wp2_with fail
        refine ⟨⟨k + 1, by go_num, by omega, HN.out⟩, ?_⟩
        simp [intOf]; omega
      · have HN : Hid (firstSign s signsL = x.size) := by show _ = _; rw [HE.out, HST.out]; rfl
        go_wp2_with fail
        go_ret
        exact ⟨by rw [HN.out]; rfl, rfl⟩
    · obtain rfl : k = 48 := by omega
      have HN : Hid (firstSign s signsL = 0) := by show _ = _; rw [HE.out]; rfl
      go_wp2_with fail
      go_ret
      exact ⟨by rw [HN.out]; rfl, rfl⟩

def namedK (l : List UInt8) : Int := 1 + wordL l
theorem wordL_cases (l : List UInt8) : wordL l = 0 ∨ wordL l = 1 ∨ wordL l = 2 := by 
  unfold wordL
  by_cases h : l ∈ words1
  · rw [if_pos h]; omega
  · rw [if_neg h]; split <;> omega

set_option maxHeartbeats 400000 in
theorem named_any (s : ByteArray) (w : World) :
    Calls Tryd.prog 25 #[.string s] w fun e w' => e = .returned (.int .i64 (namedK s.toList)) ∧ w' = w := by
  rcases wordL_cases s.toList with h | h | h
  all_goals
    have H : Hid (namedK s.toList = 1 + wordL s.toList) := rfl
    have HW := Lib.hid h
    clear h
    go_enter Tryd.func25, Tryd.ntmps25
    go_wp2_with (go_at_call 34; refine (word_any s _).mono ?_; rintro e w' ⟨rfl, rfl⟩; rw [HW.out])
    go_ret
    exact ⟨by rw [H.out, HW.out]; rfl, rfl⟩

/-- How many bytes there are through the next closing behind the opening: 0 without. -/
def throughF (s o c : ByteArray) : Int :=
  let i := Lib.index (s.data.toList.drop o.size) c.data.toList
  if i < 0 then 0 else o.size + i + c.size

theorem index_le (l sub : List UInt8) : Lib.index l sub ≤ l.length := by
  induction l with
  | nil => rw [Lib.index]; split <;> simp
  | cons b l ih => rw [Lib.index]; split
                   · simp; omega
                   · split
                     · simp; omega
                     · simp; omega

set_option maxHeartbeats 400000 in
theorem through_any (s o c : ByteArray) (m : Int) (w : World) (hs : s.size < 4294967281) (ho : o.size ≤ s.size) (hc : c.size ≤ 100) (hm : w.cell? ⟨1, 0, none⟩ = some (.int .i64 m)) :
    Calls Tryd.prog 21 #[.string s, .string o, .string c] w fun e w' => e = .returned (.int .i64 (throughF s o c)) ∧ w' = w := by
  have hd : (s.extract o.size s.size).data.toList = s.data.toList.drop o.size := by
    rw [Lib.extract_data]; exact List.take_of_length_le (by simp)
  have h1 := Lib.index_ge (s.data.toList.drop o.size) c.data.toList
  have h2 := index_le (s.data.toList.drop o.size) c.data.toList
  have h3 : (s.data.toList.drop o.size).length = s.size - o.size := by simp
  have ht : throughF s o c = if Lib.index (s.data.toList.drop o.size) c.data.toList < 0 then 0 else o.size + Lib.index (s.data.toList.drop o.size) c.data.toList + c.size := rfl
  have hcon := Tryd.strings_Index (s.extract o.size s.size) c m w (by simp; omega) hm
  rw [hd] at hcon
  generalize Lib.index (s.data.toList.drop o.size) c.data.toList = i at *
  have HC := Lib.hid hcon
  have HT := Lib.hid ht
  clear hd hcon ht hm
  by_cases hi : i < 0
  · go_enter Tryd.func21, Tryd.ntmps21
    go_wp2_with (go_at_call 33; refine HC.out.mono ?_; rintro e w' ⟨rfl, rfl⟩)
    go_ret
    exact ⟨by rw [HT.out, if_pos hi]; rfl, rfl⟩
  · go_enter Tryd.func21, Tryd.ntmps21
    go_wp2_with (go_at_call 33; refine HC.out.mono ?_; rintro e w' ⟨rfl, rfl⟩)
    go_ret
    exact ⟨by rw [HT.out, if_neg (by omega)]; rfl, rfl⟩

end Go.Proofs.YtghfmfgdcpihfaaDoor
