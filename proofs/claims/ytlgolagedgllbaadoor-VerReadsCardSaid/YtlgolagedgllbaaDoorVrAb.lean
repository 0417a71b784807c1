import Derived.Test.YtlgolagedgllbaaDoorVrAa
namespace Go.Proofs.YtlgolagedgllbaaDoor
open Go.RowKit Go.Shelf
set_option linter.unusedSimpArgs false
set_option linter.unusedVariables false
set_option linter.unusedSectionVars false

/-! A line's words, byte by byte (plain). -/
def blB (b : UInt8) : Bool := b == 32 || b == 9 || b == 13
def endW (one : List UInt8) : List (List UInt8) := if one = [] then [] else [one]
def refW : List UInt8 → List UInt8 → List (List UInt8)
  | one, [] => endW one
  | one, x :: r => if blB x = true then endW one ++ refW [] r else refW (one ++ [x]) r
def noteL : List UInt8 → List UInt8
  | [] => []
  | x :: r => if x = 47 ∧ r.head? = some 47 then [] else x :: noteL r
theorem refW_run : ∀ (xs r one : List UInt8), (∀ b ∈ xs, blB b = false) → refW one (xs ++ r) = refW (one ++ xs) r
  | [], r, one, _ => by simp
  | x :: xs, r, one, h => by
    rw [List.cons_append, refW, h x (by simp), if_neg (by decide), refW_run xs r (one ++ [x]) (fun b hb => h b (by simp [hb]))]
    congr 1
    simp
theorem blank_iff (n : Nat) (b : UInt8) (h : b.toNat = n) : blankP n = blB b := by
  unfold blankP blankV blB
  rw [Bool.eq_iff_iff]
  simp only [Bool.or_eq_true, beq_iff_eq, ← UInt8.toNat_inj, h]
  constructor
  · rintro ((h1 | h1) | h1)
    · exact .inl (.inl (by simp; omega))
    · exact .inl (.inr (by simp; omega))
    · exact .inr (by simp; omega)
  · rintro ((h1 | h1) | h1)
    · simp at h1; exact .inl (.inl (by omega))
    · simp at h1; exact .inl (.inr (by omega))
    · simp at h1; exact .inr (by omega)
theorem blB_hi (b : UInt8) (h : 128 ≤ b.toNat) : blB b = false := by
  rw [← blank_iff b.toNat b rfl]
  unfold blankP blankV
  simp only [Bool.or_eq_false_iff, beq_eq_false_iff_ne]
  omega
theorem dec_in (b0 b1 b2 b3 n j : Nat) (h0 : 128 ≤ b0) (h1 : 0 < j) (h2 : j < (decB b0 b1 b2 b3 n).2) : 128 ≤ (if j = 1 then b1 else if j = 2 then b2 else b3) := by
  unfold decB at h2
  rw [if_neg (by omega)] at h2
  split at h2
  · rename_i hc
    split at h2
    · simp only at h2
      rw [if_pos (by omega)]; omega
    · simp only at h2; omega
  · split at h2
    · rename_i hc
      split at h2
      · simp only at h2
        by_cases e : j = 1
        · rw [if_pos e]; omega
        · rw [if_neg e, if_pos (by omega)]; omega
      · simp only at h2; omega
    · split at h2
      · rename_i hc
        split at h2
        · simp only at h2
          by_cases e : j = 1
          · rw [if_pos e]; omega
          · rw [if_neg e]
            by_cases e2 : j = 2
            · rw [if_pos e2]; omega
            · rw [if_neg e2]; omega
        · simp only at h2; omega
      · simp only at h2; omega
theorem dec_le4 (b0 b1 b2 b3 n : Nat) : (decB b0 b1 b2 b3 n).2 ≤ 4 := by
  unfold decB
  repeat' split
  all_goals (simp only; omega)
theorem dec_hi (s : ByteArray) (pos j : Nat) (hp : pos < s.size) (h0 : 128 ≤ byteN s pos) (hj : j < (Utf8.decode s pos).2) : 128 ≤ byteN s (pos + j) := by
  by_cases e : j = 0
  · rw [e]; exact h0
  · rw [decode_B s pos hp] at hj
    have h4 := dec_le4 (byteN s pos) (byteN s (pos + 1)) (byteN s (pos + 2)) (byteN s (pos + 3)) (s.size - pos)
    have := dec_in _ _ _ _ _ j h0 (by omega) hj
    have hc : j = 1 ∨ j = 2 ∨ j = 3 := by omega
    rcases hc with rfl | rfl | rfl <;> simpa using this
/-- What was begun. -/
def openW (s : ByteArray) (pos : Nat) : Option Nat → List UInt8
  | some a => (s.data.toList.drop a).take (pos - a)
  | none => []
theorem take_more (l : List UInt8) (a pos k : Nat) (h : a ≤ pos) : (l.drop a).take (pos - a) ++ (l.drop pos).take k = (l.drop a).take (pos + k - a) := Lib.pieceU_grow l a pos k h
theorem spans_W (s : ByteArray) : ∀ (f pos : Nat) (st : Option Nat) (acc : List (Nat × Nat)), s.size ≤ f + pos → pos ≤ s.size → (∀ a, st = some a → a < pos) →
    (Lib.closeSpans s (Lib.spansFromP blankP s f pos st acc)).map (fun x => (s.extract x.1 x.2).data.toList) =
      acc.map (fun x => (s.extract x.1 x.2).data.toList) ++ refW (openW s pos st) (s.data.toList.drop pos) := by
  have hL : s.data.toList.length = s.size := Array.length_toList
  have hEnd : ∀ (f pos : Nat) (st : Option Nat) (acc : List (Nat × Nat)), ¬ pos < s.size → pos ≤ s.size → (∀ a, st = some a → a < pos) →
    (Lib.closeSpans s (Lib.spansFromP blankP s f pos st acc)).map (fun x => (s.extract x.1 x.2).data.toList) =
      acc.map (fun x => (s.extract x.1 x.2).data.toList) ++ refW (openW s pos st) (s.data.toList.drop pos) := by
    intro f pos st acc h1 h2 h3
    rw [Lib.spansFromP_end _ _ _ _ _ _ h1, List.drop_eq_nil_of_le (by omega), refW]
    have hps : pos = s.size := by omega
    cases st with
    | none => unfold Lib.closeSpans endW openW; simp
    | some a =>
      have ha := h3 a rfl
      unfold Lib.closeSpans endW openW
      have hne : ¬ (s.data.toList.drop a).take (pos - a) = [] := by
        intro e
        have := congrArg List.length e
        rw [List.length_take, List.length_drop] at this
        simp only [List.length_nil] at this
        omega
      simp only [List.map_append, List.map_cons, List.map_nil]
      rw [if_neg hne, extract_list, hps]
  intro f
  induction f with
  | zero => intro pos st acc h1 h2 h3; exact hEnd 0 pos st acc (by omega) h2 h3
  | succ f ih =>
    intro pos st acc h1 h2 h3
    by_cases hlt : pos < s.size
    case neg => exact hEnd _ pos st acc hlt h2 h3
    obtain ⟨hd1, hd2⟩ := drop_byte s pos hlt
    obtain ⟨w1, w2⟩ := dec_width s pos hlt
    rw [show ∀ st, Lib.spansFromP blankP s (f + 1) pos st acc = if pos < s.size then (if blankP (Utf8.decode s pos).1 then (match st with | some a => Lib.spansFromP blankP s f (pos + (Utf8.decode s pos).2) none (acc ++ [(a, pos)]) | none => Lib.spansFromP blankP s f (pos + (Utf8.decode s pos).2) none acc) else (match st with | some a => Lib.spansFromP blankP s f (pos + (Utf8.decode s pos).2) (some a) acc | none => Lib.spansFromP blankP s f (pos + (Utf8.decode s pos).2) (some pos) acc)) else (acc, st) from fun _ => rfl, if_pos hlt]
    cases hb : blankP (Utf8.decode s pos).1 with
    | true =>
      have hlow : Utf8.decode s pos = (byteN s pos, 1) := by
        rcases dec_byteV s pos hlt with ⟨h, _⟩ | ⟨h, _⟩
        · exact h
        · unfold blankP blankV at hb
          simp only [Bool.or_eq_true, beq_iff_eq] at hb
          omega
      rw [hlow] at hb ⊢
      rw [blank_iff _ _ hd2] at hb
      rw [hd1, refW, if_pos hb, if_pos rfl]
      cases st with
      | none =>
        rw [ih (pos + 1) none acc (by omega) (by omega) (fun a h => by cases h)]
        simp [openW, endW]
      | some a =>
        have ha := h3 a rfl
        have hne : ¬ (s.data.toList.drop a).take (pos - a) = [] := by
          intro e
          have := congrArg List.length e
          rw [List.length_take, List.length_drop] at this
          simp only [List.length_nil] at this
          omega
        rw [ih (pos + 1) none (acc ++ [(a, pos)]) (by omega) (by omega) (fun a h => by cases h)]
        have he : endW ((s.data.toList.drop a).take (pos - a)) = [(s.data.toList.drop a).take (pos - a)] := if_neg hne
        simp only [openW, List.map_append, List.map_cons, List.map_nil, extract_list, List.append_assoc]
        rw [he]
    | false =>
      rw [if_neg (by decide)]
      have hrun : ∀ b ∈ (s.data.toList.drop pos).take (Utf8.decode s pos).2, blB b = false := by
        intro b hbm
        obtain ⟨j, hj, rfl⟩ := List.getElem_of_mem hbm
        rw [List.length_take, List.length_drop] at hj
        rw [List.getElem_take, List.getElem_drop]
        have hbn : (s.data.toList[pos + j]'(by omega)).toNat = byteN s (pos + j) := (drop_byte s (pos + j) (by omega)).2
        rcases dec_byteV s pos hlt with ⟨h, hx⟩ | ⟨h, hx⟩
        · rw [h] at hj hb
          simp only at hj hb
          have : j = 0 := by omega
          subst this
          rw [← hb]
          exact (blank_iff _ _ hbn).symm
        · apply blB_hi
          rw [hbn]
          exact dec_hi s pos j hlt hx (by omega)
      have hsp : s.data.toList.drop pos = (s.data.toList.drop pos).take (Utf8.decode s pos).2 ++ s.data.toList.drop (pos + (Utf8.decode s pos).2) := by
        rw [← List.drop_drop, List.take_append_drop]
      have hR : ∀ one, refW one (s.data.toList.drop pos) = refW (one ++ (s.data.toList.drop pos).take (Utf8.decode s pos).2) (s.data.toList.drop (pos + (Utf8.decode s pos).2)) := by
        intro one
        have := refW_run _ (s.data.toList.drop (pos + (Utf8.decode s pos).2)) one hrun
        rw [← hsp] at this
        exact this
      rw [hR]
      cases st with
      | none =>
        rw [show (match (none : Option Nat) with | some a => Lib.spansFromP blankP s f (pos + (Utf8.decode s pos).2) (some a) acc | none => Lib.spansFromP blankP s f (pos + (Utf8.decode s pos).2) (some pos) acc) = Lib.spansFromP blankP s f (pos + (Utf8.decode s pos).2) (some pos) acc from rfl]
        rw [ih _ (some pos) acc (by omega) (by omega) (fun a h => by cases h; omega)]
        congr 2
        show (s.data.toList.drop pos).take (pos + (Utf8.decode s pos).2 - pos) = [] ++ _
        rw [List.nil_append, Nat.add_sub_cancel_left]
      | some a =>
        have ha := h3 a rfl
        rw [show (match (some a : Option Nat) with | some a => Lib.spansFromP blankP s f (pos + (Utf8.decode s pos).2) (some a) acc | none => Lib.spansFromP blankP s f (pos + (Utf8.decode s pos).2) (some pos) acc) = Lib.spansFromP blankP s f (pos + (Utf8.decode s pos).2) (some a) acc from rfl]
        rw [ih _ (some a) acc (by omega) (by omega) (fun b h => by cases h; omega)]
        congr 2
        exact (take_more _ a pos _ (by omega)).symm
theorem fields_W (l : List UInt8) : (Lib.goFieldsP blankP ⟨l.toArray⟩).map (fun x => x.data.toList) = refW [] l := by
  unfold Lib.goFieldsP Lib.spansOfP
  rw [List.map_map]
  have := spans_W ⟨l.toArray⟩ (⟨l.toArray⟩ : ByteArray).size 0 none [] (by omega) (Nat.zero_le _) (fun a h => by cases h)
  exact this
theorem pre_ss (x : UInt8) (r : List UInt8) : ([47, 47] : List UInt8).isPrefixOf (x :: r) = decide (x = 47 ∧ r.head? = some 47) := by
  cases r with
  | nil => simp [List.isPrefixOf]
  | cons y t =>
    simp only [List.isPrefixOf, Bool.and_true, List.head?_cons, Option.some.injEq]
    rw [Bool.eq_iff_iff]
    simp only [Bool.and_eq_true, beq_iff_eq, decide_eq_true_eq]
    exact ⟨fun ⟨a, b⟩ => ⟨a.symm, b.symm⟩, fun ⟨a, b⟩ => ⟨a.symm, b.symm⟩⟩
theorem note_index : ∀ (l : List UInt8), (Lib.index l [47, 47] = -1 ∧ noteL l = l) ∨ (∃ o : Nat, Lib.index l [47, 47] = o ∧ noteL l = l.take o)
  | [] => .inl ⟨by rw [Lib.index]; rfl, rfl⟩
  | x :: r => by
    rw [Lib.index, pre_ss, noteL]
    by_cases h : x = 47 ∧ r.head? = some 47
    · rw [if_pos h, decide_eq_true h]
      exact .inr ⟨0, rfl, rfl⟩
    · rw [if_neg h, decide_eq_false h]
      rcases note_index r with ⟨h1, h2⟩ | ⟨o, h1, h2⟩
      · rw [h1, h2]; exact .inl ⟨rfl, rfl⟩
      · rw [h1, h2]
        refine .inr ⟨o + 1, ?_, rfl⟩
        simp
theorem cut_note (l : List UInt8) : cut1 l [47, 47] = ⟨(noteL l).toArray⟩ := by
  unfold cut1 Lib.cut
  rcases note_index l with ⟨h1, h2⟩ | ⟨o, h1, h2⟩
  · rw [h1, h2, if_neg (by decide)]
  · rw [h1, h2, if_pos (by omega), Int.toNat_natCast]
theorem words_W (l : List UInt8) : (wordsL l).map (fun x => x.data.toList) = refW [] (noteL l) := by
  unfold wordsL wordsV
  rw [cut_note]
  exact fields_W _
theorem refW_ne : ∀ (l one : List UInt8), ∀ x ∈ refW one l, x ≠ []
  | [], one, x, h => by
    rw [refW] at h
    unfold endW at h
    split at h
    · cases h
    · rename_i hn; rw [List.mem_singleton.1 h]; exact hn
  | y :: r, one, x, h => by
    rw [refW] at h
    split at h
    · rcases List.mem_append.1 h with h | h
      · unfold endW at h
        split at h
        · cases h
        · rename_i hn; rw [List.mem_singleton.1 h]; exact hn
      · exact refW_ne r _ x h
    · exact refW_ne r _ x h
end Go.Proofs.YtlgolagedgllbaaDoor
