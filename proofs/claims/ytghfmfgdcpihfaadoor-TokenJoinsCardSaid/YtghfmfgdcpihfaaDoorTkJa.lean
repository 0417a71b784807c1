import Derived.Test.YtghfmfgdcpihfaaDoorTkRd
import Derived.Test.YtghfmfgdcpihfaaDoorTkS
import Derived.Test.YtghfmfgdcpihfaaDoorPlX
namespace Go.Proofs.YtghfmfgdcpihfaaDoor
open Go.RowKit
set_option linter.unusedSimpArgs false
set_option linter.unusedVariables false
set_option linter.unusedSectionVars false

/-! TokenJoins: tokens written with blanks between are scanned as they were (pure). -/
theorem aN_range {n : Nat} (h : (letterN n || figureN n) = true) : n < 128 ∧ n ≠ 10 ∧ n ≠ 32 ∧ n ≠ 9 ∧ n ≠ 13 ∧ n ≠ 47 ∧ n ≠ 34 ∧ n ≠ 96 ∧ 0 < n := by
  unfold letterN figureN at h
  simp only [Bool.or_eq_true, Bool.and_eq_true, decide_eq_true_eq, beq_iff_eq] at h
  omega
/-- What a token's text looks like, wherever it stands. -/
def Shape (t : Tok) : Prop :=
  (t.kind = 6 ∧ t.text = nlB) ∨
  (0 < t.text.size ∧ (∀ i, i < t.text.size → (letterN (byteN t.text i) || figureN (byteN t.text i)) = true) ∧ t.kind = (if letterN (byteN t.text 0) then 1 + wordL t.text.toList else 4)) ∨
  ((byteN t.text 0 = 34 ∨ byteN t.text 0 = 96) ∧ 2 ≤ t.text.size ∧ RQ t.text (byteN t.text 0) 1 = t.text.size ∧ ¬ 0 ≤ wrongF t.text ∧ t.kind = 5) ∨
  (t.text ∈ signsL ∧ t.kind = 6)

theorem rq_gt (s : ByteArray) (q : Nat) : ∀ (n k e : Nat), s.size - k = n → RQ s q k = e → k < e ∧ e ≤ s.size := by
  intro n
  induction n using Nat.strongRecOn with
  | ind n ih =>
    intro k e hn h
    rw [rq_step] at h
    split at h
    · rename_i hk
      split at h
      · omega
      split at h
      · omega
      split at h
      · split at h
        · omega
        · have := ih (s.size - (k + 2)) (by omega) (k + 2) e rfl h
          omega
      · have := ih (s.size - (k + 1)) (by omega) (k + 1) e rfl h
        omega
    · omega
theorem rq_last (s : ByteArray) (q : Nat) : ∀ (n k e : Nat), s.size - k = n → RQ s q k = e → byteN s (e - 1) = q := by
  intro n
  induction n using Nat.strongRecOn with
  | ind n ih =>
    intro k e hn h
    rw [rq_step] at h
    split at h
    · rename_i hk
      split at h
      · omega
      split at h
      · rename_i hq
        rw [show e - 1 = k by omega]; exact hq
      split at h
      · split at h
        · omega
        · exact ih (s.size - (k + 2)) (by omega) (k + 2) e rfl h
      · exact ih (s.size - (k + 1)) (by omega) (k + 1) e rfl h
    · omega
/-- Where what stands between quotes ends hangs on its own bytes. -/
theorem rq_local (s c : ByteArray) (q x y e : Nat) : ∀ (n k : Nat), s.size - (k + x) = n → RQ s q (k + x) = ((e + x : Nat) : Int) → (∀ j, k ≤ j → j < e → byteN c (j + y) = byteN s (j + x)) → e + y ≤ c.size →
    RQ c q (k + y) = ((e + y : Nat) : Int) := by
  intro n
  induction n using Nat.strongRecOn with
  | ind n ih =>
    intro k hn h hb hc
    obtain ⟨g1, g2⟩ := rq_gt s q _ _ _ hn h
    have b0 := hb k (Nat.le_refl _) (by omega)
    rw [rq_step, if_pos (by omega)] at h
    rw [rq_step, if_pos (by omega), b0]
    split at h
    · omega
    rename_i a1
    rw [if_neg a1]
    split at h
    · rename_i a2
      rw [if_pos a2]; omega
    rename_i a2
    rw [if_neg a2]
    split at h
    · rename_i a3
      rw [if_pos a3]
      split at h
      · omega
      · rename_i a4
        obtain ⟨g3, g4⟩ := rq_gt s q _ (k + x + 2) _ rfl h
        have b1 := hb (k + 1) (by omega) (by omega)
        have e1 : k + 1 + y = k + y + 1 := by omega
        have e2 : k + 1 + x = k + x + 1 := by omega
        rw [e1, e2] at b1
        rw [if_neg (by omega)]
        have e3 : k + x + 2 = k + 2 + x := by omega
        have e4 : k + y + 2 = k + 2 + y := by omega
        rw [e3] at h
        rw [e4]
        exact ih (s.size - (k + 2 + x)) (by omega) (k + 2) rfl h (fun j h1 h2 => hb j (by omega) h2) hc
    · rename_i a3
      rw [if_neg a3]
      have e3 : k + x + 1 = k + 1 + x := by omega
      have e4 : k + y + 1 = k + 1 + y := by omega
      rw [e3] at h
      rw [e4]
      exact ih (s.size - (k + 1 + x)) (by omega) (k + 1) rfl h (fun j h1 h2 => hb j (by omega) h2) hc

/-! A part of a text that ends with a low byte. -/
theorem decB_cut {b0 b1 b2 b3 c1 c2 c3 n m : Nat} (h : (decB b0 b1 b2 b3 n).2 ≤ m) (hv : decB b0 b1 b2 b3 n ≠ (65533, 1)) (hm : m ≤ n) (e1 : 1 < m → c1 = b1) (e2 : 2 < m → c2 = b2) (e3 : 3 < m → c3 = b3) :
    decB b0 c1 c2 c3 m = decB b0 b1 b2 b3 n := by
  unfold decB at h hv ⊢
  by_cases a0 : b0 < 128
  · rw [if_pos a0, if_pos a0]
  rw [if_neg a0] at h hv ⊢
  rw [if_neg a0]
  by_cases a1 : 192 ≤ b0 ∧ b0 < 224 ∧ 1 < n ∧ 128 ≤ b1 ∧ b1 < 192
  · rw [if_pos a1] at h hv ⊢
    by_cases a2 : 128 ≤ (b0 - 192) * 64 + (b1 - 128)
    · rw [if_pos a2] at h
      have := e1 h
      subst this
      rw [if_pos ⟨a1.1, a1.2.1, h, a1.2.2.2⟩]
    · rw [if_neg a2] at hv; exact absurd rfl hv
  rw [if_neg a1] at h hv ⊢
  by_cases a3 : 224 ≤ b0 ∧ b0 < 240 ∧ (1 < n ∧ 128 ≤ b1 ∧ b1 < 192) ∧ (2 < n ∧ 128 ≤ b2 ∧ b2 < 192)
  · rw [if_pos a3] at h hv ⊢
    split at h
    · rename_i a4
      simp only at h
      have x1 := e1 (by omega)
      have x2 := e2 (by omega)
      subst x1 x2
      rw [if_neg (by omega), if_pos ⟨a3.1, a3.2.1, ⟨by omega, a3.2.2.1.2⟩, ⟨by omega, a3.2.2.2.2⟩⟩]
    · rename_i a4
      rw [if_neg a4] at hv; exact absurd rfl hv
  rw [if_neg a3] at h hv ⊢
  by_cases a5 : 240 ≤ b0 ∧ b0 < 248 ∧ (1 < n ∧ 128 ≤ b1 ∧ b1 < 192) ∧ (2 < n ∧ 128 ≤ b2 ∧ b2 < 192) ∧ (3 < n ∧ 128 ≤ b3 ∧ b3 < 192)
  · rw [if_pos a5] at h hv ⊢
    split at h
    · rename_i a4
      simp only at h
      have x1 := e1 (by omega)
      have x2 := e2 (by omega)
      have x3 := e3 (by omega)
      subst x1 x2 x3
      rw [if_neg (by omega), if_neg (by omega), if_pos ⟨a5.1, a5.2.1, ⟨by omega, a5.2.2.1.2⟩, ⟨by omega, a5.2.2.2.1.2⟩, ⟨by omega, a5.2.2.2.2.2⟩⟩]
    · rename_i a4
      rw [if_neg a4] at hv; exact absurd rfl hv
  · rw [if_neg a5] at hv; exact absurd rfl hv
theorem sub_valid {s : ByteArray} (hv : Valid s) {a e : Nat} (hon : On s a) (he : e ≤ s.size) (hae : a < e) (hl : byteN s (e - 1) < 128) : wrongR (s.extract a e) ((s.extract a e).size + 1) 0 = -1 := by
  have hz : (s.extract a e).size = e - a := by simp; omega
  suffices H : ∀ f i, On s (a + i) → i ≤ e - a → wrongR (s.extract a e) f i = -1 from H _ 0 hon (Nat.zero_le _)
  intro f
  induction f with
  | zero => intro i _ _; rfl
  | succ f ih =>
    intro i ho hi
    by_cases hlt : i < (s.extract a e).size
    · have hp : a + i < s.size := by omega
      obtain ⟨k1, k2⟩ := dec_width s (a + i) hp
      have hke : a + i + (Utf8.decode s (a + i)).2 ≤ e := by
        by_cases h0 : a + i = e - 1
        · rcases dec_byte s (a + i) hp with ⟨_, h1, _⟩ | ⟨_, h1⟩
          · omega
          · rw [h0] at h1; omega
        · by_cases hc : a + i + (Utf8.decode s (a + i)).2 ≤ e
          · exact hc
          · have := inner_hi s (a + i) (e - 1 - (a + i)) hp (by omega) (by omega)
            rw [show a + i + (e - 1 - (a + i)) = e - 1 by omega] at this
            omega
      have hb := hv (a + i) ho hp
      have hnb : ¬ (signV s (a + i) ≤ 0 ∨ (signV s (a + i) = 65279 ∧ 0 < a + i)) := fun h => by
        have := (bad_iff s (a + i) hp).2 h
        rw [hb] at this; cases this
      have hd : Utf8.decode s (a + i) ≠ (65533, 1) := fun h => hnb (.inl (by rw [signV_dec s _ hp, if_pos h]; omega))
      have hb3 : ∀ j, i + j < e - a → byteN (s.extract a e) (i + j) = byteN s (a + i + j) := fun j hj => by rw [byteN_ext s a e (i + j) (by omega) he, Nat.add_assoc]
      have hb30 : byteN (s.extract a e) i = byteN s (a + i) := byteN_ext s a e i (by omega) he
      have hde : Utf8.decode (s.extract a e) i = Utf8.decode s (a + i) := by
        have h2 := decode_B s (a + i) hp
        rw [decode_B _ i hlt, hb30, hz]
        rw [h2] at hke hd ⊢
        exact decB_cut (by omega) hd (by omega) (fun h => hb3 1 (by omega)) (fun h => hb3 2 (by omega)) (fun h => hb3 3 (by omega))
      have hV : signV (s.extract a e) i = signV s (a + i) := by rw [signV_dec _ i hlt, signV_dec s _ hp, hde]
      have hN : signN (s.extract a e) i = (Utf8.decode s (a + i)).2 := by rw [← signN_dec _ i hlt, hde]
      rw [wrongR, if_pos hlt, hV, hN, if_neg (by omega)]
      exact ih _ (by rw [← Nat.add_assoc]; exact ho.step hp) (by omega)
    · rw [wrongR, if_neg hlt]
theorem wrong_low (s : ByteArray) (h : ∀ i, i < s.size → 0 < byteN s i ∧ byteN s i < 128) : ∀ f i, i ≤ s.size → wrongR s f i = -1 := by
  intro f
  induction f with
  | zero => intro i _; rfl
  | succ f ih =>
    intro i hi
    by_cases hlt : i < s.size
    · have hb := h i hlt
      have hv := signV_dec s i hlt
      have hn := signN_dec s i hlt
      rw [decode_B s i hlt, decB, if_pos hb.2] at hv hn
      simp at hv hn
      rw [wrongR, if_pos hlt, hv, ← hn, if_neg (by omega)]
      exact ih _ (by omega)
    · rw [wrongR, if_neg hlt]
theorem wrongR_neg (s : ByteArray) : ∀ f i, ¬ 0 ≤ wrongR s f i → wrongR s f i = -1
  | 0, i, h => rfl
  | f + 1, i, h => by
    rw [wrongR] at h ⊢
    split at h
    · rename_i h1
      rw [if_pos h1]
      split at h
      · omega
      · rename_i h2
        rw [if_neg h2]
        exact wrongR_neg s f _ h
    · rename_i h1
      rw [if_neg h1]

/-! The signs. -/
theorem sg_byte : ∀ x ∈ signsL, 0 < x.size ∧ x.size ≤ 3 ∧ (∀ i, i < x.size → 32 < byteN x i ∧ byteN x i < 128) ∧ (letterN (byteN x 0) || figureN (byteN x 0)) = false ∧ byteN x 0 ≠ 34 ∧ byteN x 0 ≠ 96 ∧
    (byteN x 0 = 47 → 2 ≤ x.size → byteN x 1 ≠ 47 ∧ byteN x 1 ≠ 42) := by decide +kernel
theorem toL_inj {x y : ByteArray} (h : x.toList = y.toList) : x = y := by
  rw [Lib.toList_data, Lib.toList_data] at h
  apply ByteArray.ext
  exact Array.toList_inj.1 h
theorem nlB_list : nlB.toList = [10] := by rw [Lib.toList_data]; rfl
theorem inB_mem {x : ByteArray} {L : List ByteArray} (h : inB x L = true) : x ∈ L := by
  induction L with
  | nil => cases h
  | cons y r ih =>
    rw [inB, Bool.or_eq_true] at h
    rcases h with h | h
    · rw [beq_iff_eq] at h
      exact List.mem_cons.2 (.inl (toL_inj h.symm))
    · exact List.mem_cons.2 (.inr (ih h))
theorem inB_of {x : ByteArray} {L : List ByteArray} (h : x ∈ L) : inB x L = true := by
  rw [inB_iff, decide_eq_true_eq]
  exact List.mem_map.2 ⟨x, h, rfl⟩
theorem inB_no {x : ByteArray} {L : List ByteArray} (h : x ∉ L) : inB x L = false := by
  cases hx : inB x L with
  | false => rfl
  | true => exact absurd (inB_mem hx) h
theorem sg3_in : ∀ x ∈ sg3, x ∈ signsL := fun x h => by rw [sg_all]; exact List.mem_append.2 (.inl h)
theorem sg2_in : ∀ x ∈ sg2, x ∈ signsL := fun x h => by rw [sg_all]; exact List.mem_append.2 (.inr (List.mem_append.2 (.inl h)))
theorem sg1_in : ∀ x ∈ sg1, x ∈ signsL := fun x h => by rw [sg_all]; exact List.mem_append.2 (.inr (List.mem_append.2 (.inr h)))
theorem sg_of {x : ByteArray} (h : x ∈ signsL) : (x ∈ sg3 ∧ x.size = 3) ∨ (x ∈ sg2 ∧ x.size = 2) ∨ (x ∈ sg1 ∧ x.size = 1) := by
  rw [sg_all] at h
  rcases List.mem_append.1 h with h | h
  · exact .inl ⟨h, sg3_size x h⟩
  · rcases List.mem_append.1 h with h | h
    · exact .inr (.inl ⟨h, sg2_size x h⟩)
    · exact .inr (.inr ⟨h, sg1_size x h⟩)
theorem refSign_in {s : ByteArray} {a : Nat} (ha : a < s.size) (h : refSignF s a ≠ 0) : a + refSignF s a ≤ s.size ∧ s.extract a (a + refSignF s a) ∈ signsL := by
  unfold refSignF at h ⊢
  split
  · rename_i h3; exact ⟨h3.1, sg3_in _ (inB_mem h3.2)⟩
  · rename_i h3
    rw [if_neg h3] at h
    split
    · rename_i h2; exact ⟨h2.1, sg2_in _ (inB_mem h2.2)⟩
    · rename_i h2
      rw [if_neg h2] at h
      split
      · rename_i h1; exact ⟨by omega, sg1_in _ (inB_mem h1)⟩
      · rename_i h1; rw [if_neg h1] at h; exact absurd rfl h
theorem ext_bytes {c x : ByteArray} {p : Nat} (hz : p + x.size ≤ c.size) (h : ∀ i, i < x.size → byteN c (p + i) = byteN x i) : c.extract p (p + x.size) = x := by
  apply ByteArray.ext
  apply Array.toList_inj.1
  have hl : (c.extract p (p + x.size)).data.toList.length = x.size := by simp; omega
  apply List.ext_getElem (by rw [hl]; simp)
  intro i h1 h2
  have hi : i < x.size := by rw [hl] at h1; exact h1
  have e := byteN_ext c p (p + x.size) i (by omega) hz
  rw [h i hi] at e
  unfold byteN at e
  rw [List.getD_eq_getElem?_getD, List.getD_eq_getElem?_getD, List.getElem?_eq_getElem h1, List.getElem?_eq_getElem h2, Option.getD_some, Option.getD_some] at e
  exact UInt8.toNat_inj.1 e

def isNl (t : Tok) : Bool := t.text.toList == [10]
theorem isNl_nl : ∀ t : Tok, t.text = nlB → isNl t = true := fun t h => by unfold isNl; rw [h, nlB_list]; rfl
theorem isNl_text {t : Tok} (h : isNl t = true) : t.text = nlB := toL_inj (by unfold isNl at h; rw [beq_iff_eq] at h; rw [h, nlB_list])

theorem sign_joined {c x : ByteArray} {p : Nat} (hx : x ∈ signsL) (hz : p + x.size < c.size) (hb : ∀ i, i < x.size → byteN c (p + i) = byteN x i) (h32 : byteN c (p + x.size) = 32) : refSignF c p = x.size := by
  have hxe := ext_bytes (Nat.le_of_lt hz) hb
  have hno : ∀ n y, y ∈ signsL → y.size = n → x.size < n → p + n ≤ c.size → c.extract p (p + n) ≠ y := by
    intro n y hy hyn hlt hle e
    have h1 := (sg_byte y hy).2.2.1 x.size (by omega)
    have h2 := byteN_ext c p (p + n) x.size (by omega) hle
    rw [e, h32] at h2
    omega
  unfold refSignF
  rcases sg_of hx with ⟨h, hn⟩ | ⟨h, hn⟩ | ⟨h, hn⟩
  · rw [hn] at hxe hz ⊢
    rw [if_pos ⟨by omega, by rw [hxe]; exact inB_of h⟩]
  · rw [hn] at hxe hz ⊢
    rw [if_neg (fun h3 => hno 3 _ (sg3_in _ (inB_mem h3.2)) (sg3_size _ (inB_mem h3.2)) (by omega) h3.1 rfl), if_pos ⟨by omega, by rw [hxe]; exact inB_of h⟩]
  · rw [hn] at hxe hz ⊢
    rw [if_neg (fun h3 => hno 3 _ (sg3_in _ (inB_mem h3.2)) (sg3_size _ (inB_mem h3.2)) (by omega) h3.1 rfl),
      if_neg (fun h3 => hno 2 _ (sg2_in _ (inB_mem h3.2)) (sg2_size _ (inB_mem h3.2)) (by omega) h3.1 rfl), if_pos (by rw [hxe]; exact inB_of h)]
theorem note_no {s : ByteArray} {a : Nat} (h : byteN s a = 47 → byteN s (a + 1) ≠ 47 ∧ byteN s (a + 1) ≠ 42) : refNoteF s a = 0 := by
  unfold refNoteF
  split
  · rfl
  split
  · rename_i h47
    obtain ⟨h1, h2⟩ := h h47
    rw [if_neg h1, if_neg h2]
  · rfl
/-- A token with a blank behind it is taken as it is. -/
theorem join_step {c : ByteArray} {p : Nat} {t : Tok} (tk nt : List Tok) (hS : Shape t) (hn : isNl t = false) (hz : p + t.text.size < c.size) (hb : ∀ i, i < t.text.size → byteN c (p + i) = byteN t.text i) (h32 : byteN c (p + t.text.size) = 32) :
    refStepF c tk nt p = some (tk ++ [⟨t.kind, t.text, p⟩], nt, t.text.size) ∧ 0 < t.text.size := by
  obtain ⟨kd, x, at_⟩ := t
  simp only [Shape] at hS
  simp only at hz hb h32 ⊢
  have hxe := ext_bytes (Nat.le_of_lt hz) hb
  have hb0 : 0 < x.size → byteN c p = byteN x 0 := fun h => hb 0 h
  rcases hS with ⟨_, h⟩ | ⟨h0, hal, hk⟩ | ⟨hq, h2, hR, hw, hk⟩ | ⟨hm, hk⟩
  · rw [isNl_nl _ h] at hn; cases hn
  · have hb0 := hb0 h0
    have hr := aN_range (hal 0 h0)
    rw [← hb0] at hr
    have hwe : wordEnd c (c.size + 1) (p + 1) = p + x.size := by
      refine (wordEnd_first c (c.size + 1) (p + 1) (by omega) (by omega)).uniq ⟨by omega, by omega, fun j h1 h2 => ?_, fun _ => ?_⟩
      · have := hb (j - p) (by omega)
        rw [show p + (j - p) = j by omega] at this
        have h3 := hal (j - p) (by omega)
        show (!(letterN (byteN c j) || figureN (byteN c j))) = false
        rw [this, h3]; rfl
      · rw [h32]; rfl
    refine ⟨?_, h0⟩
    unfold refStepF
    rw [if_neg (by omega), if_neg (by omega), if_neg (by omega), note_no (fun h => absurd h (by omega)), if_neg (by decide), if_pos (by rw [hb0]; exact hal 0 h0), hwe, hxe, hb0, Nat.add_sub_cancel_left]
    rw [hk]
  · have hb0 := hb0 (by omega)
    have hl : (letterN (byteN c p) || figureN (byteN c p)) = false := by rw [hb0]; rcases hq with e | e <;> rw [e] <;> rfl
    have hRc : RQ c (byteN x 0) (p + 1) = ((p + x.size : Nat) : Int) := by
      have := rq_local x c (byteN x 0) 0 p x.size _ 1 rfl (by simpa using hR) (fun j h1 h2 => by rw [Nat.add_zero, Nat.add_comm]; exact hb j h2) (by omega)
      rw [Nat.add_comm p 1, Nat.add_comm p x.size]
      exact this
    have hRc' : refQuotedF c (byteN c p) (c.size + 1) (p + 1) = ((p + x.size : Nat) : Int) := by rw [hb0]; exact hRc
    refine ⟨?_, by omega⟩
    unfold refStepF
    rw [if_neg (by omega), if_neg (by omega), if_neg (by omega), note_no (fun h => absurd h (by omega)), if_neg (by decide), hl, if_neg (by decide), if_pos (by omega), hRc', if_neg (by omega), Int.toNat_natCast, hxe, Nat.add_sub_cancel_left, hk]
  · obtain ⟨s0, s3, sb, sa, s34, s96, s47⟩ := sg_byte x hm
    have hb0 := hb0 s0
    have sb0 := sb 0 s0
    have hsg := sign_joined hm hz hb h32
    have hnt : refNoteF c p = 0 := note_no fun h => by
      by_cases h2 : 2 ≤ x.size
      · rw [hb 1 (by omega)]
        exact s47 (by omega) h2
      · rw [show p + 1 = p + x.size by omega, h32]
        exact ⟨by decide, by decide⟩
    refine ⟨?_, s0⟩
    unfold refStepF
    rw [if_neg (by omega), if_neg (by omega), if_neg (by omega), hnt, if_neg (by decide), hb0, sa, if_neg (by decide), if_neg (by omega), hsg, if_neg (by omega), hxe, hk]

/-! What the tokens come to, one behind the other. -/
def piece (t : Tok) : List UInt8 := t.text.data.toList ++ (if isNl t then [] else [32])
def joinL (tk : List Tok) : List UInt8 := tk.flatMap piece
theorem joinL_snoc (tk : List Tok) (t : Tok) : joinL (tk ++ [t]) = joinL tk ++ piece t := by simp [joinL]
theorem joinL_cons (t : Tok) (tk : List Tok) : joinL (t :: tk) = piece t ++ joinL tk := rfl
theorem piece_len (t : Tok) : (piece t).length = t.text.size + (if isNl t then 0 else 1) := by
  unfold piece
  split <;> simp
def ofB (l : List UInt8) : ByteArray := ⟨l.toArray⟩
theorem ofB_size (l : List UInt8) : (ofB l).size = l.length := by simp [ofB, ByteArray.size]
theorem ofB_app (a b : List UInt8) : ofB (a ++ b) = ofB a ++ ofB b := by
  apply ByteArray.ext
  apply Array.toList_inj.1
  simp [ofB]
theorem ofB_text (x : ByteArray) : ofB x.data.toList = x := by
  apply ByteArray.ext
  apply Array.toList_inj.1
  simp [ofB]
theorem ofB_byte (l : List UInt8) (i : Nat) : byteN (ofB l) i = (l.getD i 0).toNat := rfl
theorem shape_valid {t : Tok} (h : Shape t) : wrongR t.text (t.text.size + 1) 0 = -1 ∧ 0 < t.text.size ∧ byteN t.text 0 < 128 := by
  rcases h with ⟨_, h⟩ | ⟨h0, hal, hk⟩ | ⟨hq, h2, hR, hw, hk⟩ | ⟨hm, hk⟩
  · rw [h]; exact ⟨by decide +kernel, by decide, by decide⟩
  · have hr := fun i hi => aN_range (hal i hi)
    exact ⟨wrong_low _ (fun i hi => by have := hr i hi; omega) _ 0 (Nat.zero_le _), h0, (hr 0 h0).1⟩
  · exact ⟨wrongR_neg _ _ _ (by rw [← wrongF_eq]; exact hw), by omega, by omega⟩
  · obtain ⟨s0, s3, sb, _⟩ := sg_byte _ hm
    exact ⟨wrong_low _ (fun i hi => by have := sb i hi; omega) _ 0 (Nat.zero_le _), s0, (sb 0 s0).2⟩
theorem piece_valid {t : Tok} (h : Shape t) : wrongR (ofB (piece t)) ((ofB (piece t)).size + 1) 0 = -1 ∧ byteN (ofB (piece t)) 0 < 128 ∧ 0 < (ofB (piece t)).size := by
  obtain ⟨h1, h2, h3⟩ := shape_valid h
  have hb : byteN (ofB (piece t)) 0 = byteN t.text 0 := by
    rw [ofB_byte, piece, List.getD_eq_getElem?_getD, List.getElem?_append_left (by simpa using h2), ← List.getD_eq_getElem?_getD]; rfl
  refine ⟨?_, by omega, by rw [ofB_size, piece_len]; omega⟩
  unfold piece
  rw [ofB_app, ofB_text]
  refine texts_join _ _ h1 ?_ (.inr ?_)
  · split <;> decide +kernel
  · split <;> decide
theorem join_valid : ∀ (tk : List Tok), (∀ t ∈ tk, Shape t) → wrongR (ofB (joinL tk)) ((ofB (joinL tk)).size + 1) 0 = -1 ∧ byteN (ofB (joinL tk)) 0 < 128
  | [], _ => ⟨by decide +kernel, by decide⟩
  | t :: tk, h => by
    obtain ⟨h1, h2⟩ := join_valid tk (fun u hu => h u (List.mem_cons.2 (.inr hu)))
    obtain ⟨g1, g2, g3⟩ := piece_valid (h t (List.mem_cons.2 (.inl rfl)))
    rw [joinL_cons, ofB_app]
    refine ⟨texts_join _ _ g1 h1 (.inr fun hm => by omega), ?_⟩
    rw [← ofB_app, ofB_byte, List.getD_eq_getElem?_getD, List.getElem?_append_left (by rw [ofB_size] at g3; exact g3), ← List.getD_eq_getElem?_getD]
    exact g2

/-! What the scanner takes has that shape. -/
theorem endsF_cases (tk : List Tok) (a : Nat) : endsF tk a = tk ∨ endsF tk a = tk ++ [⟨6, nlB, a⟩] := by
  unfold endsF
  split
  · exact .inr rfl
  · exact .inl rfl
def Good (tk : List Tok) (a : Nat) : Prop := (∀ t ∈ tk, Shape t) ∧ (joinL tk).length ≤ 2 * a
theorem Good.more {tk : List Tok} {a b : Nat} (h : Good tk a) (hab : a ≤ b) : Good tk b := ⟨h.1, by have := h.2; omega⟩
theorem Good.snoc {tk : List Tok} {a b : Nat} {t : Tok} (h : Good tk a) (ht : Shape t) (hab : a + t.text.size ≤ b) : Good (tk ++ [t]) b := by
  have := (shape_valid ht).2.1
  refine ⟨fun u hu => ?_, ?_⟩
  · rcases List.mem_append.1 hu with hu | hu
    · exact h.1 u hu
    · rw [List.mem_singleton.1 hu]; exact ht
  · rw [joinL_snoc, List.length_append, piece_len]
    have := h.2
    split <;> omega
theorem shape_nl (a : Nat) : Shape ⟨6, nlB, a⟩ := .inl ⟨rfl, rfl⟩
theorem Good.ends {tk : List Tok} {a b : Nat} (h : Good tk a) (hab : a + 1 ≤ b) (c : Nat) : Good (endsF tk c) b := by
  rcases endsF_cases tk c with e | e
  · rw [e]; exact h.more (by omega)
  · rw [e]; exact h.snoc (shape_nl c) (by show a + nlB.size ≤ b; exact hab)
theorem good_step {s : ByteArray} {tk nt tk' nt' : List Tok} {n a : Nat} (ha : a < s.size) (hon : On s a) (hv : Valid s) (h : refStepF s tk nt a = some (tk', nt', n)) (hG : Good tk a) (hn : n ≠ 0) : Good tk' (a + n) := by
  unfold refStepF at h
  split at h
  · cases h; exact hG.more (by omega)
  split at h
  · cases h; exact hG.ends (by omega) _
  split at h
  · cases h; exact hG.more (by omega)
  split at h
  · split at h
    · cases h
    · cases h
      split
      · exact hG.ends (by omega) _
      · exact hG.more (by omega)
  split at h
  · rename_i hal
    cases h
    obtain ⟨f1, f2, f3, _⟩ := wordEnd_first s (s.size + 1) (a + 1) (by omega) (by omega)
    generalize wordEnd s (s.size + 1) (a + 1) = e at *
    have hz : (s.extract a e).size = e - a := by simp; omega
    have hb : ∀ i, i < e - a → byteN (s.extract a e) i = byteN s (a + i) := fun i hi => byteN_ext s a e i hi f2
    refine hG.snoc (.inr (.inl ⟨by simp only [hz]; omega, fun i hi => ?_, ?_⟩)) (by simp only [hz]; omega)
    · simp only [hz] at hi
      rw [hb i hi]
      by_cases h0 : i = 0
      · rw [h0]; exact hal
      · have := f3 (a + i) (by omega) (by omega)
        cases hx : (letterN (byteN s (a + i)) || figureN (byteN s (a + i))) with
        | true => rfl
        | false => simp only [hx] at this; cases this
    · simp only
      rw [hb 0 (by omega), Nat.add_zero]
  rename_i hal
  split at h
  · rename_i hq
    split at h
    · cases h
    · rename_i hneg
      cases h
      obtain ⟨e, he⟩ : ∃ e : Nat, refQuotedF s (byteN s a) (s.size + 1) (a + 1) = e := ⟨(refQuotedF s (byteN s a) (s.size + 1) (a + 1)).toNat, by omega⟩
      rw [he, Int.toNat_natCast] at hn ⊢
      have hR : RQ s (byteN s a) (a + 1) = e := he
      obtain ⟨g1, g2⟩ := rq_gt s _ _ _ _ rfl hR
      have hz : (s.extract a e).size = e - a := by simp; omega
      have hb : ∀ i, i < e - a → byteN (s.extract a e) i = byteN s (a + i) := fun i hi => byteN_ext s a e i hi g2
      have hb0 := hb 0 (by omega)
      rw [Nat.add_zero] at hb0
      have hloc := rq_local s (s.extract a e) (byteN s a) a 0 (e - a) _ 1 rfl (by rw [Nat.add_comm 1 a, hR]; congr 1; omega) (fun j h1 h2 => by rw [Nat.add_zero, hb j h2, Nat.add_comm]) (by omega)
      have hlast : byteN s (e - 1) < 128 := by
        have := rq_last s (byteN s a) _ (a + 1) e rfl hR
        omega
      have hval := sub_valid hv hon g2 (by omega) hlast
      refine hG.snoc (.inr (.inr (.inl ⟨by simp only; omega, by simp only [hz]; omega, ?_, ?_, rfl⟩))) (by simp only [hz]; omega)
      · simp only
        rw [hb0, hz]
        simpa using hloc
      · simp only
        rw [wrongF_eq, hval]; decide
  · split at h
    · cases h
    · rename_i hs0
      cases h
      obtain ⟨g1, g2⟩ := refSign_in ha hs0
      have hz : (s.extract a (a + refSignF s a)).size = refSignF s a := ext_size g1
      exact hG.snoc (.inr (.inr (.inr ⟨g2, rfl⟩))) (by simp only [hz]; omega)
end Go.Proofs.YtghfmfgdcpihfaaDoor
