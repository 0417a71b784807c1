import Derived.Test.YtaboimjnhocajaaDoorTkW
import Derived.Test.YtaboimjnhocajaaDoorTkR
namespace Go.Proofs.YtaboimjnhocajaaDoor
open Go.RowKit
set_option linter.unusedSimpArgs false
set_option linter.unusedVariables false

def covB (t : Tok) (k : Nat) : Bool := !(t.kind == 6 && t.text.toList == ([10] : List UInt8)) && decide (t.at_ ≤ (k : Int)) && decide ((k : Int) < t.at_ + (t.text.size : Int))
def usedB (l : List Tok) (k : Nat) : Bool := l.any fun t => covB t k
theorem covB_iff {t : Tok} {k : Nat} : covB t k = true ↔ Cov t k := by
  unfold covB Cov Real
  simp only [Bool.and_eq_true, Bool.not_eq_true', Bool.and_eq_false_imp, beq_iff_eq, beq_eq_false_iff_ne, ne_eq, decide_eq_true_eq, not_and, and_assoc]
theorem covB_of {kd : Int} {x : ByteArray} {a k : Nat} (h : (kd == (6 : Int) && x.toList == ([10] : List UInt8)) = false) : covB ⟨kd, x, a⟩ k = (decide (a ≤ k) && decide (k < a + x.size)) := by
  unfold covB
  simp only [h, Bool.not_false, Bool.true_and]
  rw [Bool.eq_iff_iff]
  simp only [Bool.and_eq_true, decide_eq_true_eq]
  omega
theorem usedB_snoc (l : List Tok) (t : Tok) (k : Nat) : usedB (l ++ [t]) k = (usedB l k || covB t k) := by simp [usedB]
theorem take_snoc {α : Type} (l : List α) (i : Nat) (h : i < l.length) : l.take (i + 1) = l.take i ++ [l[i]] := by
  rw [List.take_add_one, List.getElem?_eq_getElem h]; rfl

def Apart (t u : Tok) : Prop := Real t → Real u → Ahead t u ∨ Ahead u t
theorem SOK.pairs {src : ByteArray} {cur : Nat} {tk nt : List Tok} (h : SOK src cur tk nt) : (tk ++ nt).Pairwise Apart := by
  rw [List.pairwise_append]
  exact ⟨h.order.imp fun hx hr _ => .inl (hx hr), h.norder.imp fun hx _ _ => .inl hx, fun t ht u hu hr _ => h.apart t ht hr u hu⟩
theorem SOK.fresh {src : ByteArray} {cur : Nat} {tk nt : List Tok} (h : SOK src cur tk nt) (i k : Nat) (hi : i < (tk ++ nt).length) (hc : covB (tk ++ nt)[i] k = true) : usedB ((tk ++ nt).take i) k = false := by
  cases hu : usedB ((tk ++ nt).take i) k with
  | false => rfl
  | true =>
    exfalso
    unfold usedB at hu
    obtain ⟨u, hm, hcu⟩ := List.any_eq_true.1 hu
    have hp := h.pairs
    rw [← List.take_append_drop i (tk ++ nt), List.drop_eq_getElem_cons hi, List.pairwise_append] at hp
    have hap := hp.2.2 u hm _ (List.mem_cons_self ..)
    rw [covB_iff] at hc hcu
    obtain ⟨r1, a1, b1⟩ := hc
    obtain ⟨r2, a2, b2⟩ := hcu
    rcases hap r2 r1 with hx | hx <;> unfold Ahead at hx <;> omega
theorem SOK.all {src : ByteArray} {cur : Nat} {tk nt : List Tok} (h : SOK src cur tk nt) (k : Nat) (hk : k < cur) : Blk src k ∨ usedB (tk ++ nt) k = true := by
  rcases h.cover k hk with h1 | ⟨t, h1, h2⟩ | ⟨t, h1, h2⟩
  · exact .inl h1
  · exact .inr (List.any_eq_true.2 ⟨t, List.mem_append.2 (.inl h1), covB_iff.2 h2⟩)
  · exact .inr (List.any_eq_true.2 ⟨t, List.mem_append.2 (.inr h1), covB_iff.2 h2⟩)
/-- What the law keeps as the end of the last token. -/
def EndAt (tk : List Tok) (i : Nat) (e : Int) : Prop := 0 ≤ e ∧ e ≤ 65536 ∧ (e = 0 ∨ ∃ t ∈ tk.take i, Real t ∧ e = t.at_ + (t.text.size : Int))
theorem SOK.endAt {src : ByteArray} {cur : Nat} {tk nt : List Tok} (h : SOK src cur tk nt) (i : Nat) (e : Int) (hi : i < tk.length) (he : EndAt tk i e) : e ≤ tk[i].at_ := by
  obtain ⟨a, ha, _⟩ := (h.tks _ (List.getElem_mem hi)).1
  rcases he.2.2 with h0 | ⟨t, ht, hr, he⟩
  · omega
  · have hp := h.order
    rw [← List.take_append_drop i tk, List.drop_eq_getElem_cons hi, List.pairwise_append] at hp
    have := hp.2.2 t ht _ (List.mem_cons_self ..) hr
    unfold Ahead at this
    omega

theorem BSl.sub {w : World} {p : Option Addr} {s : ByteArray} (h : BSl w p s) (a n : Nat) (hn : 0 < n) (ha : a + n ≤ s.size) : ∃ b o, p = some ⟨b, o, none⟩ ∧ BSl w (some ⟨b, o + a, none⟩) (s.extract a (a + n)) := by
  rcases h with h | ⟨b, o, rfl, hc, hlt⟩
  · omega
  · refine ⟨b, o, rfl, .inr ⟨b, o + a, rfl, fun i hi => ?_, hlt⟩⟩
    have hz : (s.extract a (a + n)).size = n := ext_size ha
    rw [hz] at hi
    have := hc (a + i) (by omega)
    rw [byteN_ext s a (a + n) i (by omega) ha, Nat.add_assoc]
    exact this
theorem wrongF_le (s : ByteArray) (h : 0 ≤ wrongF s) : wrongF s ≤ s.size := by
  rw [wrongF_eq] at h ⊢
  have : ∀ (f i : Nat), i ≤ s.size → wrongR s f i ≤ s.size := by
    intro f
    induction f with
    | zero => intro i hi; rw [wrongR]; omega
    | succ f ih =>
      intro i hi
      rw [wrongR]
      split
      · rename_i hlt
        split
        · omega
        · have := (signN_size hlt).2.1
          exact ih _ (by omega)
      · omega
  exact this _ _ (Nat.zero_le _)
theorem all_err (src : ByteArray) : ∀ (f pos next : Nat) (tk nt : List Tok) (k : Nat), allF src f pos next tk nt = .error k → k ≤ src.size := by
  intro f
  induction f with
  | zero => intro pos next tk nt k h; cases h
  | succ f ih =>
    intro pos next tk nt k h
    rw [allF] at h
    split at h
    · rename_i hp
      split at h
      · exact ih _ _ _ _ _ h
      · split at h
        · cases h; omega
        · exact ih _ _ _ _ _ h
    · cases h
theorem scan_err_at {s : ByteArray} {at_ n : Int} (hs : s.size ≤ 65536) (h : scanF s = .error (at_, n)) : 0 ≤ at_ ∧ at_ ≤ s.size ∧ (n = 12 ∨ n = 2 ∨ n = 3) := by
  unfold scanF at h
  rw [if_neg (by omega)] at h
  split at h
  · rename_i hw
    cases h
    exact ⟨hw, wrongF_le s hw, by omega⟩
  · split at h
    · cases h
    · rename_i k hk
      cases h
      have := all_err s _ _ _ _ _ _ hk
      exact ⟨by omega, by omega, by omega⟩
theorem clean_len (src : ByteArray) : ∀ (f a : Nat) (tk nt : List Tok) (r : List Tok × List Tok), On src a → tk.length ≤ a → nt.length ≤ a → cleanF src f a tk nt = .ok r → r.1.length ≤ src.size + 1 ∧ r.2.length ≤ src.size := by
  intro f
  induction f with
  | zero => intro a tk nt r hon h1 h2 h; cases h; have := hon.le; exact ⟨by simp only; omega, by simp only; omega⟩
  | succ f ih =>
    intro a tk nt r hon h1 h2 h
    rw [cleanF] at h
    have hle := hon.le
    by_cases hlt : a < src.size
    · rw [if_pos hlt] at h
      cases hT : takeF src (src.extract a src.size) tk nt a ((Utf8.decode src a).1 : Nat) with
      | none => rw [hT] at h; cases h
      | some x =>
        obtain ⟨tk', nt', m⟩ := x
        rw [hT] at h
        obtain ⟨hm, hon'⟩ := takeF_on hlt hon hT
        obtain ⟨l1, l2⟩ := takeF_len hT
        exact ih _ _ _ _ hon' (by omega) (by omega) h
    · rw [if_neg hlt] at h
      cases h
      have := endF_len tk src.size
      exact ⟨by simp only; omega, by simp only; omega⟩
theorem scan_len {s : ByteArray} {tk nt : List Tok} (h : scanF s = .ok (tk, nt)) : tk.length ≤ 65537 ∧ nt.length ≤ 65536 := by
  unfold scanF at h
  by_cases h1 : 65536 < s.size
  · rw [if_pos h1] at h; cases h
  rw [if_neg h1] at h
  split at h
  · cases h
  · rw [all_clean0] at h
    cases hc : cleanF s (s.size + 1) 0 [] [] with
    | error k => rw [hc] at h; cases h
    | ok r =>
      rw [hc] at h
      cases h
      have := clean_len s _ _ _ _ _ (On.zero s) (Nat.le_refl _) (Nat.le_refl _) hc
      simp only at this
      omega
end Go.Proofs.YtaboimjnhocajaaDoor
