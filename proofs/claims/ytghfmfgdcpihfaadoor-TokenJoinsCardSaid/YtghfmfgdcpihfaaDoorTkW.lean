import Derived.Test.YtghfmfgdcpihfaaDoorTkV
namespace Go.Proofs.YtghfmfgdcpihfaaDoor
open Go.RowKit
set_option linter.unusedSimpArgs false
set_option linter.unusedVariables false

/-- No semicolon that was put in. -/
def Real (t : Tok) : Prop := ¬(t.kind = 6 ∧ t.text.toList = ([10] : List UInt8))
/-- It stands in src, and ends at most at cur. -/
def Stand (src : ByteArray) (cur : Nat) (t : Tok) : Prop := ∃ a : Nat, t.at_ = (a : Int) ∧ 0 < t.text.size ∧ a + t.text.size ≤ cur ∧ t.text = src.extract a (a + t.text.size)
/-- One ends ahead of the other. -/
def Ahead (t u : Tok) : Prop := t.at_ + (t.text.size : Int) ≤ u.at_
/-- A byte that may stand between tokens. -/
def Blk (src : ByteArray) (k : Nat) : Prop := byteN src k = 32 ∨ byteN src k = 9 ∨ byteN src k = 13 ∨ byteN src k = 10 ∨ (k < 3 ∧ 3 ≤ src.size ∧ byteN src 0 = 239)
def Cov (t : Tok) (k : Nat) : Prop := Real t ∧ t.at_ ≤ (k : Int) ∧ (k : Int) < t.at_ + (t.text.size : Int)

structure SOK (src : ByteArray) (cur : Nat) (tk nt : List Tok) : Prop where
  tks : ∀ t ∈ tk, (∃ a : Nat, t.at_ = (a : Int) ∧ a ≤ cur) ∧ (Real t → Stand src cur t)
  nts : ∀ t ∈ nt, Real t ∧ Stand src cur t
  order : tk.Pairwise fun t u => Real t → Ahead t u
  norder : nt.Pairwise Ahead
  apart : ∀ t ∈ tk, Real t → ∀ u ∈ nt, Ahead t u ∨ Ahead u t
  cover : ∀ k, k < cur → Blk src k ∨ (∃ t ∈ tk, Cov t k) ∨ (∃ t ∈ nt, Cov t k)

theorem Stand.mono {src : ByteArray} {a b : Nat} {t : Tok} (h : Stand src a t) (hab : a ≤ b) : Stand src b t := by
  obtain ⟨k, h1, h2, h3, h4⟩ := h
  exact ⟨k, h1, h2, by omega, h4⟩
theorem Stand.ahead {src : ByteArray} {a : Nat} {t u : Tok} (h : Stand src a t) {n : Nat} (hu : u.at_ = (n : Int)) (han : a ≤ n) : Ahead t u := by
  obtain ⟨k, h1, h2, h3, h4⟩ := h
  unfold Ahead
  rw [h1, hu]; omega

theorem sok_nil (src : ByteArray) : SOK src 0 [] [] :=
  ⟨by simp, by simp, List.Pairwise.nil, List.Pairwise.nil, by simp, by intro k h; omega⟩

/-- Going on over blanks. -/
theorem SOK.skip {src : ByteArray} {cur m : Nat} {tk nt : List Tok} (h : SOK src cur tk nt) (hb : ∀ k, cur ≤ k → k < cur + m → Blk src k) : SOK src (cur + m) tk nt where
  tks t ht := by
    obtain ⟨⟨a, h1, h2⟩, h3⟩ := h.tks t ht
    exact ⟨⟨a, h1, by omega⟩, fun hr => (h3 hr).mono (by omega)⟩
  nts t ht := ⟨(h.nts t ht).1, (h.nts t ht).2.mono (by omega)⟩
  order := h.order
  norder := h.norder
  apart := h.apart
  cover k hk := by
    by_cases hc : k < cur
    · exact h.cover k hc
    · exact .inl (hb k (by omega) hk)

theorem nl_list : nlB.toList = ([10] : List UInt8) := by kernel_rfl
/-- A semicolon is put in. -/
theorem SOK.nl {src : ByteArray} {cur : Nat} {tk nt : List Tok} (h : SOK src cur tk nt) : SOK src cur (tk ++ [⟨6, nlB, (cur : Nat)⟩]) nt where
  tks t ht := by
    rcases List.mem_append.1 ht with ht | ht
    · exact h.tks t ht
    · rw [List.mem_singleton.1 ht]
      exact ⟨⟨cur, rfl, Nat.le_refl _⟩, fun hr => absurd ⟨rfl, nl_list⟩ hr⟩
  nts := h.nts
  order := by
    rw [List.pairwise_append]
    refine ⟨h.order, by simp, fun t ht u hu hr => ?_⟩
    rw [List.mem_singleton.1 hu]
    exact ((h.tks t ht).2 hr).ahead rfl (Nat.le_refl _)
  norder := h.norder
  apart t ht hr u hu := by
    rcases List.mem_append.1 ht with ht | ht
    · exact h.apart t ht hr u hu
    · rw [List.mem_singleton.1 ht] at hr
      exact absurd ⟨rfl, nl_list⟩ hr
  cover k hk := by
    rcases h.cover k hk with h1 | ⟨t, h1, h2⟩ | h1
    · exact .inl h1
    · exact .inr (.inl ⟨t, List.mem_append.2 (.inl h1), h2⟩)
    · exact .inr (.inr h1)
theorem SOK.endF {src : ByteArray} {cur : Nat} {tk nt : List Tok} (h : SOK src cur tk nt) : SOK src cur (endF tk cur) nt := by
  unfold Go.Proofs.YtghfmfgdcpihfaaDoor.endF
  split
  · split
    · exact h.nl
    · exact h
  · exact h

theorem ext_size {src : ByteArray} {a n : Nat} (h : a + n ≤ src.size) : (src.extract a (a + n)).size = n := by simp; omega

/-- A token more. -/
theorem SOK.tok {src : ByteArray} {cur n : Nat} {k : Int} {tk nt : List Tok} (h : SOK src cur tk nt) (hn : n ≠ 0) (hs : cur + n ≤ src.size) (h10 : byteN src cur ≠ 10) :
    SOK src (cur + n) (tk ++ [⟨k, src.extract cur (cur + n), (cur : Nat)⟩]) nt := by
  have hz := ext_size hs
  have hst : Stand src (cur + n) ⟨k, src.extract cur (cur + n), (cur : Nat)⟩ := ⟨cur, rfl, by simp only [hz]; omega, by simp only [hz]; omega, by simp only [hz]⟩
  have hre : Real ⟨k, src.extract cur (cur + n), (cur : Nat)⟩ := by
    rintro ⟨_, h2⟩
    have e : byteN (src.extract cur (cur + n)) 0 = 10 := byteN_head h2
    rw [byteN_ext src cur (cur + n) 0 (by omega) hs] at e
    exact h10 e
  refine ⟨fun t ht => ?_, fun t ht => ⟨(h.nts t ht).1, (h.nts t ht).2.mono (by omega)⟩, ?_, h.norder, fun t ht hr u hu => ?_, fun j hj => ?_⟩
  · rcases List.mem_append.1 ht with ht | ht
    · obtain ⟨⟨a, h1, h2⟩, h3⟩ := h.tks t ht
      exact ⟨⟨a, h1, by omega⟩, fun hr => (h3 hr).mono (by omega)⟩
    · rw [List.mem_singleton.1 ht]
      exact ⟨⟨cur, rfl, by omega⟩, fun _ => hst⟩
  · rw [List.pairwise_append]
    refine ⟨h.order, by simp, fun t ht u hu hr => ?_⟩
    rw [List.mem_singleton.1 hu]
    exact ((h.tks t ht).2 hr).ahead rfl (Nat.le_refl _)
  · rcases List.mem_append.1 ht with ht | ht
    · exact h.apart t ht hr u hu
    · rw [List.mem_singleton.1 ht]
      exact .inr ((h.nts u hu).2.ahead rfl (Nat.le_refl _))
  · by_cases hc : j < cur
    · rcases h.cover j hc with h1 | ⟨t, h1, h2⟩ | h1
      · exact .inl h1
      · exact .inr (.inl ⟨t, List.mem_append.2 (.inl h1), h2⟩)
      · exact .inr (.inr h1)
    · exact .inr (.inl ⟨_, List.mem_append.2 (.inr (List.mem_singleton.2 rfl)), hre, by simp only; omega, by simp only [hz]; omega⟩)
/-- A note more. -/
theorem SOK.note {src : ByteArray} {cur n : Nat} {tk nt : List Tok} (h : SOK src cur tk nt) (hn : n ≠ 0) (hs : cur + n ≤ src.size) :
    SOK src (cur + n) tk (nt ++ [⟨0, src.extract cur (cur + n), (cur : Nat)⟩]) := by
  have hz := ext_size hs
  have hst : Stand src (cur + n) ⟨0, src.extract cur (cur + n), (cur : Nat)⟩ := ⟨cur, rfl, by simp only [hz]; omega, by simp only [hz]; omega, by simp only [hz]⟩
  have hre : Real ⟨0, src.extract cur (cur + n), (cur : Nat)⟩ := by rintro ⟨h1, _⟩; simp at h1
  refine ⟨fun t ht => ?_, fun t ht => ?_, h.order, ?_, fun t ht hr u hu => ?_, fun j hj => ?_⟩
  · obtain ⟨⟨a, h1, h2⟩, h3⟩ := h.tks t ht
    exact ⟨⟨a, h1, by omega⟩, fun hr => (h3 hr).mono (by omega)⟩
  · rcases List.mem_append.1 ht with ht | ht
    · exact ⟨(h.nts t ht).1, (h.nts t ht).2.mono (by omega)⟩
    · rw [List.mem_singleton.1 ht]
      exact ⟨hre, hst⟩
  · rw [List.pairwise_append]
    refine ⟨h.norder, by simp, fun t ht u hu => ?_⟩
    rw [List.mem_singleton.1 hu]
    exact (h.nts t ht).2.ahead rfl (Nat.le_refl _)
  · rcases List.mem_append.1 hu with hu | hu
    · exact h.apart t ht hr u hu
    · rw [List.mem_singleton.1 hu]
      exact .inl (((h.tks t ht).2 hr).ahead rfl (Nat.le_refl _))
  · by_cases hc : j < cur
    · rcases h.cover j hc with h1 | h1 | ⟨t, h1, h2⟩
      · exact .inl h1
      · exact .inr (.inl h1)
      · exact .inr (.inr ⟨t, List.mem_append.2 (.inl h1), h2⟩)
    · exact .inr (.inr ⟨_, List.mem_append.2 (.inr (List.mem_singleton.2 rfl)), hre, by simp only; omega, by simp only [hz]; omega⟩)

theorem sok_note {src : ByteArray} {tk nt tk' nt' : List Tok} {at_ size n : Nat} (h : SOK src at_ tk nt) (hon : at_ + n ≤ src.size) (he : noteR src tk nt at_ size = some (tk', nt', n)) : SOK src (at_ + n) tk' nt' := by
  unfold noteR at he
  split at he
  · cases he
  · rename_i h0
    cases he
    refine SOK.note ?_ h0 hon
    unfold noteF
    split
    · exact h.endF
    · exact h
theorem sok_tok {src : ByteArray} {tk nt tk' nt' : List Tok} {k : Int} {at_ size n : Nat} (h : SOK src at_ tk nt) (hon : at_ + n ≤ src.size) (h10 : byteN src at_ ≠ 10) (he : tokR src tk nt k at_ size = some (tk', nt', n)) : SOK src (at_ + n) tk' nt' := by
  unfold tokR at he
  split at he
  · cases he
  · rename_i h0
    cases he
    exact h.tok h0 hon h10

theorem sok_take {src : ByteArray} {tk nt tk' nt' : List Tok} {at_ n : Nat} (ha : at_ < src.size) (hon : On src at_) (hv : badAt src at_ (Utf8.decode src at_).1 = false) (hk : SOK src at_ tk nt)
    (h : takeF src (src.extract at_ src.size) tk nt at_ ((Utf8.decode src at_).1 : Nat) = some (tk', nt', n)) : SOK src (at_ + n) tk' nt' := by
  have hend := (takeF_on ha hon h).2.le
  have hlow : (Utf8.decode src at_).1 < 128 → byteN src at_ = (Utf8.decode src at_).1 ∧ (Utf8.decode src at_).2 = 1 := fun hr => by
    rcases dec_byte src at_ ha with ⟨h1, h2, _⟩ | ⟨h1, _⟩
    · exact ⟨h1.symm, h2⟩
    · omega
  have h10 : ((Utf8.decode src at_).1 : Int) ≠ 10 → byteN src at_ ≠ 10 := by
    intro hne he
    rcases dec_byte src at_ ha with ⟨h1, h2, _⟩ | ⟨h1, h2⟩
    · omega
    · omega
  unfold takeF at h
  split at h
  · rename_i hr
    cases h
    refine hk.endF.skip fun k h1 h2 => ?_
    obtain rfl : k = at_ := by omega
    exact .inr (.inr (.inr (.inl (by rw [(hlow (by omega)).1]; omega))))
  rename_i hne
  split at h
  · rename_i hbl
    cases h
    have hr : (Utf8.decode src at_).1 = 32 ∨ (Utf8.decode src at_).1 = 9 ∨ (Utf8.decode src at_).1 = 13 ∨ (Utf8.decode src at_).1 = 65279 := by
      simp only [blankI, Bool.or_eq_true, beq_iff_eq] at hbl; omega
    unfold blankN at hend ⊢
    by_cases hm : (Utf8.decode src at_).1 = 65279
    · rw [if_pos (by omega)] at hend ⊢
      have hz : at_ = 0 := by
        unfold badAt at hv
        simp only [Bool.or_eq_false_iff, Bool.and_eq_false_imp, beq_iff_eq, decide_eq_false_iff_not] at hv
        have := hv.1.2 (by omega)
        omega
      subst hz
      have hb := (dec_mark ha hm).2.1
      have hend' : 3 ≤ src.size := by simpa using hend
      refine hk.skip fun k h1 h2 => ?_
      have h2' : k < 3 := by simpa using h2
      exact .inr (.inr (.inr (.inr ⟨h2', hend', hb⟩)))
    · rw [if_neg (by omega)] at hend ⊢
      refine hk.skip fun k h1 h2 => ?_
      have h2' : k < at_ + 1 := by simpa using h2
      obtain rfl : k = at_ := by omega
      have hb := (hlow (by omega)).1
      unfold Blk
      omega
  split at h
  · exact sok_note hk hend h
  split at h
  · exact sok_note hk hend h
  split at h
  · exact sok_tok hk hend (h10 hne) h
  split at h
  · exact sok_tok hk hend (h10 hne) h
  split at h
  · exact sok_tok hk hend (h10 hne) h
  split at h
  · exact sok_tok hk hend (h10 hne) h
  · exact sok_tok hk hend (h10 hne) h

/-- No sign is wrong. -/
def Valid (s : ByteArray) : Prop := ∀ p, On s p → p < s.size → badAt s p (Utf8.decode s p).1 = false
theorem valid_each (s : ByteArray) : ∀ (f l c k : Nat), s.size < f + walkN s k → eachF s (wrongStep s) f (-1) (walkN s k) l c < 0 → ∀ j, k ≤ j → walkN s j < s.size → badAt s (walkN s j) (Utf8.decode s (walkN s j)).1 = false := by
  intro f
  induction f with
  | zero => intro l c k h1; have := walkN_le s k; omega
  | succ f ih =>
    intro l c k h1 h2 j hkj hj
    have hm := walkN_mono s hkj
    have hlt : walkN s k < s.size := by omega
    have hd := dec_width s _ hlt
    have hw : walkN s (k + 1) = walkN s k + (Utf8.decode s (walkN s k)).2 := by rw [walkN, if_pos hlt]
    by_cases hbad : badAt s (walkN s k) (Utf8.decode s (walkN s k)).1 = true
    · rw [eachF_stop hlt (st2 := ((walkN s k : Nat) : Int)) (by simp [wrongStep, hbad])] at h2
      omega
    · have hbad' : badAt s (walkN s k) (Utf8.decode s (walkN s k)).1 = false := by simpa using hbad
      rw [eachF_go hlt (st2 := (-1 : Int)) (by simp [wrongStep, hbad']), ← hw] at h2
      by_cases he : j = k
      · subst he; exact hbad'
      · exact ih _ _ (k + 1) (by omega) h2 j (by omega) hj
theorem valid_of {s : ByteArray} (h : ¬ 0 ≤ wrongF s) : Valid s := by
  rintro p ⟨j, rfl⟩ hp
  exact valid_each s (s.size + 1) 1 1 0 (by omega) (by unfold wrongF at h; simp only [walkN]; omega) j (Nat.zero_le _) hp

theorem sok_clean (src : ByteArray) (hv : Valid src) : ∀ (f at_ : Nat) (tk nt : List Tok) (r : List Tok × List Tok), On src at_ → src.size < f + at_ → SOK src at_ tk nt → cleanF src f at_ tk nt = .ok r → SOK src src.size r.1 r.2 := by
  intro f
  induction f with
  | zero => intro at_ tk nt r h1; have := h1.le; omega
  | succ f ih =>
    intro at_ tk nt r h1 h2 h3 h
    rw [cleanF] at h
    by_cases hlt : at_ < src.size
    · rw [if_pos hlt] at h
      cases hT : takeF src (src.extract at_ src.size) tk nt at_ ((Utf8.decode src at_).1 : Nat) with
      | none => rw [hT] at h; cases h
      | some x =>
        obtain ⟨tk', nt', m⟩ := x
        rw [hT] at h
        obtain ⟨hm, hon⟩ := takeF_on hlt h1 hT
        exact ih _ _ _ _ hon (by omega) (sok_take hlt h1 (hv _ h1 hlt) h3 hT) h
    · rw [if_neg hlt] at h
      cases h
      have := h1.le
      obtain rfl : at_ = src.size := by omega
      exact h3.endF
theorem sok_scan {s : ByteArray} {tk nt : List Tok} (h : scanF s = .ok (tk, nt)) : SOK s s.size tk nt := by
  unfold scanF at h
  split at h
  · cases h
  split at h
  · cases h
  · rename_i hw
    rw [all_clean0] at h
    cases hc : cleanF s (s.size + 1) 0 [] [] with
    | error k => rw [hc] at h; cases h
    | ok r =>
      rw [hc] at h
      cases h
      exact sok_clean s (valid_of hw) _ _ _ _ _ (On.zero s) (by omega) (sok_nil s) hc
end Go.Proofs.YtghfmfgdcpihfaaDoor
