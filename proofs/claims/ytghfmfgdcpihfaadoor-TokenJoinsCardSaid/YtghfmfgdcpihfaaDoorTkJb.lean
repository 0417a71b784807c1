import Derived.Test.YtghfmfgdcpihfaaDoorTkJa
namespace Go.Proofs.YtghfmfgdcpihfaaDoor
open Go.RowKit
set_option linter.unusedSimpArgs false
set_option linter.unusedVariables false
set_option linter.unusedSectionVars false

/-! TokenJoins: the tokens, written with blanks between, are scanned as they were (pure). -/
theorem good_ref {s : ByteArray} (hv : Valid s) : ∀ (f a : Nat) (tk nt : List Tok) (r : List Tok × List Tok), On s a → s.size < f + a → (∀ t ∈ tk, KOK t) → Good tk a → refF s f a tk nt = .ok r → Good r.1 (s.size + 1) := by
  intro f
  induction f with
  | zero => intro a tk nt r h1 h2; have := h1.le; omega
  | succ f ih =>
    intro a tk nt r hon hf hk hG h
    rw [refF] at h
    by_cases hlt : a < s.size
    · rw [if_pos hlt] at h
      cases hT : refStepF s tk nt a with
      | none => rw [hT] at h; cases h
      | some x =>
        obtain ⟨tk', nt', m⟩ := x
        rw [hT] at h
        have hT2 := (take_ref hlt hon (hv a hon hlt) hk).trans hT
        obtain ⟨hn, hon'⟩ := takeF_on hlt hon hT2
        exact ih _ _ _ _ hon' (by omega) (kok_take hlt hk hT2) (good_step hlt hon hv hT hG hn) h
    · rw [if_neg hlt] at h
      cases h
      exact hG.ends (by have := hon.le; omega) _
theorem good_scan {s : ByteArray} {tk nt : List Tok} (h : scanF s = .ok (tk, nt)) : Good tk (s.size + 1) := by
  have hw : ¬ 0 ≤ wrongF s := by
    intro hw
    unfold scanF at h
    rw [if_pos hw] at h
    split at h <;> cases h
  rw [← ref_scan] at h
  unfold refScanF at h
  split at h
  · cases h
  split at h
  · cases h
  split at h
  · rename_i r hr
    cases h
    exact good_ref (valid_of hw) _ _ _ _ _ (On.zero s) (by omega) (by simp) ⟨by simp, by simp [joinL]⟩ hr
  · cases h

def key (t : Tok) : Int × ByteArray := (t.kind, t.text)
theorem key_mem {tk l : List Tok} (h : tk.map key = l.map key) {t : Tok} (ht : t ∈ tk) : ∃ u ∈ l, u.kind = t.kind ∧ u.text = t.text := by
  have : key t ∈ l.map key := by rw [← h]; exact List.mem_map.2 ⟨t, ht, rfl⟩
  obtain ⟨u, hu, he⟩ := List.mem_map.1 this
  simp only [key, Prod.mk.injEq] at he
  exact ⟨u, hu, he.1, he.2⟩
theorem key_last {tk l : List Tok} (h : tk.map key = l.map key) {t : Tok} (ht : tk.getLast? = some t) : ∃ u, l.getLast? = some u ∧ u.kind = t.kind ∧ u.text = t.text := by
  have h1 : (tk.map key).getLast? = some (key t) := by rw [List.getLast?_map, ht]; rfl
  rw [h, List.getLast?_map] at h1
  obtain ⟨u, hu, he⟩ := Option.map_eq_some_iff.1 h1
  simp only [key, Prod.mk.injEq] at he
  exact ⟨u, hu, he.1, he.2⟩
theorem kok_key {t u : Tok} (h1 : u.kind = t.kind) (h2 : u.text = t.text) (h : KOK u) : KOK t := by
  obtain ⟨a, b, c, d, e, f, g⟩ := h
  rw [h1, h2] at *
  exact ⟨a, b, c, d, e, f, g⟩
theorem kok_keys {tk l : List Tok} (h : tk.map key = l.map key) (hk : ∀ t ∈ l, KOK t) : ∀ t ∈ tk, KOK t := fun t ht => by
  obtain ⟨u, hu, h1, h2⟩ := key_mem h ht
  exact kok_key h1 h2 (hk u hu)
theorem endF_keep {tk : List Tok} {a : Nat} (h : ∀ t, tk.getLast? = some t → closesB t.kind t.text.toList = false) : endF tk a = tk := by
  unfold endF
  split
  · rename_i t ht
    rw [h t ht]; rfl
  · rfl
theorem endF_at {tk : List Tok} {a : Nat} {t : Tok} (ht : tk.getLast? = some t) (h : closesB t.kind t.text.toList = true) : endF tk a = tk ++ [⟨6, nlB, a⟩] := by
  unfold endF
  rw [ht]
  simp only [h, if_true]
theorem nl_kind {t : Tok} (hS : Shape t) (h : isNl t = true) : t.kind = 6 := by
  have hb : byteN t.text 0 = 10 := by rw [isNl_text h]; decide
  rcases hS with ⟨h, _⟩ | ⟨h0, hal, hk⟩ | ⟨hq, _⟩ | ⟨_, h⟩
  · exact h
  · have := aN_range (hal 0 h0); omega
  · omega
  · exact h
theorem mid_byte (A X B : List UInt8) (i : Nat) (hi : i < X.length) : byteN (ofB (A ++ (X ++ B))) (A.length + i) = (X.getD i 0).toNat := by
  rw [ofB_byte, List.getD_eq_getElem?_getD, List.getElem?_append_right (by omega), Nat.add_sub_cancel_left, List.getElem?_append_left hi, ← List.getD_eq_getElem?_getD]

theorem join_walk (l : List Tok) (hS : ∀ t ∈ l, Shape t) (hK : ∀ t ∈ l, KOK t) (hL : LOK l) (hE : ∀ t, l.getLast? = some t → closesB t.kind t.text.toList = false) :
    ∀ (rest done : List Tok) (f : Nat) (tk : List Tok), l = done ++ rest → tk.map key = done.map key → (ofB (joinL l)).size < f + (joinL done).length →
      ∃ m, refF (ofB (joinL l)) f (joinL done).length tk [] = .ok (m, []) ∧ m.map key = l.map key := by
  intro rest
  induction rest with
  | nil =>
    intro done f tk hl hkey hf
    rw [List.append_nil] at hl
    subst hl
    rw [ofB_size] at hf
    obtain ⟨f, rfl⟩ : ∃ x, f = x + 1 := ⟨f - 1, by omega⟩
    have hkk := kok_keys hkey hK
    refine ⟨tk, ?_, hkey⟩
    rw [refF, ofB_size, if_neg (by omega), endsF_eq hkk, endF_keep]
    intro t ht
    obtain ⟨u, hu, h1, h2⟩ := key_last hkey ht
    rw [← h1, ← h2]
    exact hE u hu
  | cons t rest ih =>
    intro done f tk hl hkey hf
    have htl : t ∈ l := by rw [hl]; simp
    have hSt := hS t htl
    have hl2 : l = (done ++ [t]) ++ rest := by rw [hl]; simp
    have hj : joinL l = joinL done ++ (piece t ++ joinL rest) := by rw [hl, joinL, List.flatMap_append]; rfl
    have hjz : (joinL l).length = (joinL done).length + ((piece t).length + (joinL rest).length) := by rw [hj]; simp
    have hsn : (joinL (done ++ [t])).length = (joinL done).length + (piece t).length := by rw [joinL_snoc]; simp
    have hpl := piece_len t
    have hbyte : ∀ i, i < (piece t).length → byteN (ofB (joinL l)) ((joinL done).length + i) = ((piece t).getD i 0).toNat := fun i hi => by rw [hj]; exact mid_byte _ _ _ i hi
    have hkk : ∀ u ∈ tk, KOK u := kok_keys hkey (fun u hu => hK u (by rw [hl]; exact List.mem_append.2 (.inl hu)))
    rw [ofB_size] at hf
    have hcz : (ofB (joinL l)).size = (joinL l).length := ofB_size _
    cases hn : isNl t with
    | true =>
      have htx := isNl_text hn
      rw [hn, if_pos rfl, htx] at hpl
      have hpl1 : (piece t).length = 1 := hpl
      have hp : piece t = [10] := by unfold piece; rw [hn, htx]; rfl
      have hb := hbyte 0 (by omega)
      rw [hp, Nat.add_zero] at hb
      have hb10 : byteN (ofB (joinL l)) (joinL done).length = 10 := hb
      obtain ⟨f, rfl⟩ : ∃ x, f = x + 1 := ⟨f - 1, by omega⟩
      obtain ⟨j, u, hj1, hu, hcl⟩ := hL done.length t (by rw [hl]; simp) (by unfold isNl at hn; simpa using hn)
      have hdl : done.getLast? = some u := by
        rw [List.getLast?_eq_getElem?, show done.length - 1 = j by omega]
        rw [hl, List.getElem?_append_left (by omega)] at hu
        exact hu
      have hends : endsF tk (joinL done).length = tk ++ [⟨6, nlB, (joinL done).length⟩] := by
        rw [endsF_eq hkk]
        obtain ⟨v, hv, h1, h2⟩ := key_last hkey.symm hdl
        exact endF_at hv (by rw [h1, h2]; exact hcl)
      have hst : refStepF (ofB (joinL l)) tk [] (joinL done).length = some (tk ++ [⟨6, nlB, (joinL done).length⟩], [], 1) := by
        unfold refStepF
        rw [if_neg (by omega), if_pos hb10, hends]
      have hIH := ih (done ++ [t]) f (tk ++ [⟨6, nlB, (joinL done).length⟩]) hl2 (by
        rw [List.map_append, List.map_append, hkey]
        simp only [List.map_cons, List.map_nil, key]
        rw [nl_kind hSt hn, htx]) (by rw [hcz, hsn]; omega)
      rw [refF, if_pos (by omega), hst]
      rw [hsn, hpl1] at hIH
      exact hIH
    | false =>
      rw [hn, if_neg (by decide)] at hpl
      have hp : piece t = t.text.data.toList ++ [32] := by unfold piece; rw [hn]; rfl
      have hlen : t.text.data.toList.length = t.text.size := by simp
      have hb : ∀ i, i < t.text.size → byteN (ofB (joinL l)) ((joinL done).length + i) = byteN t.text i := by
        intro i hi
        rw [hbyte i (by omega), hp, List.getD_eq_getElem?_getD, List.getElem?_append_left (by omega), ← List.getD_eq_getElem?_getD]
        rfl
      have h32 : byteN (ofB (joinL l)) ((joinL done).length + t.text.size) = 32 := by
        rw [hbyte _ (by omega), hp, List.getD_eq_getElem?_getD, List.getElem?_append_right (by omega), hlen, Nat.sub_self]
        rfl
      obtain ⟨hst, hpos⟩ := join_step tk [] hSt hn (by rw [hcz]; omega) hb h32
      obtain ⟨f, rfl⟩ : ∃ x, f = x + 1 + 1 := ⟨f - 2, by omega⟩
      have hst2 : refStepF (ofB (joinL l)) (tk ++ [⟨t.kind, t.text, (joinL done).length⟩]) [] ((joinL done).length + t.text.size) = some (tk ++ [⟨t.kind, t.text, (joinL done).length⟩], [], 1) := by
        unfold refStepF
        rw [if_neg (by omega), if_neg (by omega), if_pos (by omega)]
      have hIH := ih (done ++ [t]) f (tk ++ [⟨t.kind, t.text, (joinL done).length⟩]) hl2 (by
        rw [List.map_append, List.map_append, hkey]
        rfl) (by rw [hcz, hsn]; omega)
      rw [refF, if_pos (by omega), hst]
      simp only
      rw [refF, if_pos (by omega), hst2]
      rw [hsn, hpl, ← Nat.add_assoc] at hIH
      exact hIH
/-- The tokens, written with blanks between, are scanned as they were. -/
theorem joins {s : ByteArray} {tk nt : List Tok} (hs : s.size ≤ 1000) (h : scanF s = .ok (tk, nt)) : (joinL tk).length ≤ 2002 ∧ ∃ m, scanF (ofB (joinL tk)) = .ok (m, []) ∧ m.map key = tk.map key := by
  obtain ⟨hS, hz⟩ := good_scan h
  obtain ⟨hL, hE⟩ := lok_scan h
  have hK := kok_scan h
  obtain ⟨m, hm, hkey⟩ := join_walk tk hS hK hL hE tk [] ((ofB (joinL tk)).size + 1) [] rfl rfl (by simp [joinL])
  refine ⟨by omega, m, ?_, hkey⟩
  have hv := (join_valid tk hS).1
  have hcz : (ofB (joinL tk)).size = (joinL tk).length := ofB_size _
  rw [← ref_scan]
  unfold refScanF
  rw [if_neg (by omega), hv, if_neg (by decide)]
  have hm' : refF (ofB (joinL tk)) ((ofB (joinL tk)).size + 1) 0 [] [] = .ok (m, []) := hm
  rw [hm']
end Go.Proofs.YtghfmfgdcpihfaaDoor
