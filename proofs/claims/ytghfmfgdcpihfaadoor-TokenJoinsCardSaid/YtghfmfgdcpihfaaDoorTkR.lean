import Derived.Test.YtghfmfgdcpihfaaDoorTkQ
namespace Go.Proofs.YtghfmfgdcpihfaaDoor
open Go.RowKit
set_option linter.unusedSimpArgs false
set_option linter.unusedVariables false

theorem own_len {w : World} {base e size n : Nat} {v : Value} {xs : List Value} (h : w.ownsRow base e size v n xs) : n ≤ 9223372036854775807 := by
  rcases h.2 with ⟨_, rfl⟩ | ⟨g, cap, cur, _, _, _, h1, h2, _⟩
  · omega
  · unfold maxLen at h2; omega

/-- The cells of a row of tokens. -/
theorem tok_cells {w : World} {base : Nat} {v : Value} {tk : List Tok} (ho : w.ownsRow base 29 3 v tk.length (flat tk)) (hne : tk ≠ []) :
    ∃ g c, v = .slice (some ⟨g, 0, none⟩) tk.length c ∧ g < w.heap.size ∧ ∀ k (h : k < tk.length), w.cell? ⟨g, k * 3, none⟩ = some (.int .i64 tk[k].kind) ∧ w.cell? ⟨g, k * 3 + 1, none⟩ = some (.string tk[k].text) ∧ w.cell? ⟨g, k * 3 + 2, none⟩ = some (.int .i64 tk[k].at_) := by
  rcases ho.2 with ⟨_, h0⟩ | ⟨g, c, cur, rfl, _⟩
  · exact absurd (List.eq_nil_of_length_eq_zero h0) hne
  · refine ⟨g, c, rfl, (ho.lt g rfl).2, fun k h => ?_⟩
    have e : ∀ j, (⟨g, 0, none⟩ : Addr).add j = ⟨g, j, none⟩ := by intro j; unfold Addr.add; split <;> simp_all
    have hf : ∀ (l : List Tok) (k : Nat) (h : k < l.length) (j : Nat), j < 3 → (flat l)[k * 3 + j]? = ([.int .i64 l[k].kind, .string l[k].text, .int .i64 l[k].at_] : List Value)[j]? := by
      intro l
      induction l with
      | nil => intro k h; simp at h
      | cons t l ih =>
        intro k h j hj
        have e1 : flat (t :: l) = [.int .i64 t.kind, .string t.text, .int .i64 t.at_] ++ flat l := rfl
        rw [e1]
        cases k with
        | zero => rw [List.getElem?_append_left (by simp; omega)]; simp
        | succ k =>
          rw [List.getElem?_append_right (by simp; omega)]
          rw [show (k + 1) * 3 + j - ([.int .i64 t.kind, .string t.text, .int .i64 t.at_] : List Value).length = k * 3 + j from by simp; omega, ih k (by simpa using h) j hj]
          simp
    have hc : ∀ j u, (flat tk)[j]? = some u → w.cell? ((⟨g, 0, none⟩ : Addr).add j) = some u := ho.cells (g := g) rfl
    refine ⟨?_, ?_, ?_⟩
    · have := hc (k * 3 + 0) _ (hf tk k h 0 (by omega)); rwa [e] at this
    · have := hc (k * 3 + 1) _ (hf tk k h 1 (by omega)); rwa [e] at this
    · have := hc (k * 3 + 2) _ (hf tk k h 2 (by omega)); rwa [e] at this

theorem scan_err {s : ByteArray} {at_ n : Int} (h : scanF s = .error (at_, n)) : n = 12 ∨ n = 2 ∨ n = 3 := by
  unfold scanF at h
  split at h
  · cases h; exact .inl rfl
  split at h
  · cases h; exact .inr (.inl rfl)
  split at h
  · cases h
  · cases h; exact .inr (.inr rfl)

end Go.Proofs.YtghfmfgdcpihfaaDoor
