import Derived.Test.YtjgpopjnmonlkaaGreatDoorKit
import Derived.Test.YtjgpopjnmonlkaaGreatDoorReg
import Derived.Below
import Derived.Deep.OwnRows
import Derived.OwnWalk
import Derived.Deep.AppendLies
namespace Go.Proofs.YtjgpopjnmonlkaaGreatDoor
open Go.RowKit
set_option linter.unusedSimpArgs false
set_option linter.unusedVariables false
set_option linter.unusedSectionVars false

/-! Layer 5: constraints in memory. -/
inductive Ex where
  | node (op tag : ByteArray) (kids : List Ex)
namespace Ex
def op : Ex → ByteArray | .node o _ _ => o
def tag : Ex → ByteArray | .node _ t _ => t
def kids : Ex → List Ex | .node _ _ k => k
end Ex
theorem cell_same {W W' : World} {b : Nat} (h : W'.heap[b]? = W.heap[b]?) (o : Nat) : W'.cell? ⟨b, o, none⟩ = W.cell? ⟨b, o, none⟩ := by
  unfold World.cell?
  simp only [h]
/-! A constraint in memory, of three cells; what it leads to lies in blocks of S. -/
mutual
def ExAt (W : World) (S : Nat → Prop) : Ex → List Value → Prop
  | .node op tag kids, vs => ∃ (a : Option Addr) (cap : Nat), vs = [.string op, .string tag, .slice a kids.length cap] ∧ (kids = [] ∨ ∃ b o, a = some ⟨b, o, none⟩ ∧ S b ∧ b < W.heap.size ∧ kids.length ≤ cap ∧ KidsAt W S b kids o)
def KidsAt (W : World) (S : Nat → Prop) (b : Nat) : List Ex → Nat → Prop
  | [], _ => True
  | k :: ks, o => (∃ vs, vs.length = 3 ∧ ExAt W S k vs ∧ ∀ i v, vs[i]? = some v → W.cell? ⟨b, o + i, none⟩ = some v) ∧ KidsAt W S b ks (o + 3)
end
/-- These blocks are as they were. -/
def Same (S : Nat → Prop) (W W' : World) : Prop := W.heap.size ≤ W'.heap.size ∧ ∀ b, S b → b < W.heap.size → W'.heap[b]? = W.heap[b]?
theorem Same.of_below {S : Nat → Prop} {W W' : World} (h : Below W.heap.size W W') : Same S W W' := ⟨h.size, fun b _ hb => h.block b hb⟩
theorem Same.below {B : Nat} {W W' : World} (h : Below B W W') : Same (fun b => b < B) W W' := ⟨h.size, fun b h1 _ => h.block b h1⟩
mutual
theorem ExAt.keep {W W' : World} {S T : Nat → Prop} (hb : Same S W W') (hst : ∀ b, S b → b < W.heap.size → T b) : ∀ (x : Ex) (vs : List Value), ExAt W S x vs → ExAt W' T x vs
  | .node op tag kids, vs, h => by
    simp only [ExAt] at h ⊢
    obtain ⟨a, cap, rfl, h⟩ := h
    refine ⟨a, cap, rfl, ?_⟩
    rcases h with h | ⟨b, o, rfl, hS, hlt, hc, h⟩
    · exact .inl h
    · exact .inr ⟨b, o, rfl, hst b hS hlt, Nat.lt_of_lt_of_le hlt hb.1, hc, KidsAt.keep hb hst hS hlt kids o h⟩
theorem KidsAt.keep {W W' : World} {S T : Nat → Prop} (hb : Same S W W') (hst : ∀ b, S b → b < W.heap.size → T b) {b : Nat} (hS : S b) (hlt : b < W.heap.size) : ∀ (ks : List Ex) (o : Nat), KidsAt W S b ks o → KidsAt W' T b ks o
  | [], _, _ => by simp only [KidsAt]
  | k :: ks, o, h => by
    simp only [KidsAt] at h ⊢
    obtain ⟨⟨vs, hl, h1, h2⟩, h3⟩ := h
    exact ⟨⟨vs, hl, ExAt.keep hb hst k vs h1, fun i v hv => by rw [cell_same (hb.2 b hS hlt)]; exact h2 i v hv⟩, KidsAt.keep hb hst hS hlt ks (o + 3) h3⟩
end
theorem ExAt.below {W W' : World} {S : Nat → Prop} {x : Ex} {vs : List Value} (h : ExAt W S x vs) (hb : Below W.heap.size W W') : ExAt W' S x vs := h.keep (Same.of_below hb) (fun _ h _ => h) x vs
theorem ExAt.len {W : World} {S : Nat → Prop} {x : Ex} {vs : List Value} (h : ExAt W S x vs) : vs.length = 3 := by
  cases x with
  | node op tag kids =>
    simp only [ExAt] at h
    obtain ⟨a, cap, rfl, _⟩ := h
    rfl
/-! How many are within one, and it. -/
mutual
def Ex.size : Ex → Nat
  | .node _ _ kids => 1 + Ex.sizes kids
def Ex.sizes : List Ex → Nat
  | [] => 0
  | k :: ks => k.size + Ex.sizes ks
end
/-! Texts that are no longer than memory has them. -/
mutual
def Ex.fits : Ex → Prop
  | .node op tag kids => op.size ≤ 2000000 ∧ tag.size ≤ 2000000 ∧ Ex.fitsL kids
def Ex.fitsL : List Ex → Prop
  | [] => True
  | k :: ks => k.fits ∧ Ex.fitsL ks
end
theorem Ex.fitsL_mem : ∀ (l : List Ex) (k : Ex), Ex.fitsL l → k ∈ l → k.fits
  | x :: l, k, hf, h => by
    simp only [Ex.fitsL] at hf
    rcases List.mem_cons.mp h with rfl | h
    · exact hf.1
    · exact Ex.fitsL_mem l k hf.2 h
theorem Ex.size_pos (x : Ex) : 1 ≤ x.size := by cases x; simp [Ex.size]
theorem Ex.sizes_mem : ∀ (l : List Ex) (k : Ex), k ∈ l → k.size ≤ Ex.sizes l
  | x :: l, k, h => by
    simp only [Ex.sizes]
    rcases List.mem_cons.mp h with rfl | h
    · omega
    · have := Ex.sizes_mem l k h; omega
theorem Ex.sizes_len : ∀ (l : List Ex), l.length ≤ Ex.sizes l
  | [] => Nat.le_refl _
  | x :: l => by
    simp only [Ex.sizes, List.length_cons]
    have := Ex.sizes_len l
    have := x.size_pos
    omega
/-- Of a size that is walked through. -/
def Ex.ok (x : Ex) : Prop := x.size ≤ 100000 ∧ x.fits
theorem Ex.ok.kid {op tag : ByteArray} {kids : List Ex} (h : (Ex.node op tag kids).ok) {k : Ex} (hk : k ∈ kids) : k.ok ∧ k.size < (Ex.node op tag kids).size := by
  obtain ⟨h1, h2⟩ := h
  simp only [Ex.fits] at h2
  have := Ex.sizes_mem kids k hk
  simp only [Ex.size] at h1 ⊢
  exact ⟨⟨by omega, Ex.fitsL_mem kids k h2.2.2 hk⟩, by omega⟩
theorem Ex.ok.len {op tag : ByteArray} {kids : List Ex} (h : (Ex.node op tag kids).ok) : kids.length ≤ 100000 ∧ op.size ≤ 2000000 ∧ tag.size ≤ 2000000 := by
  obtain ⟨h1, h2⟩ := h
  simp only [Ex.fits] at h2
  simp only [Ex.size] at h1
  have := Ex.sizes_len kids
  exact ⟨by omega, h2.1, h2.2.1⟩
/-- A kid at its place. -/
theorem KidsAt.get {W : World} {S : Nat → Prop} {b : Nat} : ∀ (ks : List Ex) (o i : Nat) (k : Ex), KidsAt W S b ks o → ks[i]? = some k → ∃ vs, vs.length = 3 ∧ ExAt W S k vs ∧ ∀ j v, vs[j]? = some v → W.cell? ⟨b, o + i * 3 + j, none⟩ = some v
  | [], _, _, _, _, h => by simp at h
  | x :: ks, o, 0, k, h, hk => by
    simp only [KidsAt] at h
    have : x = k := by simpa using hk
    subst this
    simpa using h.1
  | x :: ks, o, i + 1, k, h, hk => by
    simp only [KidsAt] at h
    obtain ⟨vs, h1, h2, h3⟩ := KidsAt.get ks (o + 3) i k h.2 (by simpa using hk)
    refine ⟨vs, h1, h2, fun j v hv => ?_⟩
    have := h3 j v hv
    rwa [show o + 3 + i * 3 + j = o + (i + 1) * 3 + j by omega] at this
/-- Kids from their cells. -/
theorem KidsAt.of {W : World} {S : Nat → Prop} {b : Nat} : ∀ (ks : List Ex) (o : Nat), (∀ i k, ks[i]? = some k → ∃ vs, vs.length = 3 ∧ ExAt W S k vs ∧ ∀ j v, vs[j]? = some v → W.cell? ⟨b, o + i * 3 + j, none⟩ = some v) → KidsAt W S b ks o
  | [], _, _ => by simp only [KidsAt]
  | x :: ks, o, h => by
    simp only [KidsAt]
    refine ⟨?_, KidsAt.of ks (o + 3) fun i k hk => ?_⟩
    · obtain ⟨vs, h1, h2, h3⟩ := h 0 x rfl
      exact ⟨vs, h1, h2, fun j v hv => by simpa using h3 j v hv⟩
    · obtain ⟨vs, h1, h2, h3⟩ := h (i + 1) k (by simpa using hk)
      refine ⟨vs, h1, h2, fun j v hv => ?_⟩
      have := h3 j v hv
      rwa [show o + (i + 1) * 3 + j = o + 3 + i * 3 + j by omega] at this
/-- Rows that grow, of values of three cells each. -/
def flat (l : List (List Value)) : List Value := l.flatten
theorem flat_len : ∀ (l : List (List Value)), (∀ v ∈ l, v.length = 3) → (flat l).length = l.length * 3
  | [], _ => rfl
  | v :: l, h => by
    have h1 := flat_len l (fun x hx => h x (by simp [hx]))
    unfold flat at h1 ⊢
    rw [List.flatten_cons, List.length_append, h1, h v (by simp), List.length_cons]
    omega
theorem flat_get : ∀ (l : List (List Value)) (i j : Nat) (v : List Value) (u : Value), (∀ v ∈ l, v.length = 3) → l[i]? = some v → v[j]? = some u → (flat l)[i * 3 + j]? = some u
  | [], i, _, _, _, _, h, _ => by simp at h
  | x :: l, 0, j, v, u, hl, h, hu => by
    have : x = v := by simpa using h
    subst this
    have hj := (List.getElem?_eq_some_iff.mp hu).1
    unfold flat
    rw [List.flatten_cons, Nat.zero_mul, Nat.zero_add, List.getElem?_append_left hj, hu]
  | x :: l, i + 1, j, v, u, hl, h, hu => by
    have h1 := flat_get l i j v u (fun y hy => hl y (by simp [hy])) (by simpa using h) hu
    have hx := hl x (by simp)
    unfold flat at h1 ⊢
    rw [List.flatten_cons, List.getElem?_append_right (by omega), hx, show (i + 1) * 3 + j - 3 = i * 3 + j by omega]
    exact h1
/-- All of a row of values hold constraints. -/
def All3 (W : World) (S : Nat → Prop) (ks : List Ex) (l : List (List Value)) : Prop := l.length = ks.length ∧ ∀ (i : Nat) (k : Ex) (v : List Value), ks[i]? = some k → l[i]? = some v → ExAt W S k v
theorem All3.nil (W : World) (S : Nat → Prop) : All3 W S [] [] := ⟨rfl, fun i k v h => by simp at h⟩
theorem All3.keep {W W' : World} {S T : Nat → Prop} {ks : List Ex} {l : List (List Value)} (h : All3 W S ks l) (hb : Same S W W') (hst : ∀ b, S b → b < W.heap.size → T b) : All3 W' T ks l := ⟨h.1, fun i k v h1 h2 => (h.2 i k v h1 h2).keep hb hst k v⟩
theorem All3.snoc {W : World} {S : Nat → Prop} {ks : List Ex} {l : List (List Value)} {k : Ex} {v : List Value} (h : All3 W S ks l) (hk : ExAt W S k v) : All3 W S (ks ++ [k]) (l ++ [v]) := by
  refine ⟨by simp [h.1], fun i k2 v2 h1 h2 => ?_⟩
  by_cases hi : i < ks.length
  · rw [List.getElem?_append_left hi] at h1
    rw [List.getElem?_append_left (by rw [h.1]; exact hi)] at h2
    exact h.2 i k2 v2 h1 h2
  · have hi2 := (List.getElem?_eq_some_iff.mp h1).1
    rw [List.length_append, List.length_singleton] at hi2
    have : i = ks.length := by omega
    subst this
    rw [List.getElem?_append_right (Nat.le_refl _), Nat.sub_self] at h1
    rw [← h.1, List.getElem?_append_right (Nat.le_refl _), Nat.sub_self] at h2
    simp at h1 h2
    subst h1; subst h2
    exact hk
theorem All3.three {W : World} {S : Nat → Prop} {ks : List Ex} {l : List (List Value)} (h : All3 W S ks l) : ∀ v ∈ l, v.length = 3 := by
  intro v hv
  obtain ⟨i, hi, rfl⟩ := List.getElem_of_mem hv
  have hk : ks[i]? = some (ks[i]'(by rw [← h.1]; exact hi)) := List.getElem?_eq_getElem _
  exact (h.2 i _ _ hk (List.getElem?_eq_getElem hi)).len
/-- A row that is owned is a constraint's kids. -/
theorem All3.kids {W : World} {B : Nat} {v : Value} {e : TypeId} {S : Nat → Prop} {ks : List Ex} {l : List (List Value)} (h : All3 W S ks l) (hown : W.ownsRow B e 3 v ks.length (flat l)) (hS : ∀ g, v.ownBlock = some g → S g) (op tag : ByteArray) : ExAt W S (.node op tag ks) [.string op, .string tag, v] := by
  simp only [ExAt]
  rcases hown.2 with ⟨rfl, hn⟩ | ⟨g, cap, cur, rfl, hB, hg, hc, _⟩
  · rw [hn]
    exact ⟨none, 0, rfl, .inl (List.eq_nil_of_length_eq_zero hn)⟩
  · refine ⟨some ⟨g, 0, none⟩, cap, rfl, .inr ⟨g, 0, rfl, hS g rfl, lt_of_block hg, hc, KidsAt.of ks 0 fun i k hk => ?_⟩⟩
    have hi := (List.getElem?_eq_some_iff.mp hk).1
    have hv : l[i]? = some (l[i]'(by rw [h.1]; exact hi)) := List.getElem?_eq_getElem _
    have hx := h.2 i k _ hk hv
    refine ⟨_, hx.len, hx, fun j u hu => ?_⟩
    have hj := (List.getElem?_eq_some_iff.mp hu).1
    rw [hx.len] at hj
    have hf := flat_get l i j _ u h.three hv hu
    rw [Nat.zero_add, hown.cellAt (i * 3 + j) (by omega)]
    exact hf
end Go.Proofs.YtjgpopjnmonlkaaGreatDoor
