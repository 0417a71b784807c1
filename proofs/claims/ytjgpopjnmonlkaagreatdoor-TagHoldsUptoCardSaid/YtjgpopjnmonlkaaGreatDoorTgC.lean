import Derived.Test.YtjgpopjnmonlkaaGreatDoorTgB
import Derived.Shelf.SlicesQ.IndexFunc
namespace Go.Proofs.YtjgpopjnmonlkaaGreatDoor
open Go.RowKit Go.Shelf
set_option linter.unusedSimpArgs false
set_option linter.unusedVariables false
set_option linter.unusedSectionVars false

/-! Layer 5: a row of constraints looked through. -/
/-- Kids, as a slice has them. -/
def RowX (w : World) (S : Nat → Prop) (a : Option Addr) (cap : Nat) (ks : List Ex) : Prop := ks = [] ∨ ∃ b o, a = some ⟨b, o, none⟩ ∧ S b ∧ b < w.heap.size ∧ ks.length ≤ cap ∧ KidsAt w S b ks o
theorem RowX.below {w w' : World} {S : Nat → Prop} {a : Option Addr} {cap : Nat} {ks : List Ex} (h : RowX w S a cap ks) (hb : Below w.heap.size w w') : RowX w' S a cap ks := by
  rcases h with h | ⟨b, o, h1, h2, h3, h4, h5⟩
  · exact .inl h
  · exact .inr ⟨b, o, h1, h2, Nat.lt_of_lt_of_le h3 hb.size, h4, KidsAt.keep (Same.of_below hb) (fun _ h _ => h) h2 h3 ks o h5⟩
theorem ExAt.row {w : World} {S : Nat → Prop} {op tag : ByteArray} {ks : List Ex} {vs : List Value} (h : ExAt w S (.node op tag ks) vs) : ∃ a cap, vs = [.string op, .string tag, .slice a ks.length cap] ∧ RowX w S a cap ks := by
  simp only [ExAt] at h
  exact h
theorem ExAt.shape {w : World} {S : Nat → Prop} {x : Ex} {vs : List Value} (h : ExAt w S x vs) : ∃ (op tag : ByteArray) (a : Option Addr) (n cap : Nat), vs = [.string op, .string tag, .slice a n cap] := by
  cases x with
  | node op tag kids =>
    obtain ⟨a, cap, rfl, _⟩ := h.row
    exact ⟨op, tag, a, _, cap, rfl⟩
theorem RowX.node {w : World} {S : Nat → Prop} {a : Option Addr} {cap : Nat} {ks : List Ex} (h : RowX w S a cap ks) (op tag : ByteArray) : ExAt w S (.node op tag ks) [.string op, .string tag, .slice a ks.length cap] := by
  simp only [ExAt]
  exact ⟨a, cap, rfl, h⟩
def idxE (p : Ex → Bool) : List Ex → Int
  | [] => -1
  | k :: ks => if p k = true then 0 else (if idxE p ks < 0 then -1 else idxE p ks + 1)
theorem idxE_ge (p : Ex → Bool) : ∀ ks, decide (0 ≤ idxE p ks) = ks.any p ∧ -1 ≤ idxE p ks
  | [] => by simp [idxE]
  | k :: ks => by
    obtain ⟨h1, h2⟩ := idxE_ge p ks
    unfold idxE
    rw [List.any_cons]
    cases hk : p k with
    | true => simp
    | false =>
      rw [if_neg (by decide), Bool.false_or, ← h1]
      split
      · rename_i h3
        constructor
        · rw [decide_eq_false (by omega), decide_eq_false (by omega)]
        · omega
      · constructor
        · rw [decide_eq_true (by omega), decide_eq_true (by omega)]
        · omega
theorem idxE_hit (p : Ex → Bool) : ∀ (ks : List Ex) (i : Nat) (k : Ex), ks[i]? = some k → p k = true → (ks.take i).any p = false → idxE p ks = i
  | [], i, k, h, _, _ => by simp at h
  | x :: ks, 0, k, h, hp, _ => by
    have : x = k := by simpa using h
    subst this
    unfold idxE; rw [if_pos hp]; rfl
  | x :: ks, i + 1, k, h, hp, hn => by
    rw [List.take_succ_cons, List.any_cons, Bool.or_eq_false_iff] at hn
    have := idxE_hit p ks i k (by simpa using h) hp hn.2
    unfold idxE
    rw [hn.1, if_neg (by decide), this, if_neg (by omega)]
    omega
theorem idxE_miss (p : Ex → Bool) : ∀ (ks : List Ex), ks.any p = false → idxE p ks = -1
  | [], _ => rfl
  | x :: ks, hn => by
    rw [List.any_cons, Bool.or_eq_false_iff] at hn
    have := idxE_miss p ks hn.2
    unfold idxE
    rw [hn.1, if_neg (by decide), this, if_pos (by decide)]
/-- What is asked of a closure that is handed on. -/
def PredX (g : Nat) (lb : Array Value) (p : Ex → Bool) (ks : List Ex) (S : Nat → Prop) (w : World) : Prop :=
  ∀ (W : World) (k : Ex) (vs : List Value), Below w.heap.size w W → k ∈ ks → ExAt W S k vs → Calls Tryz.prog g (#[.agg vs.toArray] ++ lb) W fun e w' => e = .returned (.bool (p k)) ∧ Below W.heap.size W w'
set_option maxHeartbeats 1600000 in
theorem indexFunc_v (p : Ex → Bool) (g : Nat) (lb : Array Value) (eg : ∀ args w, (callFunc g args).run Tryz.prog w = .ok (.enter g args) w) (a : Option Addr) (cap : Nat) (ks : List Ex) (S : Nat → Prop) (w : World)
    (hrow : RowX w S a cap ks) (hl : ks.length ≤ 1000000) (hp : PredX g lb p ks S w) :
    Calls Tryz.prog 46 #[.slice a ks.length cap, .func (.func g) #[] lb] w fun e w' => e = .returned (.int .i64 (idxE p ks)) ∧ Below w.heap.size w w' := by
  have HR := Lib.hid hrow
  have HP := Lib.hid hp
  obtain ⟨n, hn⟩ : ∃ n, ks.length = n := ⟨_, rfl⟩
  have HN := Lib.hid hn
  rw [hn] at hl ⊢
  clear hrow hp hn
  go_enter Tryz.func46, Tryz.ntmps46
  go_wp2_with fail
  go_loopw [8] (fun kv wr => ∃ k : Nat, kv = .int .i64 k ∧ k ≤ n ∧ (ks.take k).any p = false ∧ Below w.heap.size w wr) (fun kv _ => n - (intOf kv).toNat)
  case atStart => exact ⟨0, rfl, by omega, rfl, Below.refl _ _⟩
  case round =>
    obtain ⟨k, rfl, hk, hany, hb⟩ := hrel
    have HA := Lib.hid hany
    have HB := Lib.hid hb
    clear hany hb
    by_cases hlt : k < n
    · have hlti : (k : Int) < (n : Int) := by omega
      obtain ⟨x, hx⟩ : ∃ x, ks[k]? = some x := ⟨_, List.getElem?_eq_getElem (by rw [HN.out]; exact hlt)⟩
      rcases HR.out with h0 | ⟨b, o, rfl, hS, hbl, hcap, hkids⟩
      · exfalso; have := HN.out; rw [h0] at this; simp at this; omega
      · obtain ⟨vs, hvl, hex, hcells⟩ := KidsAt.get ks o k x hkids hx
        obtain ⟨v0, v1, v2, rfl⟩ : ∃ v0 v1 v2, vs = [v0, v1, v2] := by
          match vs, hvl with
          | [v0, v1, v2], _ => exact ⟨v0, v1, v2, rfl⟩
        have c0 : wr.cell? ⟨b, o + k * 3, none⟩ = some v0 := by rw [HB.out.cell (p := ⟨b, o + k * 3, none⟩) hbl]; exact hcells 0 v0 rfl
        have c1 : wr.cell? ⟨b, o + k * 3 + 1, none⟩ = some v1 := by rw [HB.out.cell (p := ⟨b, o + k * 3 + 1, none⟩) hbl]; exact hcells 1 v1 rfl
        have c2 : wr.cell? ⟨b, o + k * 3 + 2, none⟩ = some v2 := by rw [HB.out.cell (p := ⟨b, o + k * 3 + 2, none⟩) hbl]; exact hcells 2 v2 rfl
        have hex2 : ExAt wr S x [v0, v1, v2] := hex.below HB.out
        have hcall := HP.out wr x [v0, v1, v2] HB.out (List.mem_of_getElem? hx) hex2
        have HX := Lib.hid hx
        clear hx hkids hcells hex hex2
        have hkn : k ≤ cap := by have := HN.out; omega
        cases hq : p x with
        | true =>
          rw [hq] at hcall
          have HRES : Hid (idxE p ks = k) := Lib.hid (idxE_hit p ks k x HX.out hq HA.out)
          go_wp2_with (go_at_fn g; refine hcall.mono ?_; rintro e w' ⟨rfl, hb'⟩; replace hb' := HB.out.trans (hb'.mono HB.out.size))
          go_ret
          exact ⟨by rw [HRES.out]; rfl, hb'⟩
        | false =>
          rw [hq] at hcall
          have HN2 : Hid ((ks.take (k + 1)).any p = false) := Lib.hid (by rw [List.take_add_one, HX.out, List.any_append, HA.out]; simp [hq])
          go_wp2_with (go_at_fn g; refine hcall.mono ?_; rintro e w' ⟨rfl, hb'⟩; replace hb' := HB.out.trans (hb'.mono HB.out.size))
          go_roundw
          case rel => exact ⟨k + 1, by go_num, by omega, HN2.out, hb'⟩
          case measure => simp [intOf]; omega
    · have hke : k = n := by omega
      have hlti : ¬ (k : Int) < (n : Int) := by omega
      have HRES : Hid (idxE p ks = -1) := Lib.hid (idxE_miss p ks (by
        have := HA.out
        rw [hke, ← HN.out, List.take_length] at this
        exact this))
      go_wp2_with fail
      go_ret
      exact ⟨by rw [HRES.out]; rfl, HB.out⟩
set_option maxHeartbeats 800000 in
theorem containsFunc_v (p : Ex → Bool) (g : Nat) (lb : Array Value) (eg : ∀ args w, (callFunc g args).run Tryz.prog w = .ok (.enter g args) w) (a : Option Addr) (cap : Nat) (ks : List Ex) (S : Nat → Prop) (w : World)
    (hrow : RowX w S a cap ks) (hl : ks.length ≤ 1000000) (hp : PredX g lb p ks S w) :
    Calls Tryz.prog 33 #[.slice a ks.length cap, .func (.func g) #[] lb] w fun e w' => e = .returned (.bool (ks.any p)) ∧ Below w.heap.size w w' := by
  have H := Lib.hid (indexFunc_v p g lb eg a cap ks S w hrow hl hp)
  have hi := idxE_ge p ks
  rw [← hi.1]
  have hge := hi.2
  generalize idxE p ks = i at *
  clear hrow hl hp hi
  go_enter Tryz.func33, Tryz.ntmps33
  go_wp2_with (go_at_call 46; with_reducible refine Calls.mono H.out ?_; rintro e w2 ⟨rfl, hb2⟩; have HB := Lib.hid hb2; clear hb2)
  go_ret
  exact ⟨by first | rfl | simp, HB.out⟩
end Go.Proofs.YtjgpopjnmonlkaaGreatDoor
