import Derived.Test.YtjgpopjnmonlkaaGreatDoorTgJ
namespace Go.Proofs.YtjgpopjnmonlkaaGreatDoor
open Go.RowKit Go.Shelf
set_option linter.unusedSimpArgs false
set_option linter.unusedVariables false
set_option linter.unusedSectionVars false

/-! Layer 5: how it is written. -/
def brF (op kop : ByteArray) : Bool := decide (kop = opOr) || (decide (kop = opAnd) && !decide (op = opOr))
def withB (b : Bool) (t : ByteArray) : ByteArray := if b = true then (⟨#[40]⟩ : ByteArray) ++ t ++ ⟨#[41]⟩ else t
def joinB (l : List ByteArray) (sep : ByteArray) : ByteArray := ⟨(Lib.join (l.map (·.data.toList)) sep.data.toList).toArray⟩
def sepB (op : ByteArray) : ByteArray := (⟨#[32]⟩ : ByteArray) ++ op ++ ⟨#[32]⟩
mutual
def textX : Ex → ByteArray
  | .node op tag kids =>
    if op = nilB then tag
    else if op = opNot then opNot ++ (partsX op kids).headD nilB
    else joinB (partsX op kids) (sepB op)
def partsX (op : ByteArray) : List Ex → List ByteArray
  | [] => []
  | k :: ks => withB (brF op k.op) (textX k) :: partsX op ks
end
theorem partsX_map (op : ByteArray) : ∀ ks, partsX op ks = ks.map fun k => withB (brF op k.op) (textX k)
  | [] => by simp [partsX]
  | k :: ks => by simp only [partsX, List.map_cons, partsX_map op ks]
theorem size_app (a b : ByteArray) : (a ++ b).size = a.size + b.size := by
  rw [ByteArray.size_append]
theorem withB_size (b : Bool) (t : ByteArray) : (withB b t).size ≤ t.size + 2 := by
  unfold withB
  split
  · rw [size_app, size_app]
    show 1 + t.size + 1 ≤ t.size + 2
    omega
  · omega
theorem tail_size (sep : List UInt8) : ∀ l : List (List UInt8), (Lib.joinTail sep l).length = (l.map (·.length + sep.length)).sum
  | [] => rfl
  | x :: l => by
    have := tail_size sep l
    unfold Lib.joinTail at this ⊢
    rw [List.map_cons, List.flatten_cons, List.length_append, this, List.map_cons, List.sum_cons, List.length_append]
    omega
theorem join_size (l : List (List UInt8)) (sep : List UInt8) : (Lib.join l sep).length ≤ (l.map (·.length + sep.length)).sum := by
  cases l with
  | nil => simp [Lib.join_nil]
  | cons x l =>
    rw [Lib.join_cons, List.length_append, tail_size, List.map_cons, List.sum_cons]
    omega
theorem sum_add (l : List ByteArray) (c : Nat) : ((l.map (·.data.toList)).map (·.length + c)).sum = (l.map (·.size)).sum + l.length * c := by
  induction l with
  | nil => simp
  | cons x l ih =>
    simp only [List.map_cons, List.sum_cons, List.length_cons] at ih ⊢
    rw [ih, Nat.add_mul]
    have : x.data.toList.length = x.size := by simp
    omega
/-! How long it is at most. -/
mutual
theorem text_size : ∀ (x : Ex), x.ok → x.rt → (textX x).size ≤ 2000010 * x.size
  | .node op tag kids, hok, hrt => by
    have hl := hok.len
    have hp := parts_size op kids (fun k hk => ⟨(hok.kid hk).1, hrt.kids k hk⟩)
    have hc := hrt.cases
    have hs := hok.1
    have hn := Ex.sizes_len kids
    simp only [Ex.size] at hs ⊢
    simp only [textX]
    split
    · omega
    · rename_i hn0
      split
      · rw [size_app]
        have h1 : opNot.size = 1 := rfl
        have h2 : ((partsX op kids).headD nilB).size ≤ ((partsX op kids).map (·.size)).sum := by
          cases partsX op kids with
          | nil => exact Nat.zero_le _
          | cons a l => simp only [List.headD_cons, List.map_cons, List.sum_cons]; omega
        omega
      · have h1 := join_size ((partsX op kids).map (·.data.toList)) (sepB op).data.toList
        rw [sum_add] at h1
        have h2 : (joinB (partsX op kids) (sepB op)).size = (Lib.join ((partsX op kids).map (·.data.toList)) (sepB op).data.toList).length := by simp [joinB, ByteArray.size]
        have h3 : (partsX op kids).length = kids.length := by rw [partsX_map, List.length_map]
        rename_i hn1
        have h4 : (sepB op).data.toList.length ≤ 10 := by
          rcases hc with ⟨h, _⟩ | ⟨h, _⟩ | ⟨h, _⟩ | ⟨h, _⟩
          · exact absurd h hn0
          · exact absurd h hn1
          · rw [h]; decide
          · rw [h]; decide
        rw [h2]
        rw [h3] at h1
        have h5 := Nat.mul_le_mul_left kids.length h4
        omega
theorem parts_size (op : ByteArray) : ∀ (ks : List Ex), (∀ k ∈ ks, k.ok ∧ k.rt) → ((partsX op ks).map (·.size)).sum ≤ 2000010 * Ex.sizes ks + 2 * ks.length
  | [], _ => by simp [partsX]
  | k :: ks, h => by
    have h1 := text_size k (h k (by simp)).1 (h k (by simp)).2
    have h2 := parts_size op ks (fun y hy => h y (by simp [hy]))
    have h3 := withB_size (brF op k.op) (textX k)
    simp only [partsX, List.map_cons, List.sum_cons, Ex.sizes, List.length_cons]
    omega
end
theorem info36g : (Tryz.prog.info? 9).map (fun i => (i.zero, i.size, i.bytes)) = some (some (.string ⟨#[]⟩), 1, 16) := by kernel_rfl
def szs (l : List ByteArray) : List Value := l.map fun z => Value.string z
theorem szs_len (l : List ByteArray) : (szs l).length = l.length := by simp [szs]
theorem textX_nil (tag : ByteArray) (kids : List Ex) : textX (.node ⟨#[]⟩ tag kids) = tag := by rw [textX, if_pos (show (⟨#[]⟩ : ByteArray) = nilB from rfl)]
theorem textX_not (tag : ByteArray) (k : Ex) : textX (.node ⟨#[33]⟩ tag [k]) = (⟨#[33]⟩ : ByteArray) ++ withB (brF ⟨#[33]⟩ k.op) (textX k) := by rw [textX, if_neg (by decide), if_pos (show (⟨#[33]⟩ : ByteArray) = opNot from rfl), partsX_map]; rfl
theorem textX_and (tag : ByteArray) (kids : List Ex) : textX (.node ⟨#[38, 38]⟩ tag kids) = joinB (partsX ⟨#[38, 38]⟩ kids) ((⟨#[32]⟩ : ByteArray) ++ ⟨#[38, 38]⟩ ++ ⟨#[32]⟩) := by rw [textX, if_neg (by decide), if_neg (by decide)]; rfl
theorem textX_or (tag : ByteArray) (kids : List Ex) : textX (.node ⟨#[124, 124]⟩ tag kids) = joinB (partsX ⟨#[124, 124]⟩ kids) ((⟨#[32]⟩ : ByteArray) ++ ⟨#[124, 124]⟩ ++ ⟨#[32]⟩) := by rw [textX, if_neg (by decide), if_neg (by decide)]; rfl
theorem join_row (B : Nat) (v : Value) (zs : List ByteArray) (sep : ByteArray) (w : World) (h : w.ownsRow B 9 1 v zs.length (szs zs)) (hn : 0 < zs.length) (hl : zs.length ≤ 1000000) (hs : (joinB zs sep).size ≤ 140737488355328) :
    Calls Tryz.prog 39 #[v, .string sep] w fun e w' => e = .returned (.string (joinB zs sep)) ∧ Below w.heap.size w w' := by
  obtain ⟨g, cap, rfl, hg, hc⟩ := rowZ_slice h hn
  exact Tryz.strings_Join g 0 cap zs sep w (fun j x hx => by
    have hj := (List.getElem?_eq_some_iff.mp hx).1
    rw [Nat.zero_add, h.cellAt j (by omega)]
    simp [szs, List.getElem?_map, hx]) hg (by omega) hc (by
    have : (joinB zs sep).size = (Lib.join (zs.map (·.data.toList)) sep.data.toList).length := by simp [joinB, ByteArray.size]
    omega)
set_option maxHeartbeats 800000 in
theorem brackets_v (op : ByteArray) (v1 v2 u1 u2 : Value) (kop : ByteArray) (w : World) :
    Calls Tryz.prog 38 #[.agg #[.string op, v1, v2], .agg #[.string kop, u1, u2]] w fun e w' => e = .returned (.bool (brF op kop)) ∧ Below w.heap.size w w' := by
  have HB : Hid (Below w.heap.size w ((w.alloc (.cells #[.string op, v1, v2] 29)).alloc (.cells #[.string kop, u1, u2] 29))) := Lib.hid (((Below.refl _ _).alloc (Nat.le_refl _) _).alloc (by simp) _)
  by_cases h1 : kop = ⟨#[124, 124]⟩
  · subst h1
    have hf : brF op ⟨#[124, 124]⟩ = true := by unfold brF; rw [decide_eq_true (show (⟨#[124, 124]⟩ : ByteArray) = opOr from rfl), Bool.true_or]
    rw [hf]
    go_enter Tryz.func38, Tryz.ntmps38
    go_wp2_with fail
    go_ret
    exact ⟨by first | rfl | simp, HB.out⟩
  · have e1 := ne_list (l := [124, 124]) h1
    by_cases h2 : kop = ⟨#[38, 38]⟩
    · subst h2
      by_cases h3 : op = ⟨#[124, 124]⟩
      · subst h3
        have hf : brF ⟨#[124, 124]⟩ ⟨#[38, 38]⟩ = false := by decide
        rw [hf]
        go_enter Tryz.func38, Tryz.ntmps38
        go_wp2_with fail
        go_ret
        exact ⟨by first | rfl | simp, HB.out⟩
      · have e3 := ne_list (l := [124, 124]) h3
        have e4 : (op.toList != [124, 124]) = true := by rw [bne, e3]; rfl
        have hf : brF op ⟨#[38, 38]⟩ = true := by
          unfold brF
          rw [decide_eq_false (show (⟨#[38, 38]⟩ : ByteArray) ≠ opOr by decide), decide_eq_true (show (⟨#[38, 38]⟩ : ByteArray) = opAnd from rfl), decide_eq_false (show op ≠ opOr from h3)]
          rfl
        rw [hf]
        go_enter Tryz.func38, Tryz.ntmps38
        go_wp2_with fail
        go_ret
        exact ⟨by first | rfl | simp, HB.out⟩
    · have e2 := ne_list (l := [38, 38]) h2
      have hf : brF op kop = false := by
        unfold brF
        rw [decide_eq_false (show kop ≠ opOr from h1), decide_eq_false (show kop ≠ opAnd from h2)]
        rfl
      rw [hf]
      go_enter Tryz.func38, Tryz.ntmps38
      go_wp2_with fail
      go_ret
      exact ⟨by first | rfl | simp, HB.out⟩
end Go.Proofs.YtjgpopjnmonlkaaGreatDoor
