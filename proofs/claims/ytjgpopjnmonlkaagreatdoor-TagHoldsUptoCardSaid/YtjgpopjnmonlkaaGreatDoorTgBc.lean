import Derived.Test.YtjgpopjnmonlkaaGreatDoorTgI
namespace Go.Proofs.YtjgpopjnmonlkaaGreatDoor
open Go.RowKit Go.Shelf
set_option linter.unusedSimpArgs false
set_option linter.unusedVariables false
set_option linter.unusedSectionVars false

/-! The law's size of a constraint. -/
theorem Ex.sizes_take (kids : List Ex) (k : Nat) (x : Ex) (h : kids[k]? = some x) : Ex.sizes (kids.take (k + 1)) = Ex.sizes (kids.take k) + x.size := by
  induction kids generalizing k with
  | nil => simp at h
  | cons y kids ih =>
    cases k with
    | zero =>
      have : y = x := by simpa using h
      subst this
      simp [Ex.sizes]
    | succ k =>
      have := ih k (by simpa using h)
      simp only [List.take_succ_cons, Ex.sizes, this]
      omega
theorem Ex.sizes_take_le (kids : List Ex) (k : Nat) : Ex.sizes (kids.take k) ≤ Ex.sizes kids := by
  induction kids generalizing k with
  | nil => simp [Ex.sizes]
  | cons y kids ih =>
    cases k with
    | zero => simp [Ex.sizes]
    | succ k =>
      have := ih k
      simp only [List.take_succ_cons, Ex.sizes]
      omega
def SizeC (m : Nat) : Prop := ∀ (x : Ex) (vs : List Value) (S : Nat → Prop) (W : World), x.size ≤ m → m ≤ 2000000 → ExAt W S x vs →
  Calls Tryz.prog 8 #[.agg vs.toArray] W fun e w' => e = .returned (.int .i64 (x.size : Int)) ∧ Below W.heap.size W w'
set_option maxRecDepth 100000 in
set_option maxHeartbeats 1600000 in
theorem size_succ (m : Nat) (hr : SizeC m) : SizeC (m + 1) := by
  intro x vs S W hm hm2 hex
  cases x with
  | node op tag kids =>
    obtain ⟨a, cap, rfl, hrow⟩ := hex.row
    simp only [Ex.size] at hm ⊢
    have hkl := Ex.sizes_len kids
    obtain ⟨bx, hbx⟩ : ∃ bx, W.heap.size = bx := ⟨_, rfl⟩
    have hb1 : Below W.heap.size W (W.alloc (.cells #[.string op, .string tag, .slice a kids.length cap] 24)) := (Below.refl _ _).alloc (Nat.le_refl _) _
    have hsz1 : (W.alloc (.cells #[.string op, .string tag, .slice a kids.length cap] 24)).heap.size = bx + 1 := by rw [← hbx]; simp
    have hbk : (W.alloc (.cells #[.string op, .string tag, .slice a kids.length cap] 24)).heap[bx]? = some (.cells #[.string op, .string tag, .slice a kids.length cap] 24 (0, 0)) := by rw [← hbx]; exact heap_alloc_new W _
    have hrow1 := hrow.below hb1
    obtain ⟨n, hn⟩ : ∃ n, kids.length = n := ⟨_, rfl⟩
    rw [hn] at hb1 hsz1 hbk hrow1 hkl ⊢
    obtain ⟨w1, hw1⟩ : ∃ w1, W.alloc (.cells #[.string op, .string tag, .slice a n cap] 24) = w1 := ⟨_, rfl⟩
    rw [hw1] at hb1 hsz1 hbk hrow1
    have HN := Lib.hid hn
    have HB := Lib.hid hb1
    have HBK := Lib.hid hbk
    have HROW := Lib.hid hrow1
    have HW1 := Lib.hid hw1
    have HS1 := Lib.hid hsz1
    have HTK := Lib.hid (fun k => Ex.sizes_take_le kids k)
    have HST := Lib.hid (fun k x h => Ex.sizes_take kids k x h)
    have HKID := Lib.hid (fun (k : Ex) (hk : k ∈ kids) (us : List Value) (W' : World) (hx : ExAt W' S k us) => hr k us S W' (by have := Ex.sizes_mem kids k hk; omega) (by omega) hx)
    have HALL : Hid (Ex.sizes (kids.take n) = Ex.sizes kids) := Lib.hid (by rw [← hn, List.take_length])
    generalize Ex.sizes kids = T at *
    have hnl : n ≤ 2000000 := by omega
    have hT : T ≤ 2000000 := by omega
    have HLT : Hid (W.heap.size = bx) := Lib.hid hbx
    clear hb1 hsz1 hbk hrow1 hrow hex hr hm hm2 hkl hn hw1 hbx
    rw [HLT.out]
    go_enter Tryz.func8, Tryz.ntmps8
    go_wp2_with fail
    go_loopw [3, 4] (fun nv kv wr => ∃ (k s : Nat), kv = .int .i64 k ∧ nv = .int .i64 s ∧ k ≤ n ∧ s = 1 + Ex.sizes (kids.take k) ∧ Below (bx + 1) w1 wr) (fun _ kv _ => n - (intOf kv).toNat)
    case atStart => exact ⟨0, 1, rfl, rfl, by omega, by simp [Ex.sizes], by rw [HW1.out]; exact Below.refl _ _⟩
    case round =>
      obtain ⟨k, s, rfl, rfl, hk, hs, hbl⟩ := hrel
      have HSS := Lib.hid hs
      have HBL := Lib.hid hbl
      have hge : bx + 1 ≤ wr.heap.size := by have := hbl.size; have := HS1.out; omega
      have c2 : wr.cell? ⟨W.heap.size, 2, none⟩ = some (.slice a n cap) := by rw [HLT.out]; exact (hbl.cell (p := ⟨bx, 2, none⟩) (by show bx < bx + 1; omega)).trans (cell_of HBK.out 2)
      have hsl : s ≤ 2000001 := by have := HTK.out k; omega
      clear hs hbl
      by_cases hlt : k < n
      · have hlti : (k : Int) < (n : Int) := by omega
        obtain ⟨x, hx⟩ : ∃ x, kids[k]? = some x := ⟨_, List.getElem?_eq_getElem (by rw [HN.out]; exact hlt)⟩
        rcases HROW.out with h0 | ⟨b, o, rfl, hS, hbb, hcap, hkids⟩
        · exfalso; have := HN.out; rw [h0] at this; simp at this; omega
        · have hbb1 : b < bx + 1 := by have := HS1.out; omega
          obtain ⟨vs, hvl, hxk, hcl⟩ := KidsAt.get kids o k x hkids hx
          obtain ⟨op2, tag2, a2, n2, cap2, rfl⟩ := hxk.shape
          have k0 := (HBL.out.cell (p := ⟨b, o + k * 3, none⟩) hbb1).trans (hcl 0 _ rfl)
          have k1 := (HBL.out.cell (p := ⟨b, o + k * 3 + 1, none⟩) hbb1).trans (hcl 1 _ rfl)
          have k2 := (HBL.out.cell (p := ⟨b, o + k * 3 + 2, none⟩) hbb1).trans (hcl 2 _ rfl)
          have hkc : k < cap := by have := HN.out; omega
          have hx5 : ExAt wr S x [.string op2, .string tag2, .slice a2 n2 cap2] := hxk.keep (Same.of_below (by have := HBL.out; rw [← HS1.out] at this; exact this)) (fun _ h _ => h) x _
          have HC := Lib.hid (HKID.out x (List.mem_of_getElem? hx) [.string op2, .string tag2, .slice a2 n2 cap2] _ hx5)
          have HNX := Lib.hid (HST.out k x hx)
          have hT1 := HTK.out (k + 1)
          have hz : s + x.size ≤ 2000001 := by have := HNX.out; have := HSS.out; omega
          clear hx hkids hxk hcl hx5 hvl hT1
          generalize x.size = z at *
          have hz2 : (s : Int) + (z : Int) ≤ 2000001 := by omega
          go_wp2_with (go_at_call 8; with_reducible refine Calls.mono HC.out ?_; rintro e w6 ⟨rfl, hb6⟩; have HB6 := Lib.hid (HBL.out.trans (hb6.mono hge)); clear hb6)
          go_roundw
          case rel => exact ⟨k + 1, s + z, by go_num, by go_num, by omega, by have := HNX.out; have := HSS.out; omega, HB6.out⟩
          case measure => simp [intOf]; omega
      · have hke : k = n := by omega
        have hlti : ¬ (k : Int) < (n : Int) := by omega
        have HBF : Hid (Below bx W wr) := Lib.hid (by have := HB.out; rw [HLT.out] at this; exact this.trans (HBL.out.mono (by omega)))
        have HF : Hid (s = 1 + T) := Lib.hid (by rw [HSS.out, hke, HALL.out])
        go_wp2_with fail
        go_ret
        exact ⟨by rw [HF.out]; rfl, HBF.out⟩
theorem size_any : ∀ m : Nat, SizeC m
  | 0 => fun x vs S W hm _ _ => by have := x.size_pos; omega
  | m + 1 => size_succ m (size_any m)
theorem size_v (x : Ex) (vs : List Value) (S : Nat → Prop) (W : World) (h : x.size ≤ 2000000) (hex : ExAt W S x vs) :
    Calls Tryz.prog 8 #[.agg vs.toArray] W fun e w' => e = .returned (.int .i64 (x.size : Int)) ∧ Below W.heap.size W w' :=
  size_any x.size x vs S W (Nat.le_refl _) h hex
end Go.Proofs.YtjgpopjnmonlkaaGreatDoor
