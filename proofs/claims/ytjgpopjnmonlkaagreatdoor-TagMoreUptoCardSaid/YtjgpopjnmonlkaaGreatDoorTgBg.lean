import Derived.Test.YtjgpopjnmonlkaaGreatDoorTgBf
namespace Go.Proofs.YtjgpopjnmonlkaaGreatDoor
open Go.RowKit Go.Shelf
set_option linter.unusedSimpArgs false
set_option linter.unusedVariables false
set_option linter.unusedSectionVars false

/-! The law's denies: does a not stand in it? -/
theorem denies_take (kids : List Ex) (k : Nat) (x : Ex) (h : kids[k]? = some x) : deniesL (kids.take (k + 1)) = (deniesL (kids.take k) || deniesF x) := by
  rw [deniesL_any, deniesL_any, List.take_add_one, h]
  simp
theorem denies_at (kids : List Ex) (k : Nat) (x : Ex) (h : kids[k]? = some x) (hx : deniesF x = true) : deniesL kids = true := by
  rw [deniesL_any, List.any_eq_true]
  exact ⟨x, List.mem_of_getElem? h, hx⟩
def DeniesC (m : Nat) : Prop := ∀ (x : Ex) (vs : List Value) (S : Nat → Prop) (W : World), x.size ≤ m → m ≤ 2000000 → ExAt W S x vs →
  Calls Tryz.prog 21 #[.agg vs.toArray] W fun e w' => e = .returned (.bool (deniesF x)) ∧ Below W.heap.size W w'
set_option maxRecDepth 100000 in
set_option maxHeartbeats 1600000 in
theorem denies_succ (m : Nat) (hr : DeniesC m) : DeniesC (m + 1) := by
  intro x vs S W hm hm2 hex
  cases x with
  | node op tag kids =>
    obtain ⟨a, cap, rfl, hrow⟩ := hex.row
    simp only [Ex.size] at hm
    simp only [deniesF]
    have hkl := Ex.sizes_len kids
    obtain ⟨bx, hbx⟩ : ∃ bx, W.heap.size = bx := ⟨_, rfl⟩
    have hb1 : Below W.heap.size W (W.alloc (.cells #[.string op, .string tag, .slice a kids.length cap] 24)) := (Below.refl _ _).alloc (Nat.le_refl _) _
    have hsz1 : (W.alloc (.cells #[.string op, .string tag, .slice a kids.length cap] 24)).heap.size = bx + 1 := by rw [← hbx]; simp
    have hbk : (W.alloc (.cells #[.string op, .string tag, .slice a kids.length cap] 24)).heap[bx]? = some (.cells #[.string op, .string tag, .slice a kids.length cap] 24 (0, 0)) := by rw [← hbx]; exact heap_alloc_new W _
    have hrow1 := hrow.below hb1
    obtain ⟨n, hn⟩ : ∃ n, kids.length = n := ⟨_, rfl⟩
    rw [hn] at hb1 hsz1 hbk hrow1 hkl ⊢
    obtain ⟨w1, hw1⟩ : ∃ w1, W.alloc (.cells #[.string op, .string tag, .slice a n cap] 24) = w1 := ⟨_, rfl⟩
    rw [hw1] at hb1 hsz1 hbk hrow1
    have HN := Lib.hid hn
    have HB := Lib.hid hb1
    have HBK := Lib.hid hbk
    have HROW := Lib.hid hrow1
    have HW1 := Lib.hid hw1
    have HS1 := Lib.hid hsz1
    have HST := Lib.hid (fun k x h => denies_take kids k x h)
    have HAT := Lib.hid (fun k x h hx => denies_at kids k x h hx)
    have HKID := Lib.hid (fun (k : Ex) (hk : k ∈ kids) (us : List Value) (W' : World) (hx : ExAt W' S k us) => hr k us S W' (by have := Ex.sizes_mem kids k hk; omega) (by omega) hx)
    have HALL : Hid (deniesL (kids.take n) = deniesL kids) := Lib.hid (by rw [← hn, List.take_length])
    have hnl : n ≤ 2000000 := by omega
    generalize hT : deniesL kids = T at *
    have HLT : Hid (W.heap.size = bx) := Lib.hid hbx
    have hel := eq_list op opNot
    have hno : opNot.toList = [33] := by rw [Lib.toList_data]; rfl
    rw [hno] at hel
    clear hb1 hsz1 hbk hrow1 hrow hex hr hm hm2 hkl hn hw1 hbx hT
    rw [HLT.out]
    by_cases hop : op = opNot
    · subst hop
      rw [decide_eq_true rfl, Bool.true_or]
      clear hel hno
      unfold opNot at *
      go_enter Tryz.func21, Tryz.ntmps21
      go_wp2_with fail
      go_ret
      exact ⟨by first | rfl | simp, by have := HB.out; rw [HLT.out] at this; first | exact this | (rw [← HW1.out] at this; exact this)⟩
    · rw [decide_eq_false hop, Bool.false_or]
      rw [decide_eq_false hop] at hel
      have HOP := Lib.hid hop
      clear hop hno
      go_enter Tryz.func21, Tryz.ntmps21
      go_wp2_with fail
      go_loopw [3] (fun kv wr => ∃ (k : Nat), kv = .int .i64 k ∧ k ≤ n ∧ deniesL (kids.take k) = false ∧ Below (bx + 1) w1 wr) (fun kv _ => n - (intOf kv).toNat)
      case atStart => exact ⟨0, rfl, by omega, by simp [deniesL], by rw [HW1.out]; exact Below.refl _ _⟩
      case round =>
        obtain ⟨k, rfl, hk, hs, hbl⟩ := hrel
        have HSS := Lib.hid hs
        have HBL := Lib.hid hbl
        have hge : bx + 1 ≤ wr.heap.size := by have := hbl.size; have := HS1.out; omega
        have c2 : wr.cell? ⟨W.heap.size, 2, none⟩ = some (.slice a n cap) := by rw [HLT.out]; exact (hbl.cell (p := ⟨bx, 2, none⟩) (by show bx < bx + 1; omega)).trans (cell_of HBK.out 2)
        clear hs hbl
        by_cases hlt : k < n
        · have hlti : (k : Int) < (n : Int) := by omega
          obtain ⟨x, hx⟩ : ∃ x, kids[k]? = some x := ⟨_, List.getElem?_eq_getElem (by rw [HN.out]; exact hlt)⟩
          rcases HROW.out with h0 | ⟨b, o, rfl, hS, hbb, hcap, hkids⟩
          · exfalso; have := HN.out; rw [h0] at this; simp at this; omega
          · have hbb1 : b < bx + 1 := by have := HS1.out; omega
            obtain ⟨vs, hvl, hxk, hcl⟩ := KidsAt.get kids o k x hkids hx
            obtain ⟨op2, tag2, a2, n2, cap2, rfl⟩ := hxk.shape
            have k0 := (HBL.out.cell (p := ⟨b, o + k * 3, none⟩) hbb1).trans (hcl 0 _ rfl)
            have k1 := (HBL.out.cell (p := ⟨b, o + k * 3 + 1, none⟩) hbb1).trans (hcl 1 _ rfl)
            have k2 := (HBL.out.cell (p := ⟨b, o + k * 3 + 2, none⟩) hbb1).trans (hcl 2 _ rfl)
            have hkc : k < cap := by have := HN.out; omega
            have hx5 : ExAt wr S x [.string op2, .string tag2, .slice a2 n2 cap2] := hxk.keep (Same.of_below (by have := HBL.out; rw [← HS1.out] at this; exact this)) (fun _ h _ => h) x _
            have HC := Lib.hid (HKID.out x (List.mem_of_getElem? hx) [.string op2, .string tag2, .slice a2 n2 cap2] _ hx5)
            have HNX := Lib.hid (HST.out k x hx)
            have HXT := Lib.hid (HAT.out k x hx)
            clear hx hkids hxk hcl hx5 hvl
            have HBF : Hid (∀ w', Below wr.heap.size wr w' → Below bx W w') := Lib.hid (fun w' hb => by have := HB.out; rw [HLT.out] at this; exact (this.trans (HBL.out.mono (by omega))).trans (hb.mono (by omega)))
            generalize hz : deniesF x = z at *
            cases z with
            | true =>
              have HT : Hid (T = true) := Lib.hid (HXT.out rfl)
              clear hz
              go_wp2_with (go_at_call 21; with_reducible refine Calls.mono HC.out ?_; rintro e w6 ⟨rfl, hb6⟩; have HB6 := Lib.hid (HBF.out _ hb6); clear hb6)
              go_ret
              exact ⟨by rw [HT.out]; rfl, HB6.out⟩
            | false =>
              clear hz
              go_wp2_with (go_at_call 21; with_reducible refine Calls.mono HC.out ?_; rintro e w6 ⟨rfl, hb6⟩; have HB6 := Lib.hid (HBL.out.trans (hb6.mono hge)); clear hb6)
              go_roundw
              case rel => exact ⟨k + 1, by go_num, by omega, by rw [HNX.out, HSS.out]; rfl, HB6.out⟩
              case measure => simp [intOf] <;> omega
        · have hke : k = n := by omega
          have hlti : ¬ (k : Int) < (n : Int) := by omega
          have HBF : Hid (Below bx W wr) := Lib.hid (by have := HB.out; rw [HLT.out] at this; exact this.trans (HBL.out.mono (by omega)))
          have HF : Hid (T = false) := Lib.hid (by rw [← HALL.out, ← hke]; exact HSS.out)
          go_wp2_with fail
          go_ret
          exact ⟨by rw [HF.out]; rfl, HBF.out⟩
theorem denies_any : ∀ m : Nat, DeniesC m
  | 0 => fun x vs S W hm _ _ => by have := x.size_pos; omega
  | m + 1 => denies_succ m (denies_any m)
theorem denies_v (x : Ex) (vs : List Value) (S : Nat → Prop) (W : World) (h : x.size ≤ 2000000) (hex : ExAt W S x vs) :
    Calls Tryz.prog 21 #[.agg vs.toArray] W fun e w' => e = .returned (.bool (deniesF x)) ∧ Below W.heap.size W w' :=
  denies_any x.size x vs S W (Nat.le_refl _) h hex
end Go.Proofs.YtjgpopjnmonlkaaGreatDoor
