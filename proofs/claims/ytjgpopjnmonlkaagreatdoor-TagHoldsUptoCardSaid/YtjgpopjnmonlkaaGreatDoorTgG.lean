import Derived.Test.YtjgpopjnmonlkaaGreatDoorTgR
namespace Go.Proofs.YtjgpopjnmonlkaaGreatDoor
open Go.RowKit Go.Shelf
set_option linter.unusedSimpArgs false
set_option linter.unusedVariables false
set_option linter.unusedSectionVars false

/-! Layer 5: does it hold? -/
/-- Texts in a row. -/
def TagsAt (w : World) (a : Option Addr) (cap : Nat) (tags : List ByteArray) : Prop := tags = [] ∨ ∃ b o, a = some ⟨b, o, none⟩ ∧ b < w.heap.size ∧ tags.length ≤ cap ∧ ∀ (j : Nat) (x : ByteArray), tags[j]? = some x → w.cell? ⟨b, o + j, none⟩ = some (.string x)
theorem TagsAt.below {w w' : World} {a : Option Addr} {cap : Nat} {tags : List ByteArray} (h : TagsAt w a cap tags) (hb : Below w.heap.size w w') : TagsAt w' a cap tags := by
  rcases h with h | ⟨b, o, h1, h2, h3, h4⟩
  · exact .inl h
  · exact .inr ⟨b, o, h1, Nat.lt_of_lt_of_le h2 hb.size, h3, fun j x hx => by rw [hb.cell (p := ⟨b, o + j, none⟩) h2]; exact h4 j x hx⟩
theorem contains_v (a : Option Addr) (cap : Nat) (tags : List ByteArray) (x : ByteArray) (w : World) (h : TagsAt w a cap tags) (hl : tags.length ≤ 1000000) :
    Calls Tryz.prog 35 #[.slice a tags.length cap, .string x] w fun e w' => e = .returned (.bool (Lib.containsS tags x)) ∧ w' = w := by
  rcases h with rfl | ⟨b, o, rfl, h2, h3, h4⟩
  · exact Tryz.slices_Contains_string_empty a cap x w
  · have := Tryz.slices_Contains_string b o tags.length cap tags x w (Nat.le_refl _) (by omega) (fun j hj => by
      rw [List.getD_eq_getElem?_getD, List.getElem?_eq_getElem hj]
      exact h4 j _ (List.getElem?_eq_getElem hj))
    rw [List.take_length] at this
    exact this
/-- A constraint that may be one, within some room. -/
def Ex.rt (x : Ex) : Prop := ∃ n, rightF n x = true
theorem Ex.rt.cases {op tag : ByteArray} {kids : List Ex} (h : (Ex.node op tag kids).rt) :
    (op = ⟨#[]⟩ ∧ kids = []) ∨ (op = ⟨#[33]⟩ ∧ ∃ k, kids = [k] ∧ k.rt) ∨ (op = ⟨#[38, 38]⟩ ∧ 2 ≤ kids.length ∧ ∀ k ∈ kids, k.rt) ∨ (op = ⟨#[124, 124]⟩ ∧ 2 ≤ kids.length ∧ ∀ k ∈ kids, k.rt) := by
  obtain ⟨n, h⟩ := h
  cases n with
  | zero => unfold rightF at h; cases h
  | succ n =>
    by_cases h0 : op = ⟨#[]⟩
    · subst h0
      rw [rightF_nil, Bool.and_eq_true] at h
      exact .inl ⟨rfl, List.isEmpty_iff.mp h.2⟩
    · by_cases h1 : op = ⟨#[33]⟩
      · subst h1
        rw [rightF_not] at h
        simp only [Bool.and_eq_true, decide_eq_true_eq, List.all_eq_true] at h
        obtain ⟨k, rfl⟩ := List.length_eq_one_iff.mp h.1
        exact .inr (.inl ⟨rfl, k, rfl, n, h.2.2 k (by simp)⟩)
      · by_cases h2 : op = ⟨#[38, 38]⟩
        · subst h2
          rw [rightF_and] at h
          simp only [Bool.and_eq_true, decide_eq_true_eq, List.all_eq_true] at h
          exact .inr (.inr (.inl ⟨rfl, h.1, fun k hk => ⟨n, h.2.2 k hk⟩⟩))
        · by_cases h3 : op = ⟨#[124, 124]⟩
          · subst h3
            rw [rightF_or] at h
            simp only [Bool.and_eq_true, decide_eq_true_eq, List.all_eq_true] at h
            exact .inr (.inr (.inr ⟨rfl, h.1, fun k hk => ⟨n, h.2.2 k hk⟩⟩))
          · rw [rightF_else n op tag kids h0 h1 h2 h3] at h
            cases h
theorem holds1k : ∀ args (w : World), (callFunc 32 args).run Tryz.prog w = .ok (.enter 32 args) w := enters_of Tryz.func32 (by kernel_rfl) rfl
def HoldsC (m : Nat) : Prop := ∀ (x : Ex) (vs : List Value) (S : Nat → Prop) (W : World) (ta : Option Addr) (tcap : Nat) (tags : List ByteArray), x.size ≤ m → ExAt W S x vs → x.ok → x.rt → TagsAt W ta tcap tags → tags.length ≤ 1000000 → EnvV W →
  Calls Tryz.prog 24 #[.agg vs.toArray, .slice ta tags.length tcap] W fun e w' => e = .returned (.bool (holdsF relF tags x)) ∧ Below W.heap.size W w'
set_option maxHeartbeats 800000 in
theorem holds1_v (m : Nat) (hr : HoldsC m) (k : Ex) (vs : List Value) (S : Nat → Prop) (W : World) (bx : Nat) (ta : Option Addr) (tcap : Nat) (tags : List ByteArray) (hm : k.size ≤ m) (hex : ExAt W S k vs) (hk : k.ok) (hrt : k.rt) (ht : TagsAt W ta tcap tags) (htl : tags.length ≤ 1000000) (hE : EnvV W)
    (hc : W.cell? ⟨bx, 0, none⟩ = some (.slice ta tags.length tcap)) :
    Calls Tryz.prog 32 #[.agg vs.toArray, .pointer (some ⟨bx, 0, none⟩)] W fun e w' => e = .returned (.bool (holdsF relF tags k)) ∧ Below W.heap.size W w' := by
  have hlt := World.block_lt_of_cell? _ _ hc
  obtain ⟨v0, v1, v2, rfl⟩ := three hex.len
  have hb1 : Below W.heap.size W (W.alloc (.cells #[v0, v1, v2] 29)) := (Below.refl _ _).alloc (Nat.le_refl _) _
  have hc1 : (W.alloc (.cells #[v0, v1, v2] 29)).cell? ⟨bx, 0, none⟩ = some (.slice ta tags.length tcap) := by rw [hb1.cell (p := ⟨bx, 0, none⟩) hlt]; exact hc
  have hcl := hr k [v0, v1, v2] S _ ta tcap tags hm (hex.below hb1) hk hrt (ht.below hb1) htl (hE.below hb1 hE.2.2.2)
  have HC := Lib.hid hcl
  have HB := Lib.hid hb1
  clear hcl hb1 hex hc hr ht hE
  generalize holdsF relF tags k = R at *
  generalize tags.length = L at *
  go_enter Tryz.func32, Tryz.ntmps32
  go_wp2_with (go_at_call 24; with_reducible refine Calls.mono HC.out ?_; rintro e w2 ⟨rfl, hb2⟩; have HB2 := Lib.hid (HB.out.trans (hb2.mono HB.out.size)); clear hb2)
  go_ret
  exact ⟨by first | rfl | simp, HB2.out⟩
-- the rest is made by gen_tagholds.py
theorem holdsF_nil (rel : ByteArray → Int) (tags : List ByteArray) (tag : ByteArray) (kids : List Ex) : holdsF rel tags (.node ⟨#[]⟩ tag kids) = if rel tag ≠ -1 then decide (rel tag ≤ 24) else Lib.containsS tags tag := by rw [holdsF, if_neg (by decide), if_neg (by decide), if_neg (by decide)]
theorem holdsF_not (rel : ByteArray → Int) (tags : List ByteArray) (tag : ByteArray) (k : Ex) : holdsF rel tags (.node ⟨#[33]⟩ tag [k]) = !(holdsF rel tags k) := by rw [holdsF, if_pos (show (⟨#[33]⟩ : ByteArray) = opNot from rfl), holdsHead]
theorem holdsF_and (rel : ByteArray → Int) (tags : List ByteArray) (tag : ByteArray) (kids : List Ex) : holdsF rel tags (.node ⟨#[38, 38]⟩ tag kids) = kids.all (holdsF rel tags) := by rw [holdsF, if_neg (by decide), if_pos (show (⟨#[38, 38]⟩ : ByteArray) = opAnd from rfl), holdsAll_all]
theorem holdsF_or (rel : ByteArray → Int) (tags : List ByteArray) (tag : ByteArray) (kids : List Ex) : holdsF rel tags (.node ⟨#[124, 124]⟩ tag kids) = kids.any (holdsF rel tags) := by rw [holdsF, if_neg (by decide), if_neg (by decide), if_pos (show (⟨#[124, 124]⟩ : ByteArray) = opOr from rfl), holdsAny_any]
set_option maxRecDepth 100000 in
set_option maxHeartbeats 3200000 in
theorem holds_succ (m : Nat) (hr : HoldsC m) : HoldsC (m + 1) := by
  intro x vs S W ta tcap tags hm hex hok hrt ht htl hE
  cases x with
  | node op tag kids =>
    obtain ⟨a, cap, rfl, hrow⟩ := hex.row
    obtain ⟨hkl, hol, htgl⟩ := hok.len
    have hb1 : Below W.heap.size W (W.alloc (.cells #[.string op, .string tag, .slice a kids.length cap] 29)) := (Below.refl _ _).alloc (Nat.le_refl _) _
    have hb2 : Below W.heap.size W ((W.alloc (.cells #[.string op, .string tag, .slice a kids.length cap] 29)).alloc (.cells #[.slice ta tags.length tcap] 25)) := hb1.alloc (by simp) _
    have hsz1 : (W.alloc (.cells #[.string op, .string tag, .slice a kids.length cap] 29)).heap.size = W.heap.size + 1 := by simp
    have hsz2 : ((W.alloc (.cells #[.string op, .string tag, .slice a kids.length cap] 29)).alloc (.cells #[.slice ta tags.length tcap] 25)).heap.size = W.heap.size + 2 := by simp
    have hci : ((W.alloc (.cells #[.string op, .string tag, .slice a kids.length cap] 29)).alloc (.cells #[.slice ta tags.length tcap] 25)).cell? ⟨W.heap.size + 1, 0, none⟩ = some (.slice ta tags.length tcap) := by
      have := heap_alloc_new (W.alloc (.cells #[.string op, .string tag, .slice a kids.length cap] 29)) (.cells #[.slice ta tags.length tcap] 25)
      rw [hsz1] at this
      exact cell_of this 0
    have hE2 : EnvV ((W.alloc (.cells #[.string op, .string tag, .slice a kids.length cap] 29)).alloc (.cells #[.slice ta tags.length tcap] 25)) := hE.below hb2 hE.2.2.2
    have h8 := hE.2.2.2
    have hone : ∀ (W' : World) (k : Ex) (us : List Value), Below ((W.alloc (.cells #[.string op, .string tag, .slice a kids.length cap] 29)).alloc (.cells #[.slice ta tags.length tcap] 25)).heap.size ((W.alloc (.cells #[.string op, .string tag, .slice a kids.length cap] 29)).alloc (.cells #[.slice ta tags.length tcap] 25)) W' → k ∈ kids → k.rt → ExAt W' S k us →
        Calls Tryz.prog 32 #[.agg us.toArray, .pointer (some ⟨W.heap.size + 1, 0, none⟩)] W' fun e w' => e = .returned (.bool (holdsF relF tags k)) ∧ Below W'.heap.size W' w' := fun W' k us hW hk hkr hx => by
      have hkk := hok.kid hk
      refine holds1_v m hr k us S W' (W.heap.size + 1) ta tcap tags (by omega) hx hkk.1 hkr ((ht.below hb2).below hW) htl (hE2.below hW (by rw [hsz2]; omega)) ?_
      rw [hW.cell (p := ⟨W.heap.size + 1, 0, none⟩) (by rw [hsz2]; show W.heap.size + 1 < W.heap.size + 2; omega)]
      exact hci
    have HB := Lib.hid hb2
    have HR0 := Lib.hid (fun (w' : World) (hb : Below ((W.alloc (.cells #[.string op, .string tag, .slice a kids.length cap] 29)).alloc (.cells #[.slice ta tags.length tcap] 25)).heap.size ((W.alloc (.cells #[.string op, .string tag, .slice a kids.length cap] 29)).alloc (.cells #[.slice ta tags.length tcap] 25)) w') => release_v tag w' (by omega) (hE2.below hb (by rw [hsz2]; omega)))
    have HT0 := Lib.hid (fun (w' : World) (hb : Below ((W.alloc (.cells #[.string op, .string tag, .slice a kids.length cap] 29)).alloc (.cells #[.slice ta tags.length tcap] 25)).heap.size ((W.alloc (.cells #[.string op, .string tag, .slice a kids.length cap] 29)).alloc (.cells #[.slice ta tags.length tcap] 25)) w') => contains_v ta tcap tags tag w' ((ht.below hb2).below hb) htl)
    have hct : ((W.alloc (.cells #[.string op, .string tag, .slice a kids.length cap] 29)).alloc (.cells #[.slice ta tags.length tcap] 25)).cell? ⟨W.heap.size, 1, none⟩ = some (.string tag) := by
      rw [((Below.refl _ _).alloc (Nat.le_refl _) _ : Below (W.alloc (.cells #[.string op, .string tag, .slice a kids.length cap] 29)).heap.size _ _).cell (p := ⟨W.heap.size, 1, none⟩) (by rw [hsz1]; show W.heap.size < W.heap.size + 1; omega)]
      exact cell_of (heap_alloc_new W _) 1
    have HCC := Lib.hid (fun (w' : World) (hb : Below ((W.alloc (.cells #[.string op, .string tag, .slice a kids.length cap] 29)).alloc (.cells #[.slice ta tags.length tcap] 25)).heap.size ((W.alloc (.cells #[.string op, .string tag, .slice a kids.length cap] 29)).alloc (.cells #[.slice ta tags.length tcap] 25)) w') => And.intro ((hb.cell (p := ⟨W.heap.size + 1, 0, none⟩) (by rw [hsz2]; show W.heap.size + 1 < W.heap.size + 2; omega)).trans hci) ((hb.cell (p := ⟨W.heap.size, 1, none⟩) (by rw [hsz2]; show W.heap.size < W.heap.size + 2; omega)).trans hct))
    rcases hrt.cases with ⟨rfl, rfl⟩ | ⟨rfl, k, rfl, hkr⟩ | ⟨rfl, hk2, hkr⟩ | ⟨rfl, hk2, hkr⟩
    · rw [holdsF_nil]
      clear hone hci hct hE2 hb1 hb2 hsz1 hsz2 hrow hex hok hr hE ht hrt htgl hol hm
      simp only [List.length_nil] at *
      generalize relF tag = r at *
      generalize Lib.containsS tags tag = c at *
      generalize tags.length = L at *
      by_cases hrr : r = -1
      · subst hrr
        rw [if_neg (fun h => h rfl)]
        go_enter Tryz.func24, Tryz.ntmps24
        go_wp2_with (first
          | (go_at_call 34; with_reducible refine Calls.mono (HR0.out _ (Below.refl _ _)) ?_; rintro e w2 ⟨rfl, hb2⟩; have HB0 := Lib.hid hb2; have HB2 := Lib.hid (HB.out.trans (hb2.mono HB.out.size)); clear hb2; obtain ⟨c1, c2⟩ := HCC.out _ HB0.out)
          | (go_at_call 35; with_reducible refine Calls.mono (HT0.out _ HB0.out) ?_; rintro e w3 ⟨rfl, hw3⟩; replace hw3 := hw3.symm; subst hw3))
        go_ret
        exact ⟨by first | rfl | simp, HB2.out⟩
      · rw [if_pos hrr]
        have hrb : (r != -1) = true := by simpa using hrr
        go_enter Tryz.func24, Tryz.ntmps24
        go_wp2_with (go_at_call 34; with_reducible refine Calls.mono (HR0.out _ (Below.refl _ _)) ?_; rintro e w2 ⟨rfl, hb2⟩; have HB2 := Lib.hid (HB.out.trans (hb2.mono HB.out.size)); clear hb2)
        all_goals go_ret
        all_goals exact ⟨by first | rfl | simp, HB2.out⟩
    · rw [holdsF_not]
      obtain ⟨b, o, rfl, hS, hbl, hcap, hkids⟩ : ∃ b o, a = some ⟨b, o, none⟩ ∧ S b ∧ b < W.heap.size ∧ [k].length ≤ cap ∧ KidsAt W S b [k] o := by
        rcases hrow with h | h
        · cases h
        · exact h
      obtain ⟨vs, hvl, hxk, hcl⟩ := KidsAt.get [k] o 0 k hkids rfl
      obtain ⟨v0, v1, v2, rfl⟩ := three hvl
      have hall : Below W.heap.size W _ := hb2
      have k0 := (hall.cell (p := ⟨b, o, none⟩) hbl).trans (hcl 0 v0 rfl)
      have k1 := (hall.cell (p := ⟨b, o + 1, none⟩) hbl).trans (hcl 1 v1 rfl)
      have k2 := (hall.cell (p := ⟨b, o + 2, none⟩) hbl).trans (hcl 2 v2 rfl)
      have hcap1 : 1 ≤ cap := hcap
      have HONE := Lib.hid (hone _ k [v0, v1, v2] (Below.refl _ _) (by simp) hkr (hxk.below hb2))
      clear hone hci hct hE2 hb1 hb2 hsz1 hsz2 hex hok hr hE ht hrt htgl hol hm hkr hrow hkids hcl hxk hvl hall HR0 HT0 HCC hcap
      generalize holdsF relF tags k = R at *
      generalize tags.length = L at *
      simp only [List.length_singleton] at *
      go_enter Tryz.func24, Tryz.ntmps24
      go_wp2_with (go_at_call 32; with_reducible refine Calls.mono HONE.out ?_; rintro e w2 ⟨rfl, hb2⟩; have HB2 := Lib.hid (HB.out.trans (hb2.mono HB.out.size)); clear hb2)
      go_ret
      exact ⟨by first | rfl | simp, HB2.out⟩
    · rw [holdsF_and]
      have HALL := Lib.hid (all_v5 (holdsF relF tags) 32 #[.pointer (some ⟨W.heap.size + 1, 0, none⟩)] holds1k a cap kids S _ (hrow.below hb2) (by omega) (fun W' k us hW hk hx => hone W' k us hW hk (hkr k hk) hx))
      clear hone hci hct hE2 hb1 hb2 hsz1 hsz2 hrow hex hok hr hE ht hrt htgl hol hm hkr
      generalize kids.all (holdsF relF tags) = R at *
      generalize kids.length = KL at *
      generalize tags.length = L at *
      go_enter Tryz.func24, Tryz.ntmps24
      go_wp2_with (go_at_call 30; with_reducible refine Calls.mono HALL.out ?_; rintro e w2 ⟨rfl, hb2⟩; have HB2 := Lib.hid (HB.out.trans (hb2.mono HB.out.size)); clear hb2)
      go_ret
      exact ⟨by first | rfl | simp, HB2.out⟩
    · rw [holdsF_or]
      have HALL := Lib.hid (containsFunc_v (holdsF relF tags) 32 #[.pointer (some ⟨W.heap.size + 1, 0, none⟩)] holds1k a cap kids S _ (hrow.below hb2) (by omega) (fun W' k us hW hk hx => hone W' k us hW hk (hkr k hk) hx))
      clear hone hci hct hE2 hb1 hb2 hsz1 hsz2 hrow hex hok hr hE ht hrt htgl hol hm hkr
      generalize kids.any (holdsF relF tags) = R at *
      generalize kids.length = KL at *
      generalize tags.length = L at *
      go_enter Tryz.func24, Tryz.ntmps24
      go_wp2_with (go_at_call 33; with_reducible refine Calls.mono HALL.out ?_; rintro e w2 ⟨rfl, hb2⟩; have HB2 := Lib.hid (HB.out.trans (hb2.mono HB.out.size)); clear hb2)
      go_ret
      exact ⟨by first | rfl | simp, HB2.out⟩
end Go.Proofs.YtjgpopjnmonlkaaGreatDoor
