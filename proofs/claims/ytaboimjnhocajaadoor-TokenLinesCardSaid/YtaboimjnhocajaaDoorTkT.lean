import Derived.Test.YtaboimjnhocajaaDoorTkS
import Derived.Test.YtaboimjnhocajaaDoorTkR
namespace Go.Proofs.YtaboimjnhocajaaDoor
open Go.RowKit
set_option linter.unusedSimpArgs false
set_option linter.unusedVariables false

theorem six_close {u : Tok} (h : KOK u) (h6 : u.kind = 6) (hc : closesB u.kind u.text.toList = true) :
    u.text.toList = [43, 43] ∨ u.text.toList = [45, 45] ∨ u.text.toList = [41] ∨ u.text.toList = [93] ∨ u.text.toList = [125] := by
  have hw1 := h.w1
  have hw2 := h.w2
  rw [h6] at hw1 hw2 hc
  have hm : u.text.toList ∈ closers := by
    simpa [closesB] using hc
  simp only [closers, List.mem_cons, List.not_mem_nil, or_false] at hm
  rcases hm with e | e | e | e | e | e | e | e | e
  · rw [e] at hw1; exact absurd hw1 (by decide)
  · rw [e] at hw1; exact absurd hw1 (by decide)
  · rw [e] at hw1; exact absurd hw1 (by decide)
  · rw [e] at hw2; exact absurd hw2 (by decide)
  · exact .inl e
  · exact .inr (.inl e)
  · exact .inr (.inr (.inl e))
  · exact .inr (.inr (.inr (.inl e)))
  · exact .inr (.inr (.inr (.inr e)))

theorem open_end {k : Int} {l : List UInt8} (h : closesB k l = false) :
    (k != 1) = true ∧ (k != 4) = true ∧ (k != 5) = true ∧ (l != [114, 101, 116, 117, 114, 110]) = true ∧ (l != [41]) = true := by
  simp only [closesB, Bool.or_eq_false_iff, decide_eq_false_iff_not, beq_eq_false_iff_ne] at h
  obtain ⟨⟨⟨h1, h4⟩, h5⟩, hm⟩ := h
  refine ⟨by simpa using h1, by simpa using h4, by simpa using h5, ?_, ?_⟩
  · simp only [bne_iff_ne, ne_eq]; rintro rfl; exact hm (by decide)
  · simp only [bne_iff_ne, ne_eq]; rintro rfl; exact hm (by decide)

set_option maxRecDepth 100000 in
set_option maxHeartbeats 6400000 in
theorem lines_walk (p : Option Addr) (cap : Nat) (s : ByteArray) (w : World) (hb : BSl w p s) (hE : Env w) (h2 : 2 ≤ w.heap.size) :
    Calls Tryd.prog 8 #[.slice p s.size cap] w fun e w' => e = .returned (.bool true) ∧ Below w.heap.size w w' := by
  by_cases hl : 1000 < s.size
  · go_enter Tryd.func8, Tryd.ntmps8
    go_wp2_with fail
    go_ret
    exact ⟨rfl, Below.refl _ _⟩
  have hsc := Scan_any p cap s w hb hE h2 (by omega)
  have hko : ∀ tk nt, scanF s = .ok (tk, nt) → (∀ t ∈ tk, KOK t) ∧ LOK tk ∧ ∀ t, tk.getLast? = some t → closesB t.kind t.text.toList = false := fun tk nt h => ⟨kok_scan h, lok_scan h⟩
  have her : ∀ a n, scanF s = .error (a, n) → n = 12 ∨ n = 2 ∨ n = 3 := fun a n h => scan_err h
  generalize scanF s = R at hsc hko her
  have HE := Lib.hid hE
  clear hE hb
  rcases R with ⟨at_, n⟩ | ⟨tk, nt⟩
  · have hn := her _ _ rfl
    have hn0 : (n != 0) = true := by rcases hn with rfl | rfl | rfl <;> rfl
    clear her hko hn
    go_enter Tryd.func8, Tryd.ntmps8
    go_wp2_with (first
      | (go_at_call 10; refine hsc.mono ?_; rintro e w2 ⟨rfl, hb2⟩)
      | (go_at_call 14; refine (awake_any _ (HE.out.below hb2 h2) (by have := hb2.size; omega)).mono ?_; rintro e w3 ⟨rfl, hb3⟩))
    go_ret
    exact ⟨rfl, hb2.trans (hb3.mono hb2.size)⟩
  · obtain ⟨hk, hlok, hlast⟩ := hko tk nt rfl
    clear hko her
    go_enter Tryd.func8, Tryd.ntmps8
    go_wp2_with (go_at_call 10; refine hsc.mono ?_; rintro e w2 ⟨vt, rfl, hb2, ho⟩)
    have htl : tk.length ≤ 9223372036854775807 := own_len ho
    have HO := Lib.hid ho
    have HB := Lib.hid hb2
    have HK := Lib.hid hk
    have HLOK := Lib.hid hlok
    have HLAST := Lib.hid hlast
    obtain ⟨a, c, rfl⟩ := own_slice ho
    have hlt2 : 2 ≤ w2.heap.size := by have := hb2.size; omega
    have HE2 : Hid (Env w2) := Lib.hid (HE.out.below hb2 h2)
    obtain ⟨n, hlen⟩ : ∃ n, tk.length = n := ⟨_, rfl⟩
    have HLEN := Lib.hid hlen
    have HTC : Hid (0 < n → ∃ g, a = some ⟨g, 0, none⟩ ∧ g < w2.heap.size ∧ ∀ k (h : k < n), w2.cell? ⟨g, k * 3, none⟩ = some (.int .i64 (tk[k]'(by rw [HLEN.out]; exact h)).kind) ∧ w2.cell? ⟨g, k * 3 + 1, none⟩ = some (.string (tk[k]'(by rw [HLEN.out]; exact h)).text) ∧ w2.cell? ⟨g, k * 3 + 2, none⟩ = some (.int .i64 (tk[k]'(by rw [HLEN.out]; exact h)).at_)) := by
      subst hlen
      refine Lib.hid fun h0 => ?_
      obtain ⟨g, c', hv, hg, hcs⟩ := tok_cells ho (by intro e; rw [e] at h0; simp at h0)
      simp only [Value.slice.injEq, true_and] at hv
      exact ⟨g, hv.1, hg, hcs⟩
    clear ho hb2 hk hsc hlok hlast HO
    rw [hlen] at htl ⊢
    clear hlen
    go_loopw [6] (fun v wr => ∃ k : Nat, v = .int .i64 k ∧ k ≤ n ∧ Below w2.heap.size w2 wr) (fun v _ => n - (intOf v).toNat)
    case atStart => exact ⟨0, rfl, by omega, Below.refl _ _⟩
    case round =>
      obtain ⟨k, rfl, hkl, hbr⟩ := hrel
      have HBR := Lib.hid hbr
      clear hbr
      by_cases hlt : k < n
      · obtain ⟨g, rfl, hg, hcs⟩ := HTC.out (by omega)
        have hcr : ∀ i (h : i < n), wr.cell? ⟨g, i * 3, none⟩ = some (.int .i64 (tk[i]'(by rw [HLEN.out]; exact h)).kind) ∧ wr.cell? ⟨g, i * 3 + 1, none⟩ = some (.string (tk[i]'(by rw [HLEN.out]; exact h)).text) ∧ wr.cell? ⟨g, i * 3 + 2, none⟩ = some (.int .i64 (tk[i]'(by rw [HLEN.out]; exact h)).at_) := by
          intro i h
          obtain ⟨x1, x2, x3⟩ := hcs i h
          exact ⟨by rw [HBR.out.cell (p := ⟨g, i * 3, none⟩) hg]; exact x1, by rw [HBR.out.cell (p := ⟨g, i * 3 + 1, none⟩) hg]; exact x2, by rw [HBR.out.cell (p := ⟨g, i * 3 + 2, none⟩) hg]; exact x3⟩
        have HCR := Lib.hid hcr
        clear hcs hcr
        obtain ⟨e0, e1, e2⟩ := HCR.out k hlt
        have hlk := HLOK.out k (tk[k]'(by rw [HLEN.out]; exact hlt)) (List.getElem?_eq_getElem _)
        generalize (tk[k]'(by rw [HLEN.out]; exact hlt)) = t at e0 e1 e2 hlk
        obtain ⟨kd, x, at_⟩ := t
        simp only at e0 e1 e2 hlk
        by_cases hx : x.toList = [10]
        · obtain ⟨j, u, rfl, hu, hc⟩ := hlk hx
          obtain rfl := ofL hx
          clear hx
          have hju : j < n := by omega
          obtain ⟨d0, d1, d2⟩ := HCR.out j hju
          have huj : (tk[j]'(by rw [HLEN.out]; exact hju)) = u := by
            rw [List.getElem?_eq_getElem (by rw [HLEN.out]; exact hju)] at hu
            exact Option.some.inj hu
          have hko := HK.out u (huj ▸ List.getElem_mem _)
          rw [huj] at d0 d1 d2
          obtain ⟨ku, xu, au⟩ := u
          simp only at d0 d1 d2
          by_cases h6 : ku = 6
          · have hcl := six_close hko h6 hc
            simp only at hcl
            subst h6
            clear hko hc hu huj hlk
            rcases hcl with hcl | hcl | hcl | hcl | hcl
            all_goals
              obtain rfl := ofL hcl
              clear hcl
              go_wp2_with fail
              go_roundw
              case rel => exact ⟨j + 1 + 1, by go_num, by omega, HBR.out⟩
              case measure => simp [intOf]; omega
          · have h6' : (ku == 6) = false := by simpa using h6
            clear hko hc hu huj hlk h6
            go_wp2_with fail
            go_roundw
            case rel => exact ⟨j + 1 + 1, by go_num, by omega, HBR.out⟩
            case measure => simp [intOf]; omega
        · have hx' : (x.toList != [10]) = true := by simpa using hx
          have hx2 : (x.toList == [10]) = false := by simpa using hx
          clear hlk hx
          go_wp2_with fail
          go_roundw
          case rel => exact ⟨k + 1, by go_num, by omega, HBR.out⟩
          case measure => simp [intOf]; omega
      · obtain rfl : k = n := by omega
        have hfin : ∀ w5, Below wr.heap.size wr w5 → Below w.heap.size w w5 := fun w5 hb5 => HB.out.trans ((HBR.out.trans (hb5.mono HBR.out.size)).mono HB.out.size)
        have haw := awake_any wr (HE2.out.below HBR.out hlt2) (by have := HBR.out.size; omega)
        have HF := Lib.hid hfin
        have HAW := Lib.hid haw
        clear hfin haw
        by_cases h0 : k = 0
        · subst h0
          go_wp2_with (go_at_call 14; refine HAW.out.mono ?_; rintro e w5 ⟨rfl, hb5⟩)
          go_ret
          exact ⟨rfl, HF.out _ hb5⟩
        · obtain ⟨m, rfl⟩ : ∃ m, k = m + 1 := ⟨k - 1, by omega⟩
          obtain ⟨g, rfl, hg, hcs⟩ := HTC.out (by omega)
          obtain ⟨x1, x2, x3⟩ := hcs m (by omega)
          have e0 := (HBR.out.cell (p := ⟨g, m * 3, none⟩) hg).trans x1
          have e1 := (HBR.out.cell (p := ⟨g, m * 3 + 1, none⟩) hg).trans x2
          have e2 := (HBR.out.cell (p := ⟨g, m * 3 + 2, none⟩) hg).trans x3
          have hop := open_end (HLAST.out (tk[m]'(by rw [HLEN.out]; omega)) (by rw [List.getLast?_eq_getElem?, show tk.length - 1 = m from by rw [HLEN.out]; rfl]; exact List.getElem?_eq_getElem _))
          clear hcs x1 x2 x3 h0
          generalize (tk[m]'(by rw [HLEN.out]; omega)) = t at e0 e1 e2 hop
          obtain ⟨kd, x, at_⟩ := t
          simp only at e0 e1 e2 hop
          obtain ⟨o1, o2, o3, o4, o5⟩ := hop
          have o4' : ¬ x.toList = [114, 101, 116, 117, 114, 110] := by simpa using o4
          have o5' : ¬ x.toList = [41] := by simpa using o5
          clear o4 o5
          have hal : Below wr.heap.size wr (wr.alloc (.cells #[.int .i64 kd, .string x, .int .i64 at_] 38)) := (Below.refl _ _).alloc (Nat.le_refl _) _
          have hrs : 2 ≤ wr.heap.size := by have := HBR.out.size; omega
          have haw2 := awake_any (wr.alloc (.cells #[.int .i64 kd, .string x, .int .i64 at_] 38)) ((HE2.out.below HBR.out hlt2).below hal hrs) (by have := hal.size; omega)
          have HAW2 := Lib.hid haw2
          have HAL := Lib.hid hal
          clear haw2 hal
          go_wp2_with (go_at_call 14; refine HAW2.out.mono ?_; rintro e w5 ⟨rfl, hb5⟩)
          all_goals
            go_ret
            exact ⟨by simp [o4', o5'], HF.out _ (HAL.out.trans (hb5.mono HAL.out.size))⟩
end Go.Proofs.YtaboimjnhocajaaDoor
