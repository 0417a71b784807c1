import Derived.Test.YtppnjliamfnlkaaLtG
import Derived.Lib.AppendStr
import Derived.Deep.AppendLies
import Derived.Deep.RegionLaw
namespace Go.Proofs.Ytppnjliamfnlkaa
open Go.RowKit
set_option linter.unusedSimpArgs false
set_option linter.unusedVariables false
set_option linter.unusedSectionVars false

/-! Layer 3: Quote. -/
/-- Numbers as bytes. -/
def bytesOf (l : List Nat) : ByteArray := ⟨(l.map UInt8.ofNat).toArray⟩
theorem bytesOf_size (l : List Nat) : (bytesOf l).size = l.length := by simp [bytesOf, ByteArray.size]
theorem bytesOf_byte (l : List Nat) (hl : ∀ x ∈ l, x < 256) (i : Nat) (hi : i < l.length) : (u8s l)[i]? = some (.int .u8 (byteN (bytesOf l) i)) := by
  have hg : l[i]? = some l[i] := List.getElem?_eq_getElem _
  have hm : l[i] < 256 := hl _ (List.getElem_mem _)
  simp only [u8s, byteN, bytesOf, List.getElem?_map, hg, Option.map_some, List.getD_eq_getElem?_getD, Option.getD_some]
  congr 2
  generalize l[i] = d at hm
  show (d : Int) = ((UInt8.ofNat d).toNat : Int)
  rw [UInt8.toNat_ofNat']
  omega
theorem row_bsl {w : World} {B : Nat} {a : Option Addr} {c : Nat} {l : List Nat} (h : w.ownsRow B 5 1 (.slice a l.length c) l.length (u8s l)) (hl : ∀ x ∈ l, x < 256) : BSl w a (bytesOf l) := by
  by_cases h0 : l = []
  · subst h0; exact .inl rfl
  obtain ⟨g, cap, hs⟩ := row_some h (by simp [u8s, h0])
  simp only [Value.slice.injEq, true_and] at hs
  obtain ⟨rfl, rfl⟩ := hs
  refine .inr ⟨g, 0, rfl, ?_, (h.lt g rfl).2⟩
  intro i hi
  rw [bytesOf_size] at hi
  rw [Nat.zero_add, h.cellAt i (by omega)]
  exact bytesOf_byte l hl i hi
theorem strCells_u8 (s : ByteArray) : Lib.strCells s = u8s (s.data.toList.map UInt8.toNat) := by
  simp [Lib.strCells, u8s]

def hexd (n : Nat) : Nat := if n < 10 then 48 + n else 87 + n
/-- A byte, written plainly. -/
def quoteB (c : Nat) : List Nat :=
  if c = 34 ∨ c = 92 then [92, c] else if c = 10 then [92, 110] else if c = 9 then [92, 116] else if 32 ≤ c ∧ c ≤ 126 then [c] else [92, 120, hexd (c / 16), hexd (c % 16)]
def quoteL (s : ByteArray) (k : Nat) : List Nat := 34 :: (s.data.toList.take k).flatMap fun c => quoteB c.toNat
def quoteF (s : ByteArray) : ByteArray := bytesOf (quoteL s s.size ++ [34])
theorem quoteB_lt (c : Nat) (h : c < 256) : ∀ x ∈ quoteB c, x < 256 := by
  intro x hx
  unfold quoteB hexd at hx
  repeat' split at hx
  all_goals (simp only [List.mem_cons, List.not_mem_nil, or_false] at hx; omega)
theorem quoteB_len (c : Nat) : (quoteB c).length ≤ 4 := by
  unfold quoteB
  repeat' split
  all_goals simp
theorem quoteL_succ (s : ByteArray) (k : Nat) (h : k < s.size) : quoteL s (k + 1) = quoteL s k ++ quoteB (byteN s k) := by
  have hk : k < s.data.toList.length := by simpa using h
  simp only [quoteL, List.take_add_one, List.flatMap_append, List.cons_append, List.cons.injEq, true_and]
  congr 1
  rw [List.getElem?_eq_getElem hk]
  simp only [Option.toList_some, List.flatMap_cons, List.flatMap_nil, List.append_nil, byteN, List.getD_eq_getElem?_getD, List.getElem?_eq_getElem hk, Option.getD_some]
theorem quoteL_lt (s : ByteArray) (k : Nat) : ∀ x ∈ quoteL s k, x < 256 := by
  intro x hx
  simp only [quoteL, List.mem_cons, List.mem_flatMap] at hx
  rcases hx with rfl | ⟨c, _, hx⟩
  · omega
  · exact quoteB_lt _ (UInt8.toNat_lt c) x hx
theorem quoteL_len (s : ByteArray) (k : Nat) : (quoteL s k).length ≤ 1 + 4 * k := by
  have h : ∀ l : List UInt8, (l.flatMap fun c => quoteB c.toNat).length ≤ 4 * l.length := by
    intro l
    induction l with
    | nil => simp
    | cons a l ih => have := quoteB_len a.toNat; simp only [List.flatMap_cons, List.length_append, List.length_cons]; omega
  have := h (s.data.toList.take k)
  simp only [quoteL, List.length_cons, List.length_take] at *
  omega

theorem newsN {w : World} {vs : List Value} {t : TypeId} : ∀ j u, vs[j]? = some u → (w.alloc (.cells vs.toArray t)).cell? ((⟨w.heap.size, 0, none⟩ : Addr).add j) = some u :=
  World.news_of_block (cs := vs.toArray) (heap_alloc_new w _)

theorem hex_all : ∀ a : Fin 16, ((⟨#[48, 49, 50, 51, 52, 53, 54, 55, 56, 57, 97, 98, 99, 100, 101, 102]⟩ : ByteArray)[a.val]'(by have := a.isLt; simp [ByteArray.size])).toNat = hexd a.val := by decide +kernel
theorem and15_all : ∀ c : Fin 256, bits BinOp.and IntKind.u8 (c.val : Int) 15 = ((c.val % 16 : Nat) : Int) := by decide +kernel
theorem hex_at (a : Nat) (h : a < 16) : ∀ h' : a < (⟨#[48, 49, 50, 51, 52, 53, 54, 55, 56, 57, 97, 98, 99, 100, 101, 102]⟩ : ByteArray).size, ((⟨#[48, 49, 50, 51, 52, 53, 54, 55, 56, 57, 97, 98, 99, 100, 101, 102]⟩ : ByteArray)[a]'h').toNat = hexd a := fun _ => hex_all ⟨a, h⟩

set_option maxHeartbeats 6400000 in
theorem quote_any (s : ByteArray) (w : World) (hs : s.size ≤ 100000) :
    Calls Try.prog 15 #[.string s] w fun e w' => e = .returned (.string (quoteF s)) ∧ Below w.heap.size w w' := by
  obtain ⟨i0, hi0, hz0, hz1, hz2⟩ := info_parts info8
  go_enter Try.func15, Try.ntmps15
  go_wp2_with fail
  have hown0 : (w.alloc (.cells #[.int .u8 34] 5)).ownsRow w.heap.size 5 1 (.slice (some ⟨w.heap.size, 0, none⟩) 1 1) 1 [.int .u8 34] := World.ownsRow_lit w #[.int .u8 34] 1 (Nat.le_refl _) (by decide) rfl
  have hb0 : Below w.heap.size w (w.alloc (.cells #[.int .u8 34] 5)) := (Below.refl _ _).alloc (Nat.le_refl _) _
  have hsz0 : w.heap.size ≤ (w.alloc (.cells #[.int .u8 34] 5)).heap.size := hb0.size
  generalize w.alloc (.cells #[.int .u8 34] 5) = w0 at *
  go_loopw [3, 9] (fun v iv wr => ∃ k : Nat, iv = .int .i64 k ∧ k ≤ s.size ∧ wr.ownsRow w.heap.size 5 1 v (quoteL s k).length (u8s (quoteL s k)) ∧ Below w.heap.size w wr) (fun _ iv _ => s.size - (intOf iv).toNat)
  case atStart => exact ⟨0, rfl, by omega, by simpa [quoteL, u8s] using hown0, hb0⟩
  case round =>
    obtain ⟨k, rfl, hk, hown, hbl⟩ := hrel
    have HO := Lib.hid hown
    have HBL := Lib.hid hbl
    have hwr := hbl.size
    clear hown hbl hown0 hb0 hsz0
    have hql := quoteL_len s k
    by_cases hlt : k < s.size
    · have hb := str_byte s k hlt
      have hc := byteN_lt s k
      have HS := Lib.hid (quoteL_succ s k hlt)
      generalize byteN s k = c at *
      by_cases c1 : c = 34
      · subst c1
        have HQ : Hid (quoteB 34 = [92, 34]) := Lib.hid rfl
        go_wp2_with (first
          | (at_builtin; refine wpList_append_own _ rfl _ _ 32 rfl w.heap.size 5 i0 (.int .u8 0) 1 1 Try.underlying32 hi0 hz0 hz1 hz2 rfl (by decide) _ _ _ rfl (HO.out.alloc _) ⟨wr.heap.size, 0, none⟩ 2 2 [.int .u8 92, .int .u8 34] rfl rfl newsN ?c2 ?c3 ?c4 ?c5 ?_))
        case c2 => intro u hu; simp at hu; (try rcases hu with rfl | rfl); all_goals (first | rfl | (subst hu; rfl))
        case c3 => unfold maxLen; omega
        case c4 => omega
        case c5 => simp; omega
        intro v' w1 hown' hgrow _
        have HO2 : Hid (w1.ownsRow w.heap.size 5 1 v' (quoteL s (k + 1)).length (u8s (quoteL s (k + 1)))) := Lib.hid (by rw [HS.out, HQ.out]; simpa [u8s] using hown')
        have HB3 : Hid (Below w.heap.size w w1) := Lib.hid (append8_below HBL.out HO.out hwr hgrow)
        clear hown' hgrow
        go_wp2_with fail
        go_roundw
        case rel => exact ⟨k + 1, by go_num, by omega, HO2.out, HB3.out⟩
        case measure => simp [intOf]; omega
      have k1 : ((c : Int) == 34) = false := by simp; omega
      by_cases c2 : c = 92
      · subst c2
        have HQ : Hid (quoteB 92 = [92, 92]) := Lib.hid rfl
        go_wp2_with (first
          | (at_builtin; refine wpList_append_own _ rfl _ _ 32 rfl w.heap.size 5 i0 (.int .u8 0) 1 1 Try.underlying32 hi0 hz0 hz1 hz2 rfl (by decide) _ _ _ rfl (HO.out.alloc _) ⟨wr.heap.size, 0, none⟩ 2 2 [.int .u8 92, .int .u8 92] rfl rfl newsN ?c2 ?c3 ?c4 ?c5 ?_))
        case c2 => intro u hu; simp at hu; (try rcases hu with rfl | rfl); all_goals (first | rfl | (subst hu; rfl))
        case c3 => unfold maxLen; omega
        case c4 => omega
        case c5 => simp; omega
        intro v' w1 hown' hgrow _
        have HO2 : Hid (w1.ownsRow w.heap.size 5 1 v' (quoteL s (k + 1)).length (u8s (quoteL s (k + 1)))) := Lib.hid (by rw [HS.out, HQ.out]; simpa [u8s] using hown')
        have HB3 : Hid (Below w.heap.size w w1) := Lib.hid (append8_below HBL.out HO.out hwr hgrow)
        clear hown' hgrow
        go_wp2_with fail
        go_roundw
        case rel => exact ⟨k + 1, by go_num, by omega, HO2.out, HB3.out⟩
        case measure => simp [intOf]; omega
      have k2 : ((c : Int) == 92) = false := by simp; omega
      by_cases c3 : c = 10
      · subst c3
        have HQ : Hid (quoteB 10 = [92, 110]) := Lib.hid rfl
        go_wp2_with (first
          | (at_builtin; refine Lib.wpList_append_own_string _ rfl _ _ 32 9 rfl w.heap.size 5 i0 Try.underlying32 Try.underlying9 hi0 hz0 hz1 hz2 _ _ _ rfl HO.out ⟨#[92, 110]⟩ rfl ?c3 ?c4 ?c5 ?_))
        case c3 => simp [ByteArray.size]; unfold maxLen; omega
        case c4 => simp [ByteArray.size]; omega
        case c5 => omega
        intro v' w1 hown' hgrow _
        have HO2 : Hid (w1.ownsRow w.heap.size 5 1 v' (quoteL s (k + 1)).length (u8s (quoteL s (k + 1)))) := Lib.hid (by rw [HS.out, HQ.out]; rw [strCells_u8] at hown'; simpa [u8s, ByteArray.size] using hown')
        have HB3 : Hid (Below w.heap.size w w1) := Lib.hid (HBL.out.grown hgrow hwr (fun k hk => (HO.out.lt k hk).1))
        clear hown' hgrow
        go_wp2_with fail
        go_roundw
        case rel => exact ⟨k + 1, by go_num, by omega, HO2.out, HB3.out⟩
        case measure => simp [intOf]; omega
      have k3 : ((c : Int) == 10) = false := by simp; omega
      by_cases c4 : c = 9
      · subst c4
        have HQ : Hid (quoteB 9 = [92, 116]) := Lib.hid rfl
        go_wp2_with (first
          | (at_builtin; refine Lib.wpList_append_own_string _ rfl _ _ 32 9 rfl w.heap.size 5 i0 Try.underlying32 Try.underlying9 hi0 hz0 hz1 hz2 _ _ _ rfl HO.out ⟨#[92, 116]⟩ rfl ?c3 ?c4 ?c5 ?_))
        case c3 => simp [ByteArray.size]; unfold maxLen; omega
        case c4 => simp [ByteArray.size]; omega
        case c5 => omega
        intro v' w1 hown' hgrow _
        have HO2 : Hid (w1.ownsRow w.heap.size 5 1 v' (quoteL s (k + 1)).length (u8s (quoteL s (k + 1)))) := Lib.hid (by rw [HS.out, HQ.out]; rw [strCells_u8] at hown'; simpa [u8s, ByteArray.size] using hown')
        have HB3 : Hid (Below w.heap.size w w1) := Lib.hid (HBL.out.grown hgrow hwr (fun k hk => (HO.out.lt k hk).1))
        clear hown' hgrow
        go_wp2_with fail
        go_roundw
        case rel => exact ⟨k + 1, by go_num, by omega, HO2.out, HB3.out⟩
        case measure => simp [intOf]; omega
      have k4 : ((c : Int) == 9) = false := by simp; omega
      by_cases c5 : 32 ≤ c
      · by_cases c6 : c ≤ 126
        · have HQ : Hid (quoteB c = [c]) := Lib.hid (by unfold quoteB; rw [if_neg (by omega), if_neg c3, if_neg c4, if_pos ⟨c5, c6⟩])
          go_wp2_with (first
            | (at_builtin; refine wpList_append_own _ rfl _ _ 32 rfl w.heap.size 5 i0 (.int .u8 0) 1 1 Try.underlying32 hi0 hz0 hz1 hz2 rfl (by decide) _ _ _ rfl (HO.out.alloc _) ⟨wr.heap.size, 0, none⟩ 1 1 [.int .u8 (c : Int)] rfl rfl newsN ?c2 ?c3 ?c4 ?c5 ?_))
          case c2 => intro u hu; simp at hu; (try rcases hu with rfl | rfl); all_goals (first | rfl | (subst hu; rfl))
          case c3 => unfold maxLen; omega
          case c4 => omega
          case c5 => simp; omega
          intro v' w1 hown' hgrow _
          have HO2 : Hid (w1.ownsRow w.heap.size 5 1 v' (quoteL s (k + 1)).length (u8s (quoteL s (k + 1)))) := Lib.hid (by rw [HS.out, HQ.out]; simpa [u8s] using hown')
          have HB3 : Hid (Below w.heap.size w w1) := Lib.hid (append8_below HBL.out HO.out hwr hgrow)
          clear hown' hgrow
          go_wp2_with fail
          go_roundw
          case rel => exact ⟨k + 1, by go_num, by omega, HO2.out, HB3.out⟩
          case measure => simp [intOf]; omega
        · have HQ : Hid (quoteB c = [92, 120, hexd (c / 16), hexd (c % 16)]) := Lib.hid (by unfold quoteB; rw [if_neg (by omega), if_neg c3, if_neg c4, if_neg (by omega)])
          obtain ⟨d1, hd1⟩ : ∃ d, c / 16 = d := ⟨_, rfl⟩
          obtain ⟨d2, hd2⟩ : ∃ d, c % 16 = d := ⟨_, rfl⟩
          have l1 : d1 < 16 := by omega
          have l2 : d2 < 16 := by omega
          have m1 : (c : Int) / 16 = (d1 : Int) := by omega
          have m2 : bits BinOp.and IntKind.u8 (c : Int) 15 = (d2 : Int) := by rw [← hd2]; exact and15_all ⟨c, hc⟩
          have i1 : (d1 : Int) < 16 := by omega
          have i2 : (d2 : Int) < 16 := by omega
          have x1 := hex_at d1 l1
          have x2 := hex_at d2 l2
          rw [hd1, hd2] at HQ
          clear hd1 hd2
          go_wp2_with fail
          go_region_law (refine step_append_lies _ (by rfl) _ _ _ (by rfl) w.heap.size 5 i0 _ 1 1 Try.underlying32 hi0 hz0 hz1 hz2 rfl (by decide) _ _ _ (by rfl) ((row_kept' HO.out).alloc _) ⟨wr.heap.size, 0, none⟩ 4 4 [.int .u8 92, .int .u8 120, .int .u8 (hexd d1 : Int), .int .u8 (hexd d2 : Int)] (by rfl) (by rfl) (newsN (w := wr.drew)) (by simp [Value.oneCell']) (by omega) (by unfold maxLen; omega) (by omega) (by simp; omega) (wr.heap.size + 1) (by simp) ?_; intro gg cap w1 hown' hgrow hat hlt3)
          all_goals
            have HO2 : Hid (w1.ownsRow w.heap.size 5 1 (.slice (some ⟨gg, 0, none⟩) ((quoteL s k).length + 4) cap) (quoteL s (k + 1)).length (u8s (quoteL s (k + 1)))) := Lib.hid (by rw [HS.out, HQ.out]; simpa [u8s] using hown')
            have HB3 : Hid (Below w.heap.size w w1) := Lib.hid (append8_below HBL.out.drew (row_kept' HO.out) hwr hgrow)
            clear hown' hgrow hat x1 x2 m1 m2
            go_wp2_with fail
            go_roundw
            case rel => exact ⟨k + 1, by go_num, by omega, HO2.out, HB3.out⟩
            case measure => simp [intOf]; omega
      · have HQ : Hid (quoteB c = [92, 120, hexd (c / 16), hexd (c % 16)]) := Lib.hid (by unfold quoteB; rw [if_neg (by omega), if_neg c3, if_neg c4, if_neg (by omega)])
        obtain ⟨d1, hd1⟩ : ∃ d, c / 16 = d := ⟨_, rfl⟩
        obtain ⟨d2, hd2⟩ : ∃ d, c % 16 = d := ⟨_, rfl⟩
        have l1 : d1 < 16 := by omega
        have l2 : d2 < 16 := by omega
        have m1 : (c : Int) / 16 = (d1 : Int) := by omega
        have m2 : bits BinOp.and IntKind.u8 (c : Int) 15 = (d2 : Int) := by rw [← hd2]; exact and15_all ⟨c, hc⟩
        have i1 : (d1 : Int) < 16 := by omega
        have i2 : (d2 : Int) < 16 := by omega
        have x1 := hex_at d1 l1
        have x2 := hex_at d2 l2
        rw [hd1, hd2] at HQ
        clear hd1 hd2
        go_wp2_with fail
        go_region_law (refine step_append_lies _ (by rfl) _ _ _ (by rfl) w.heap.size 5 i0 _ 1 1 Try.underlying32 hi0 hz0 hz1 hz2 rfl (by decide) _ _ _ (by rfl) ((row_kept' HO.out).alloc _) ⟨wr.heap.size, 0, none⟩ 4 4 [.int .u8 92, .int .u8 120, .int .u8 (hexd d1 : Int), .int .u8 (hexd d2 : Int)] (by rfl) (by rfl) (newsN (w := wr.drew)) (by simp [Value.oneCell']) (by omega) (by unfold maxLen; omega) (by omega) (by simp; omega) (wr.heap.size + 1) (by simp) ?_; intro gg cap w1 hown' hgrow hat hlt3)
        all_goals
          have HO2 : Hid (w1.ownsRow w.heap.size 5 1 (.slice (some ⟨gg, 0, none⟩) ((quoteL s k).length + 4) cap) (quoteL s (k + 1)).length (u8s (quoteL s (k + 1)))) := Lib.hid (by rw [HS.out, HQ.out]; simpa [u8s] using hown')
          have HB3 : Hid (Below w.heap.size w w1) := Lib.hid (append8_below HBL.out.drew (row_kept' HO.out) hwr hgrow)
          clear hown' hgrow hat x1 x2 m1 m2
          go_wp2_with fail
          go_roundw
          case rel => exact ⟨k + 1, by go_num, by omega, HO2.out, HB3.out⟩
          case measure => simp [intOf]; omega
    · obtain rfl : k = s.size := by omega
      go_wp2_with (first
        | (at_builtin; refine wpList_append_own _ rfl _ _ 32 rfl w.heap.size 5 i0 (.int .u8 0) 1 1 Try.underlying32 hi0 hz0 hz1 hz2 rfl (by decide) _ _ _ rfl (HO.out.alloc _) ⟨wr.heap.size, 0, none⟩ 1 1 [.int .u8 34] rfl rfl newsN ?c2 ?c3 ?c4 ?c5 ?_))
      case c2 => intro u hu; simp at hu; subst hu; rfl
      case c3 => unfold maxLen; omega
      case c4 => omega
      case c5 => simp; omega
      intro v' w1 hown' hgrow _
      have HO2 : Hid (w1.ownsRow w.heap.size 5 1 v' (quoteL s s.size ++ [34]).length (u8s (quoteL s s.size ++ [34]))) := Lib.hid (by simpa [u8s] using hown')
      have HB3 : Hid (Below w.heap.size w w1) := Lib.hid (append8_below HBL.out HO.out hwr hgrow)
      clear hown' hgrow
      obtain ⟨a, cc, rfl⟩ := row_slice HO2.out
      have hcv := conv_at (row_bsl HO2.out (by intro x hx; rcases List.mem_append.1 hx with h | h; exact quoteL_lt _ _ x h; simp at h; omega)) cc
      rw [bytesOf_size] at hcv
      simp only [List.length_append, List.length_cons, List.length_nil, Nat.zero_add] at hcv
      go_wp2_with fail
      go_ret
      exact ⟨rfl, HB3.out⟩
end Go.Proofs.Ytppnjliamfnlkaa
