import Derived.Test.YtppnjliamfnlkaaLtD
namespace Go.Proofs.Ytppnjliamfnlkaa
open Go.RowKit
set_option linter.unusedSimpArgs false
set_option linter.unusedVariables false
set_option linter.unusedSectionVars false

theorem news1 {w : World} {v : Value} {t : TypeId} : ∀ j u, ([v] : List Value)[j]? = some u → (w.alloc (.cells #[v] t)).cell? ((⟨w.heap.size, 0, none⟩ : Addr).add j) = some u := by
  intro j u hj
  match j, hj with
  | 0, hj =>
    simp at hj; subst hj
    simp [Addr.add]

theorem append8_below {B : Nat} {w w1 w2 : World} {v : Value} {n : Nat} {xs : List Value} {o : Obj} (h : Below B w w1) (hown : w1.ownsRow B 5 1 v n xs) (hB : B ≤ w1.heap.size) (hg : (w1.alloc o).grownBy w2 v.ownBlock) : Below B w w2 := by
  refine (h.alloc (by have := h.size; omega) o).grown hg (by simp; omega) ?_
  intro k hk
  exact (hown.lt k hk).1

set_option maxHeartbeats 3200000 in
theorem times_any (B : Nat) (v : Value) (base more : Nat) (l : List Nat) (w : World) (hv : w.ownsRow B 5 1 v l.length (u8s l)) (hl : ∀ x ∈ l, x < 10) (hb2 : 2 ≤ base) (hb : base ≤ 16) (hm : more < base) (hn : l.length ≤ 100000) (hB : B ≤ w.heap.size) :
    Calls Try.prog 29 #[v, .int .u32 base, .int .u32 more] w fun e w' => ∃ v', e = .returned v' ∧ w'.ownsRow B 5 1 v' (timesF base l more).length (u8s (timesF base l more)) ∧ Below B w w' := by
  obtain ⟨i0, hi0, hz0, hz1, hz2⟩ := info_parts info8
  obtain ⟨a, c, rfl⟩ := row_slice hv
  have HV := Lib.hid hv
  clear hv
  go_enter Try.func29, Try.ntmps29
  go_wp2_with fail
  go_loopw [2, 11] (fun mv iv wr => ∃ (done todo : List Nat) (q : Nat), mv = .int .u32 q ∧ iv = .int .i64 done.length ∧ mulF base l more = (done ++ (mulF base todo q).1, (mulF base todo q).2) ∧ done.length + todo.length = l.length ∧ q < base ∧
      (∀ x ∈ todo, x < 10) ∧ wr.ownsRow B 5 1 (.slice a l.length c) l.length (u8s (done ++ todo)) ∧ Below B w wr) (fun _ iv _ => l.length - (intOf iv).toNat)
  case atStart => exact ⟨[], l, more, rfl, rfl, rfl, by simp, hm, hl, HV.out, Below.refl _ _⟩
  case round =>
    obtain ⟨done, todo, q, rfl, rfl, he, hlen, hq, htodo, hown, hbl⟩ := hrel
    have HE := Lib.hid he
    have HO := Lib.hid hown
    have HBL := Lib.hid hbl
    clear he hown hbl hl
    cases todo with
    | cons f t =>
      simp only [List.length_cons] at hlen
      have hlt : done.length < l.length := by omega
      obtain ⟨g, cap, hs⟩ := row_some HO.out (by simp [u8s])
      simp only [Value.slice.injEq, true_and] at hs
      obtain ⟨rfl, rfl⟩ := hs
      have hf : f < 10 := htodo f (by simp)
      have e0 : wr.cell? ⟨g, done.length, none⟩ = some (.int .u8 (f : Int)) := (HO.out.cellAt done.length (by omega)).trans (u8s_at done t f)
      have e1 : wr.frozen? ⟨g, done.length, none⟩ = false := HO.out.frozenAt _
      obtain ⟨m, hm1⟩ : ∃ m, f * base = m := ⟨_, rfl⟩
      have hm2 : (f : Int) * (base : Int) = (m : Int) := by rw [← hm1, Int.natCast_mul]
      have hm3 : m ≤ 144 := by
        have h1 := Nat.mul_le_mul (show f ≤ 9 by omega) hb
        omega
      have hcl := carry_lt hq hf
      rw [hm1] at hcl
      obtain ⟨p, hp⟩ : ∃ p, q + m = p := ⟨_, rfl⟩
      have hp2 : (q : Int) + (m : Int) = (p : Int) := by omega
      have hp3 : p ≤ 200 := by omega
      have ht1 : (p : Int).tmod 10 = ((p % 10 : Nat) : Int) := by rw [Int.tmod_eq_emod_of_nonneg (by omega)]; omega
      have ht2 : (p : Int).tdiv 10 = ((p / 10 : Nat) : Int) := by rw [Int.tdiv_eq_ediv_of_nonneg (by omega)]; omega
      rw [hp] at hcl
      have HS : Hid (mulF base l more = ((done ++ [p % 10]) ++ (mulF base t (p / 10)).1, (mulF base t (p / 10)).2)) := Lib.hid (by
        rw [HE.out]; simp only [mulF, hm1, hp]; simp)
      have HST := HO.out.stored done.length (.int .u8 ((p % 10 : Nat) : Int))
      rw [u8s_mid] at HST
      have HST := Lib.hid HST
      obtain ⟨r, hr⟩ : ∃ r, p % 10 = r := ⟨_, rfl⟩
      have hr2 : r < 10 := by omega
      obtain ⟨d, hd⟩ : ∃ d, p / 10 = d := ⟨_, rfl⟩
      rw [hr] at ht1 HS HST
      rw [hd] at ht2 HS hcl
      clear hm1 hp
      go_wp2_with fail
      go_roundw
      case rel =>
        refine ⟨done ++ [r], t, d, rfl, by simp, HS.out, by simp; omega, hcl, fun x hx => htodo x (by simp [hx]), HST.out.1, ?_⟩
        refine HBL.out.grown HST.out.2 (by have := HBL.out.size; omega) ?_
        intro k hk
        simp only [Option.some.injEq] at hk
        exact hk ▸ (HO.out.lt _ rfl).1
      case measure => simp [intOf]; omega
    | nil =>
      simp only [List.length_nil, Nat.add_zero] at hlen
      have HQ : Hid (mulF base l more = (done, q)) := Lib.hid (by rw [HE.out]; simp [mulF])
      rw [List.append_nil] at HO
      go_wp2_with fail
      go_loopw [0, 2] (fun v qv wr2 => ∃ (l' : List Nat) (q' n : Nat), qv = .int .u32 q' ∧ timesF base l more = l' ++ restF n q' ∧ q' < 10 ^ n ∧ l'.length + n = l.length + 3 ∧ q' < 16 ∧
        wr2.ownsRow B 5 1 v l'.length (u8s l') ∧ Below B w wr2) (fun _ qv _ => (intOf qv).toNat)
      case atStart => exact ⟨done, q, 3, rfl, by simp [timesF, HQ.out], by omega, by omega, by omega, by rw [hlen]; exact HO.out, HBL.out⟩
      case round =>
        obtain ⟨l', q', n, rfl, ht, hqn, hln, hq16, hown, hbl⟩ := hrel
        have HT := Lib.hid ht
        have HB2 := Lib.hid hbl
        clear ht hbl HQ HE hq HO HBL hlen htodo
        by_cases hq0 : q' = 0
        · subst hq0
          have HR : Hid (timesF base l more = l') := Lib.hid (by rw [HT.out]; cases n <;> simp [restF])
          go_wp2_with fail
          go_ret
          exact ⟨_, rfl, by rw [HR.out]; exact hown, HB2.out⟩
        · obtain ⟨n, rfl⟩ : ∃ m, n = m + 1 := ⟨n - 1, by
            cases n with
            | zero => simp at hqn; omega
            | succ n => simp⟩
          have HR : Hid (timesF base l more = (l' ++ [q' % 10]) ++ restF n (q' / 10)) := Lib.hid (by rw [HT.out, restF, if_neg hq0]; simp)
          have ht1 : (q' : Int).tmod 10 = ((q' % 10 : Nat) : Int) := by rw [Int.tmod_eq_emod_of_nonneg (by omega)]; omega
          have ht2 : (q' : Int).tdiv 10 = ((q' / 10 : Nat) : Int) := by rw [Int.tdiv_eq_ediv_of_nonneg (by omega)]; omega
          have hlt10 : q' / 10 < 10 ^ n := by rw [Nat.pow_succ] at hqn; omega
          clear hqn
          obtain ⟨r, hr⟩ : ∃ r, q' % 10 = r := ⟨_, rfl⟩
          have hr2 : r < 10 := by omega
          obtain ⟨d, hd⟩ : ∃ d, q' / 10 = d := ⟨_, rfl⟩
          have hdq : d < q' := by omega
          rw [hr] at ht1 HR
          rw [hd] at ht2 HR hlt10
          clear hd hr
          have HO := Lib.hid hown
          have HLT := Lib.hid hlt10
          clear hown hlt10
          go_wp2_with (first
            | (at_builtin; refine wpList_append_own _ rfl _ _ 32 rfl B 5 i0 (.int .u8 0) 1 1 Try.underlying32 hi0 hz0 hz1 hz2 rfl (by decide) _ _ _ rfl (HO.out.alloc _) ⟨wr.heap.size, 0, none⟩ 1 1 [.int .u8 (r : Int)] rfl rfl news1 ?c2 ?c3 ?c4 ?c5 ?_))
          case c2 => intro u hu; simp at hu; subst hu; rfl
          case c3 => unfold maxLen; omega
          case c4 => omega
          case c5 => have := HB2.out.size; simp; omega
          intro v' w1 hown' hgrow _
          have HO2 : Hid (w1.ownsRow B 5 1 v' (l' ++ [r]).length (u8s (l' ++ [r]))) := Lib.hid (by simpa [u8s] using hown')
          have HB3 : Hid (Below B w w1) := Lib.hid (append8_below HB2.out HO.out (by have := HB2.out.size; omega) hgrow)
          clear hown' hgrow
          go_wp2_with fail
          go_roundw
          case rel => exact ⟨l' ++ [r], d, n, rfl, HR.out, HLT.out, by simp; omega, by omega, HO2.out, HB3.out⟩
          case measure => simp [intOf]; omega
end Go.Proofs.Ytppnjliamfnlkaa
