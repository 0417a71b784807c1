import Derived.Test.YtiifakdpacicjaaZ
namespace Go.Proofs.Ytiifakdpacicjaa
open Go.RowKit

theorem nl_own {w : World} : BSl (w.alloc (.cells #[.int .u8 10] 5)) (some ⟨w.heap.size, 0, none⟩) nl := by
  refine .inr ⟨_, _, rfl, fun i hi => ?_, by simp⟩
  have : i = 0 := by have : nl.size = 1 := rfl; omega
  subst this
  rw [cell_of (alloc_at rfl _)]; rfl

set_option maxHeartbeats 1600000 in
theorem placeJoins_walk (p q : Option Addr) (cp cq : Nat) (a b : ByteArray) (n : Nat) (hn : n < 65536) (w : World) (ha : BSl w p a) (hcp : p = none → cp = 0) (hb : BSl w q b) (hcq : q = none → cq = 0) :
    Calls Try.prog 7 #[.slice p a.size cp, .slice q b.size cq, .int .u16 n] w fun e w' => e = .returned (.bool true) ∧ Below w.heap.size w w' := by
  have HA := Lib.hid ha; clear ha
  have HB := Lib.hid hb; clear hb
  have HCP := Lib.hid hcp; clear hcp
  have HCQ := Lib.hid hcq; clear hcq
  by_cases h1 : 300 < a.size
  · have h1' : (300 : Int) < a.size := by omega
    clear h1
    go_enter Try.func7, Try.ntmps7
    go_wp2_with fail
    go_ret
    exact ⟨rfl, Below.refl _ _⟩
  have h1' : ¬ (300 : Int) < a.size := by omega
  by_cases h2 : 300 < b.size
  · have h2' : (300 : Int) < b.size := by omega
    clear h1 h2
    go_enter Try.func7, Try.ntmps7
    go_wp2_with fail
    go_ret
    exact ⟨rfl, Below.refl _ _⟩
  have h2' : ¬ (300 : Int) < b.size := by omega
  have hn0 : (0 : Int) ≤ n := by omega
  have hn1 : (n : Int) ≤ 65535 := by omega
  go_enter Try.func7, Try.ntmps7
  go_wp2_with (first
    | (at_builtin; refine wp_append_bytes rfl (.tmp 19) (.tmp 20) rfl w.heap.size _ ByteArray.empty rfl (OwnB.made (Nat.le_refl _)) p cp a rfl (HA.out.alloc _) HCP.out (by simp; omega) (by simp) ?_; intro v1 w1 hv1 hg1; have HV1 := Lib.hid hv1; have HB1 : Hid (Below w.heap.size w w1) := grown_below ((Below.refl _ _).alloc (Nat.le_refl _) _) rfl hg1 (Nat.le_refl _); clear hv1 hg1)
    | (at_builtin; refine wp_append_bytes rfl (.tmp 21) (.tmp 22) rfl w.heap.size _ (ByteArray.empty ++ a) rfl (HV1.out.alloc _) _ 1 nl rfl nl_own (fun h => by cases h) (by rw [ByteArray.size_append, nl_size]; simp; omega) (by have := HB1.out.size; simp; omega) ?_; intro v2 w2 hv2 hg2; have HV2 := Lib.hid hv2; have HB2 : Hid (Below w.heap.size w w2) := (HB1.out.alloc HB1.out.size _).grown hg2 (by have := HB1.out.size; simp; omega) (fun k hk => (HV1.out.lt k hk).1); clear hv2 hg2)
    | (at_builtin; refine wp_append_bytes rfl (.tmp 23) (.tmp 24) rfl w.heap.size _ (ByteArray.empty ++ a ++ nl) rfl HV2.out q cq b rfl (HB.out.below HB2.out) HCQ.out (by rw [ByteArray.size_append, ByteArray.size_append, nl_size]; simp; omega) HB2.out.size ?_; intro v3 w3 hv3 hg3; have HV3 := Lib.hid hv3; have HB3 : Hid (Below w.heap.size w w3) := HB2.out.grown hg3 HB2.out.size (fun k hk => (HV2.out.lt k hk).1); clear hv3 hg3; refine Stop.off ?_))
  refine Stop.on ?_
  obtain ⟨r, c, hv, hr, _, _⟩ := HV3.out.bsl
  rw [ByteArray.empty_append] at hv hr
  subst hv
  have HR := Lib.hid hr
  clear hr
  have hsz : (a ++ nl ++ b).size = a.size + 1 + b.size := by rw [ByteArray.size_append, ByteArray.size_append, nl_size]
  have hL := linesN_join a b
  have hP := placeR_join a b
  generalize a ++ nl ++ b = t at HR hsz hL hP ⊢
  have hsz' : t.size ≤ 4611686018427387904 := by omega
  have HSZ := Lib.hid hsz
  have HL := Lib.hid hL
  have HP := Lib.hid hP
  clear hsz hL hP
  go_wp2_with fail
  generalize hX : (n : Int) % ((b.size : Int) + 1) = X
  have hx0 : 0 ≤ X := by rw [← hX]; exact Int.emod_nonneg _ (by omega)
  have hx1 : X ≤ b.size := by have := Int.emod_lt_of_pos (n : Int) (show (0 : Int) < (b.size : Int) + 1 by omega); omega
  clear hX
  obtain ⟨k, rfl⟩ := Int.eq_ofNat_of_zero_le hx0
  have hk : k ≤ b.size := by omega
  clear hx0 hx1
  refine (of_p q cq b k w3 (HB.out.below HB3.out) (by omega) hk).mono ?_
  rintro e w4 ⟨rfl, hb4⟩
  have HR4 : Hid (BSl w4 r t) := HR.out.below hb4
  have HB4 : Hid (Below w.heap.size w w4) := HB3.out.trans (hb4.mono HB3.out.size)
  clear hb4
  go_wp2_with fail
  rw [show (a.size : Int) + 1 + (k : Int) = ((a.size + 1 + k : Nat) : Int) by omega]
  refine (of_p r c t (a.size + 1 + k) w4 HR4.out hsz' (by have := HSZ.out; omega)).mono ?_
  rintro e w5 ⟨rfl, hb5⟩
  have HR5 : Hid (BSl w5 r t) := HR4.out.below hb5
  have HB5 : Hid (Below w.heap.size w w5) := HB4.out.trans (hb5.mono HB4.out.size)
  clear hb5
  rw [HP.out k hk]
  have p1 := placeR_lines b hk
  have p2 := placeR_lines a (Nat.le_refl _)
  have p3 : linesN b ≤ b.size + 1 := by have := tens_le b b.size; unfold linesN; omega
  have p4 : linesN a ≤ a.size + 1 := by have := tens_le a a.size; unfold linesN; omega
  have hA := fun (w' : World) (h : BSl w' p a) => of_p p cp a a.size w' h (by omega) (Nat.le_refl _)
  generalize placeR b k = P at p1 ⊢
  generalize placeR a a.size = R at p2 hA ⊢
  obtain ⟨pl, pc⟩ := P
  obtain ⟨la, ca⟩ := R
  simp only at p1 p2 hA
  have hLA := fun (w' : World) (h : BSl w' p a) => lines_p p cp a w' h (by omega)
  have hLB := fun (w' : World) (h : BSl w' q b) => lines_p q cq b w' h (by omega)
  have hLT := fun (w' : World) (h : BSl w' r t) => lines_p r c t w' h hsz'
  rw [HL.out] at hLT
  generalize linesN a = na at p2 p4 hLA hLT
  generalize linesN b = nb at p1 p3 hLB hLT
  have GA := Lib.hid hA
  have GLA := Lib.hid hLA
  have GLB := Lib.hid hLB
  rw [show ((na + nb : Nat) : Int) = (na : Int) + (nb : Int) by omega] at hLT
  have GLT := Lib.hid hLT
  clear hA hLA hLB hLT
  go_wp2_with fail
  have hb6 : Below w5.heap.size w5 ((w5.alloc (.cells #[.int .i64 pl, .int .i64 pc] 29)).alloc (.cells #[.int .i64 (pl + la), .int .i64 pc] 29)) :=
    ((Below.refl _ _).alloc (Nat.le_refl _) _).alloc (by simp) _
  obtain ⟨cs, hcs⟩ : ∃ cs : List (Nat × Nat × Value), cs = [(w5.heap.size, 0, .int .i64 pl), (w5.heap.size, 1, .int .i64 pc), (w5.heap.size + 1, 0, .int .i64 (pl + la)), (w5.heap.size + 1, 1, .int .i64 pc)] := ⟨_, rfl⟩
  have c0 : ∀ i : Wld (InvC w5 cs), i.w.cell? ⟨w5.heap.size, 0, none⟩ = some (.int .i64 pl) := fun i => InvC.cell i (by rw [hcs]; simp)
  have c1 : ∀ i : Wld (InvC w5 cs), i.w.cell? ⟨w5.heap.size, 1, none⟩ = some (.int .i64 pc) := fun i => InvC.cell i (by rw [hcs]; simp)
  have c2 : ∀ i : Wld (InvC w5 cs), i.w.cell? ⟨w5.heap.size + 1, 0, none⟩ = some (.int .i64 (pl + la)) := fun i => InvC.cell i (by rw [hcs]; simp)
  have c3 : ∀ i : Wld (InvC w5 cs), i.w.cell? ⟨w5.heap.size + 1, 1, none⟩ = some (.int .i64 pc) := fun i => InvC.cell i (by rw [hcs]; simp)
  have hI0 : Hid (InvC w5 cs ((w5.alloc (.cells #[.int .i64 pl, .int .i64 pc] 29)).alloc (.cells #[.int .i64 (pl + la), .int .i64 pc] 29)).drew) := by
    refine InvC.start hb6 ?_
    rw [hcs]; simp [go_sem]
  clear hcs hb6
  have hne2 : Nonempty (Wld (InvC w5 cs)) := ⟨⟨_, hI0.out⟩⟩
  have hf := fun w => field0 (la : Int) (ca : Int) w
  refine wp_region_inv (InvC w5 cs) (by kernel_rfl) (by kernel_rfl) hI0.out ?_
  repeat (go_big_quiet_step (first
    | (go_at_call 16; exact Calls.inv (GA.out _ (bsl_inv (HA.out.below HB5.out) _)))
    | (go_at_call 12; exact Calls.inv (GLT.out _ (bsl_inv HR5.out _)))
    | (go_at_call 12; exact Calls.inv (GLA.out _ (bsl_inv (HA.out.below HB5.out) _)))
    | (go_at_call 12; exact Calls.inv (GLB.out _ (bsl_inv (HB.out.below HB5.out) _)))
    | (go_at_call 14; exact Calls.inv (awake_any _))))
  refine wpQuiet_nil ?_
  intro w6 hw6
  have HI6 : Hid (InvC w5 cs w6) := by obtain ⟨i, rfl⟩ := hw6; exact i.ok
  clear hw6 c0 c1 c2 c3 hf
  go_wp2_with fail
  go_ret
  exact ⟨rfl, HB5.out.trans (HI6.out.1.mono HB5.out.size)⟩

end Go.Proofs.Ytiifakdpacicjaa
