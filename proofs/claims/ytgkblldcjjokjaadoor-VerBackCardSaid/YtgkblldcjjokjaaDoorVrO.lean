import Derived.Test.YtgkblldcjjokjaaDoorVrN
import Derived.Test.YtgkblldcjjokjaaDoorPlP
import Derived.Laws.IdiomStrings
import Derived.Laws.AppendOwn
namespace Go.Proofs.YtgkblldcjjokjaaDoor
open Go.RowKit Go.Shelf
set_option linter.unusedSimpArgs false
set_option linter.unusedVariables false
set_option linter.unusedSectionVars false

/-! VerChains. -/
theorem bytesRow_v (s : ByteArray) (w : World) (cap : Nat) (h : s.size ≤ cap) (fr : Nat × Nat) : BSl (w.alloc (.cells (bytesRow s cap) 5 fr)) (some ⟨w.heap.size, 0, none⟩) s := by
  refine .inr ⟨w.heap.size, 0, rfl, ?_, by simp⟩
  intro i hi
  have hb : (w.alloc (.cells (bytesRow s cap) 5 fr)).heap[w.heap.size]? = some (.cells (bytesRow s cap) 5 fr) := heap_alloc_new w _
  rw [Nat.zero_add, cell_of hb, bytesRow_at s cap i hi]
  simp [byteN, List.getD_eq_getElem?_getD, List.getElem?_eq_getElem (show i < s.data.toList.length by simpa using hi)]
set_option maxRecDepth 100000 in
set_option maxHeartbeats 6400000 in
theorem chains_walk (p : Option Addr) (cap : Nat) (s : ByteArray) (n : Nat) (w : World) (hb : BSl w p s) (hE : EnvV w) (hn : n < 256) :
    Calls Tryd.prog 9 #[.slice p s.size cap, .int .u8 n] w fun e w' => e = .returned (.bool true) ∧ Below w.heap.size w w' := by
  have h8 := hE.2.2.2
  by_cases hl : 500 < s.size
  · have hd : decide (500 < (s.size : Int)) = true := by simp; omega
    go_enter Tryd.func9, Tryd.ntmps9
    go_wp2_with fail
    go_ret
    exact ⟨rfl, Below.refl _ _⟩
  have hd : decide (500 < (s.size : Int)) = false := by simp; omega
  obtain ⟨k, hk⟩ : ∃ k, k = n % 10 := ⟨_, rfl⟩
  have hk10 : k < 10 := by omega
  obtain ⟨c1, c2, c3⟩ := chain_read s k hk10 (by omega)
  obtain ⟨x1, x2, x3⟩ := alone_read s (by omega)
  have hR1 := fun w1 (hb1 : Below w.heap.size w w1) => read_v p cap s w1 (hb.below hb1) (hE.below hb1 h8) (by omega)
  have HR2 : Hid (∀ (q : Option Addr) (c : Nat) (w1 : World) (u : ByteArray), u = s ++ ⟨#[10, 116, 111, 111, 108, 99, 104, 97, 105, 110, 32]⟩ ++ (⟨#[103, 111, 49, 46]⟩ ++ ⟨#[UInt8.ofNat (48 + k)]⟩) → Below w.heap.size w w1 → BSl w1 q u → Calls Tryd.prog 17 #[.slice q u.size c] w1 fun e w' => e = .returned (.tuple #[.agg #[.string (readP s), .int .i64 (readI s)], .int .i64 (readE s)]) ∧ Below w1.heap.size w1 w') := Lib.hid fun q c w1 u hu hb1 hbq => by
    subst hu
    have h := read_v q c _ w1 hbq (hE.below hb1 h8) (by rw [ByteArray.size_append, ByteArray.size_append, ByteArray.size_append]; have h1 : (⟨#[10, 116, 111, 111, 108, 99, 104, 97, 105, 110, 32]⟩ : ByteArray).size = 11 := rfl; have h2 : (⟨#[103, 111, 49, 46]⟩ : ByteArray).size = 4 := rfl; have h3 : (⟨#[UInt8.ofNat (48 + k)]⟩ : ByteArray).size = 1 := rfl; omega)
    rw [c1, c2, c3] at h
    exact h
  have HR3 : Hid (∀ (q : Option Addr) (c : Nat) (w1 : World) (u : ByteArray), u = s ++ ⟨#[10, 116, 111, 111, 108, 99, 104, 97, 105, 110]⟩ → Below w.heap.size w w1 → BSl w1 q u → Calls Tryd.prog 17 #[.slice q u.size c] w1 fun e w' => e = .returned (.tuple #[.agg #[.string ⟨#[]⟩, .int .i64 0], .int .i64 7]) ∧ Below w1.heap.size w1 w') := Lib.hid fun q c w1 u hu hb1 hbq => by
    subst hu
    have h := read_v q c _ w1 hbq (hE.below hb1 h8) (by rw [ByteArray.size_append]; have h1 : (⟨#[10, 116, 111, 111, 108, 99, 104, 97, 105, 110]⟩ : ByteArray).size = 10 := rfl; omega)
    rw [x1, x2, x3] at h
    exact h
  have hW := fun w1 (hb : Below w.heap.size w w1) => awake_v w1 (hE.below hb h8)
  have HB0 : Hid (BSl w p s) := Lib.hid hb
  clear c1 c2 c3 x1 x2 x3 hb hE
  generalize readP s = rp at *
  generalize readI s = ri at *
  generalize readE s = re at *
  go_enter Tryd.func9, Tryd.ntmps9
  go_wp2_with (go_at_call 17; with_reducible refine Calls.mono (hR1 _ (Below.refl _ _)) ?_; rintro e w2 ⟨rfl, hb2⟩; have HB2 := Lib.hid hb2; clear hb2)
  obtain ⟨wA, hwA⟩ : ∃ wA, wA = w2.alloc (Obj.cells #[Value.string rp, Value.int IntKind.i64 ri] 33) := ⟨_, rfl⟩
  obtain ⟨wB, hwB⟩ : ∃ wB, wB = wA.alloc (Obj.cells #[Value.int IntKind.u8 (48 + (n : Int) % 10)] 5) := ⟨_, rfl⟩
  obtain ⟨dg, hdg⟩ : ∃ dg, dg = (⟨#[UInt8.ofNat (48 + k)]⟩ : ByteArray) := ⟨_, rfl⟩
  have hBA : Below w.heap.size w wA := by rw [hwA]; exact HB2.out.alloc HB2.out.size _
  have hBB : Below w.heap.size w wB := by rw [hwB]; exact hBA.alloc hBA.size _
  have hzA : wA.heap.size = w2.heap.size + 1 := by rw [hwA]; simp
  have hzB : wB.heap.size = w2.heap.size + 2 := by rw [hwB]; simp [hzA]
  have hdb : BSl wB (some ⟨w2.heap.size + 1, 0, none⟩) dg := by
    refine .inr ⟨_, _, rfl, fun i hi => ?_, by omega⟩
    have hi0 : i = 0 := by rw [hdg] at hi; have h3 : (⟨#[UInt8.ofNat (48 + k)]⟩ : ByteArray).size = 1 := rfl; omega
    have hh : wB.heap[w2.heap.size + 1]? = some (Obj.cells #[Value.int IntKind.u8 (48 + (n : Int) % 10)] 5) := by rw [hwB]; exact alloc_at (by omega) _
    rw [hi0, cell_of hh, hdg]
    show some (Value.int IntKind.u8 (48 + (n : Int) % 10)) = some (Value.int IntKind.u8 ((byteN ⟨#[UInt8.ofNat (48 + k)]⟩ 0 : Nat) : Int))
    have hq : byteN ⟨#[UInt8.ofNat (48 + k)]⟩ 0 = 48 + k := by
      show (UInt8.ofNat (48 + k)).toNat = _
      rw [UInt8.toNat_ofNat']
      omega
    rw [hq]
    congr 2
    omega
  have hcd := conv_at hdb 1
  rw [← hdg] at HR2
  have hz1 : dg.size = 1 := by rw [hdg]; rfl
  rw [hz1] at hcd
  have hcs := conv_at (HB0.out.below hBB) cap
  rw [← hwA, ← hwB]
  obtain ⟨wd, hwd⟩ : ∃ wd, (⟨#[103, 111, 49, 46]⟩ : ByteArray) ++ dg = wd := ⟨_, rfl⟩
  have hwz : wd.size = 5 := by rw [← hwd, ByteArray.size_append, hz1]; rfl
  obtain ⟨u, hu⟩ : ∃ u, s ++ ⟨#[10, 116, 111, 111, 108, 99, 104, 97, 105, 110, 32]⟩ ++ wd = u := ⟨_, rfl⟩
  have hm1 : ¬ 9223372036854775807 < s.size + 11 := by omega
  have hm2 : ¬ 9223372036854775807 < s.size + 11 + 5 := by omega
  have hm3 : ¬ 9223372036854775807 < s.size + 16 := by omega
  have hm4 : ¬ 9223372036854775807 < s.size + 10 := by omega
  have hcu := fun w => run_bytes_of_string (P := Tryd.prog) w 9 31 5 u Tryd.underlying9 Tryd.underlying31 Tryd.underlying5
  have HBB := Lib.hid hBB
  have HWA := Lib.hid hwA
  have HWB := Lib.hid hwB
  have hM1B : wB.heap[w2.heap.size]? = some (.cells #[.string rp, .int .i64 ri] 33 (0, 0)) := by
    rw [hwB, Below.heap_alloc _ _ _ (by omega), hwA]
    exact alloc_at rfl _
  clear hdb hdg hk hwA hwB hBA hBB
  rw [hcd]
  go_simp
  go_wp2_with fail
  have hge := grownCap_ge wB u.size 0 5
  generalize grownCap wB u.size 0 5 = gc at *
  have hbs := (bytesRow_v u wB gc hge ((bytesRow u gc).size, (bytesRow u gc).size + 1)).below (Below.refl _ _).drew
  rw [hzB] at hbs
  have hbC : Below wB.heap.size wB (wB.alloc (.cells (bytesRow u gc) 5 ((bytesRow u gc).size, (bytesRow u gc).size + 1))).drew := ((Below.refl _ _).alloc (Nat.le_refl _) _).drew
  clear hcu hcs hcd
  generalize (wB.alloc (.cells (bytesRow u gc) 5 ((bytesRow u gc).size, (bytesRow u gc).size + 1))).drew = wC at *
  have hBC : Below w.heap.size w wC := HBB.out.trans (hbC.mono HBB.out.size)
  have hM1C : wC.heap[w2.heap.size]? = some (.cells #[.string rp, .int .i64 ri] 33 (0, 0)) := (hbC.block _ (by omega)).trans hM1B
  refine Calls.mono (HR2.out _ _ _ u (by rw [← hu, ← hwd]) hBC hbs) ?_
  rintro e wD ⟨rfl, hbD⟩
  have hBD : Below w.heap.size w wD := hBC.trans (hbD.mono hBC.size)
  have hzC := hbC.size
  have hzD := hbD.size
  have hM1D : wD.heap[w2.heap.size]? = some (.cells #[.string rp, .int .i64 ri] 33 (0, 0)) := (hbD.block _ (by omega)).trans hM1C
  obtain ⟨wE, hwE⟩ : ∃ wE, wE = wD.alloc (Obj.cells #[Value.string rp, Value.int IntKind.i64 ri] 33) := ⟨_, rfl⟩
  have hBE : Below w.heap.size w wE := by rw [hwE]; exact hBD.alloc hBD.size _
  have hzE : wE.heap.size = wD.heap.size + 1 := by rw [hwE]; simp
  have hM1E : wE.heap[w2.heap.size]? = some (.cells #[.string rp, .int .i64 ri] 33 (0, 0)) := by rw [hwE, Below.heap_alloc _ _ _ (by omega)]; exact hM1D
  have hM2E : wE.heap[wD.heap.size]? = some (.cells #[.string rp, .int .i64 ri] 33 (0, 0)) := by rw [hwE]; exact alloc_at rfl _
  have hcs := conv_at (HB0.out.below hBE) cap
  rw [hwE] at hcs
  obtain ⟨v, hv⟩ : ∃ v, s ++ ⟨#[10, 116, 111, 111, 108, 99, 104, 97, 105, 110]⟩ = v := ⟨_, rfl⟩
  have hcu := fun w => run_bytes_of_string (P := Tryd.prog) w 9 31 5 v Tryd.underlying9 Tryd.underlying31 Tryd.underlying5
  have HWE := Lib.hid hwE
  have HBE := Lib.hid hBE
  have HM1E := Lib.hid hM1E
  have HM2E := Lib.hid hM2E
  clear hM1B hM1C hM1D hM1E hM2E hwE hBE hBD hbD hBC hbC hbs hu hwd hge
  go_wp2_with fail
  rw [← HWE.out]
  have hge := grownCap_ge wE v.size 0 5
  generalize grownCap wE v.size 0 5 = gd at *
  have hbs := (bytesRow_v v wE gd hge ((bytesRow v gd).size, (bytesRow v gd).size + 1)).below (Below.refl _ _).drew
  rw [hzE] at hbs
  have hbF : Below wE.heap.size wE (wE.alloc (.cells (bytesRow v gd) 5 ((bytesRow v gd).size, (bytesRow v gd).size + 1))).drew := ((Below.refl _ _).alloc (Nat.le_refl _) _).drew
  clear hcu hcs
  generalize (wE.alloc (.cells (bytesRow v gd) 5 ((bytesRow v gd).size, (bytesRow v gd).size + 1))).drew = wF at *
  have hBF : Below w.heap.size w wF := HBE.out.trans (hbF.mono HBE.out.size)
  refine Calls.mono (HR3.out _ _ _ v hv.symm hBF hbs) ?_
  rintro e wG ⟨rfl, hbG⟩
  have hBG : Below w.heap.size w wG := hBF.trans (hbG.mono hBF.size)
  have hzF := hbF.size
  have hzG := hbG.size
  obtain ⟨wH, hwH⟩ : ∃ wH, wH = wG.alloc (Obj.cells #[Value.string ⟨#[]⟩, Value.int IntKind.i64 0] 33) := ⟨_, rfl⟩
  have hBH : Below w.heap.size w wH := by rw [hwH]; exact hBG.alloc hBG.size _
  have m1 : wH.heap[w2.heap.size]? = some (.cells #[.string rp, .int .i64 ri] 33 (0, 0)) := by
    rw [hwH, Below.heap_alloc _ _ _ (by omega), hbG.block _ (by omega), hbF.block _ (by omega)]; exact HM1E.out
  have m2 : wH.heap[wD.heap.size]? = some (.cells #[.string rp, .int .i64 ri] 33 (0, 0)) := by
    rw [hwH, Below.heap_alloc _ _ _ (by omega), hbG.block _ (by omega), hbF.block _ (by omega)]; exact HM2E.out
  have m3 : wH.heap[wG.heap.size]? = some (.cells #[.string ⟨#[]⟩, .int .i64 0] 33 (0, 0)) := by rw [hwH]; exact alloc_at rfl _
  have q10 := cell_of m1 0
  have q11 := cell_of m1 1
  have q20 := cell_of m2 0
  have q21 := cell_of m2 1
  have q30 := cell_of m3 0
  have q31 := cell_of m3 1
  rw [hwH] at m1 m2 m3 q10 q11 q20 q21 q30 q31
  have hrr : (rp.toList == rp.toList) = true := by simp
  have hee : ((⟨#[]⟩ : ByteArray).toList == (⟨#[]⟩ : ByteArray).toList) = true := by simp
  have HBH := Lib.hid hBH
  have HWH := Lib.hid hwH
  have hW2 := hW wH hBH
  rw [hwH] at hW2
  clear hwH hBH hBG hbG hBF hbF hbs hge hzF hzG hW
  go_wp2_with (go_at_call 16; with_reducible refine Calls.mono hW2 ?_; rintro e wI ⟨rfl, hbI⟩)
  rw [← HWH.out] at hbI
  go_ret
  exact ⟨rfl, HBH.out.trans (hbI.mono HBH.out.size)⟩
end Go.Proofs.YtgkblldcjjokjaaDoor
