import Derived.Test.YtghfmfgdcpihfaaDoorTkN
import Derived.Test.YtghfmfgdcpihfaaDoorRows
import Derived.Lib.LaidTab
namespace Go.Proofs.YtghfmfgdcpihfaaDoor
open Go.RowKit
set_option linter.unusedSimpArgs false
set_option linter.unusedVariables false
set_option linter.unusedSectionVars false

/-- AN ARRAY OF TEXTS THAT READS AS THESE HOLDS THEM, CELL FOR CELL. -/
theorem cells_of_texts {H : Type} {enc : TypeId × Value → H} {P : Program} {w : World} {base : Nat} {sp : Nat → Bool} {held : Bool} {fuel : Nat} {t e : TypeId} {n : Nat} {cs : List Value} {zs : List ByteArray} {p : List MemPlace}
    (ht : P.underlying t = some (.array n e)) (he : P.underlying e = some .string) (hce : P.cellsOf e = 1) (hct : P.cellsOf t = n)
    (h : DataW.trod enc P w base sp held fuel t cs = some (.agg (zs.map fun z => .lit (.string z.data.toList)), p)) : cs = zs.map Value.string := by
  cases fuel with
  | zero => simp [DataW.trod] at h
  | succ fuel =>
    simp only [DataW.trod, ht, hce, hct, Nat.mul_one] at h
    split at h
    · rename_i hl
      obtain ⟨xs, hm, hx⟩ := Option.map_eq_some_iff.1 h
      have hxs : xs.map (·.1) = zs.map fun z => (DataW.lit (.string z.data.toList) : DataW H) := by
        have := congrArg Prod.fst hx
        simpa using this
      have hxl : xs.length = n := by simpa using Lib.mapM_length hm
      have hzl : zs.length = n := by
        have := congrArg List.length hxs
        simp at this
        omega
      apply List.ext_getElem?
      intro i
      by_cases hi : i < n
      · obtain ⟨b, hb, hf⟩ := Lib.mapM_at hm i i (by simp [hi])
        obtain ⟨z, hc, rfl, _⟩ := DataW.trod_string he hf
        have h1 : cs[i]? = some (.string z) := by
          have := congrArg (·[0]?) hc
          simpa [List.getElem?_take, List.getElem?_drop] using this
        have h2 : (xs.map (·.1))[i]? = some (DataW.lit (.string z.data.toList) : DataW H) := by simp [hb]
        rw [hxs] at h2
        simp only [List.getElem?_map, Option.map_eq_some_iff, DataW.lit.injEq, Lit.string.injEq] at h2
        obtain ⟨z', hz', hzz⟩ := h2
        have : z' = z := by
          apply ByteArray.ext
          exact Array.toList_inj.1 hzz
        subst this
        simp [h1, hz']
      · rw [List.getElem?_eq_none (by omega), List.getElem?_eq_none (by simp; omega)]
    · cases h

theorem gSigns : Tryd.prog.globalNamed "demotic/token.signs" = some 0 := by kernel_rfl
theorem gSignsT : (Tryd.prog.globals[0]?).map (·.type) = some 57 := by kernel_rfl
theorem cells72 : Tryd.prog.cellsOf 57 = 48 := by kernel_rfl
theorem cells9 : Tryd.prog.cellsOf 9 = 1 := by kernel_rfl
theorem signs_data {H : Type} : (Rows.laid_demotic_token_signs : DataW H) = .agg (signsL.map fun z => .lit (.string z.data.toList)) := by kernel_rfl
theorem signs_cells : signsL.map Value.string = signsV.toList := by kernel_rfl

/-- WHAT THE ROW's LIST GIVES: the table of signs. -/
theorem signs_of {W : World} (h : laidMetH Tryd.prog [("demotic/token.signs", Rows.laid_demotic_token_signs)] W) : SignsAt W := by
  obtain ⟨ps, ⟨g', t', cs, fuel, p, q, hg', ht', hvar, hd, _, _⟩, _⟩ := (show laidMet Tryd.prog [("demotic/token.signs", Rows.laid_demotic_token_signs)] W from h)
  obtain rfl := Option.some.inj (gSigns.symm.trans hg')
  obtain rfl := Option.some.inj (gSignsT.symm.trans ht')
  rw [signs_data] at hd
  have hc := cells_of_texts Tryd.underlying57 Tryd.underlying9 cells9 cells72 hd
  rw [signs_cells] at hc
  unfold World.var? at hvar
  rw [gSigns] at hvar
  simp only [Option.bind_some] at hvar
  split at hvar
  · rename_i c t fr hh
    simp only [Option.some.injEq] at hvar
    refine ⟨t, fr, ?_⟩
    rw [hh]
    subst hvar
    congr 2
    exact Array.toList_inj.1 hc
  · cases hvar

theorem env_of {W : World} (h : laidMetH Tryd.prog [("demotic/token.signs", Rows.laid_demotic_token_signs)] W) (hs : W.ShapedOpen Tryd.prog) : Env W ∧ 2 ≤ W.heap.size := by
  have hm := Tryd.laysM143.s1_3 W hs
  refine ⟨⟨signs_of h, hm⟩, ?_⟩
  obtain ⟨m, hm⟩ := hm
  obtain ⟨t, fr, hh⟩ := signs_of h
  have a : 1 < W.heap.size := World.block_lt_of_cell? _ _ hm
  have b : 0 < W.heap.size := lt_of_block hh
  omega

/-- A WORLD FOR THE WITNESS: the settled one, the table (block 0) holding what its initialiser lays. -/
noncomputable def laidWorld (os : Os) : World :=
  { World.holding Tryd.prog os ⟨#[], #[], []⟩ with heap := (World.holding Tryd.prog os ⟨#[], #[], []⟩).heap.modify 0 fun
      | .cells _ t frozen => .cells signsV t frozen
      | o => o }
theorem laid_met (os : Os) (args : Array Value) : laidMet Tryd.prog [("demotic/token.signs", Rows.laid_demotic_token_signs)] ((laidWorld os).forCall (fun _ _ => 0) ⟨#[], args, []⟩).memory :=
  laidMet_of_run' 8 (by kernel_rfl) (by kernel_rfl)
end Go.Proofs.YtghfmfgdcpihfaaDoor
