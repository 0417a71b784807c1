import Derived.Test.YtjgpopjnmonlkaaGreatDoorTgBg
import Derived.Test.YtjgpopjnmonlkaaGreatDoorTgBe
import Derived.Deep.Upon
namespace Go.Proofs.YtjgpopjnmonlkaaGreatDoor
open Go.RowKit Go.Shelf Go.Deep
set_option linter.unusedSimpArgs false
set_option linter.unusedVariables false
set_option linter.unusedSectionVars false

/-! Layer 5: TagMore. -/
/-- An append, as a step of a region that draws, guarded or not. -/
theorem step_run_append {P : Program} {w : World} {ops : Array Oper} {o : Oper} {a : Act} {K : Act → World → Prop} {Q : Exit → Act → World → Prop} {E : Prop} (hw : Region.wanted o (yielded ops a.tmps) = true) (s x : Operand) (t : TypeId)
    (ho : o.op = .call { callee := .builtin .append, args := #[s, x], argTypes := #[t, t] }) (v sv : Value) (hs : a.eval s = v) (hx : a.eval x = sv) (v' : Value) (w' : World) (hr : (Builtin.append_ #[t, t] o.type #[v, sv]).run P w = .ok v' w')
    (h : K (a.put o.dst v') w') : if Region.wanted o (yielded ops a.tmps) = true then Oper.wp P o a w K Q else E := by
  rw [if_pos hw]
  unfold Oper.wp execOp
  simp only [ho, resolve, invoke, builtin, Sem.run_bind, Sem.run_pure, Result.andThen_ok, List.map_toArray, List.map_cons, List.map_nil, hs, hx, hr]
  exact h
/-- A row of texts, appended to an empty one. -/
theorem copy_run (w : World) (B g : Nat) (ty : TypeId) (h : w.ownsRow B 9 1 (.slice (some ⟨g, 0, none⟩) 0 0) 0 []) (hB : B ≤ w.heap.size) (a : Option Addr) (cap : Nat) (tags : List ByteArray) (ht : TagsAt w a cap tags) (hl : tags.length ≤ 1000) :
    ∃ g' cap' w', (Builtin.append_ #[25, 25] ty #[.slice (some ⟨g, 0, none⟩) 0 0, .slice a tags.length cap]).run Tryz.prog w = .ok (.slice (some ⟨g', 0, none⟩) tags.length cap') w' ∧
      w'.ownsRow B 9 1 (.slice (some ⟨g', 0, none⟩) tags.length cap') tags.length (szs tags) ∧ w.grownBy w' (some g) := by
  obtain ⟨i0, hi0, hz0, hz1, hz2⟩ := info_parts info36g
  rcases ht with rfl | ⟨b, o, rfl, hb, hc, hcl⟩
  · refine ⟨g, 0, w, ?_, h, ⟨rfl, rfl, rfl, Nat.le_refl _, fun _ _ _ => rfl⟩⟩
    exact run_append_nothing w 25 25 ty 9 i0 Tryz.underlying25 hi0 (some ⟨g, 0, none⟩) 0 0 (Nat.le_refl _) _ (by
      cases a with
      | none => exact Src.ofNil w Tryz.underlying25 _
      | some a => exact Src.ofSlice w Tryz.underlying25 a 0 cap [] (by simp) (fun j u hu => by simp at hu) (fun u hu => by cases hu))
  · by_cases h0 : tags = []
    · subst h0
      refine ⟨g, 0, w, ?_, h, ⟨rfl, rfl, rfl, Nat.le_refl _, fun _ _ _ => rfl⟩⟩
      exact run_append_nothing w 25 25 ty 9 i0 Tryz.underlying25 hi0 (some ⟨g, 0, none⟩) 0 0 (Nat.le_refl _) _ (Src.ofSlice w Tryz.underlying25 ⟨b, o, none⟩ 0 cap [] (by simp) (fun j u hu => by simp at hu) (fun u hu => by cases hu))
    · have hpos : 0 < tags.length := List.length_pos_iff.mpr h0
      obtain ⟨g', cap', w', hr, h2, h3, _, _⟩ := run_append_lies (P := Tryz.prog) w 25 ty B 9 i0 _ 1 16 Tryz.underlying25 hi0 hz0 hz1 hz2 rfl (by decide) _ 0 [] h ⟨b, o, none⟩ tags.length cap (szs tags) (by simp [szs]) (fun j u hu => by
          rw [addr_add]
          simp only [szs, List.getElem?_map, Option.map_eq_some_iff] at hu
          obtain ⟨x, hx, rfl⟩ := hu
          exact hcl j x hx) (by intro u hu; simp only [szs, List.mem_map] at hu; obtain ⟨x, _, rfl⟩ := hu; rfl) hpos (by unfold maxLen; omega) (by omega) hB _ rfl
      refine ⟨g', cap', w', by rw [hr, Nat.zero_add], by simpa using h2, h3⟩
end Go.Proofs.YtjgpopjnmonlkaaGreatDoor
