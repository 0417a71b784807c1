import Derived.Test.YtppnjliamfnlkaaLtV
import Derived.Test.YtppnjliamfnlkaaLtJ
namespace Go.Proofs.Ytppnjliamfnlkaa
open Go.RowKit
set_option linter.unusedSimpArgs false
set_option linter.unusedVariables false
set_option linter.unusedSectionVars false

/-! The document's numbers: digit, decimal. -/
set_option maxHeartbeats 1600000 in
theorem rdigit_any (c : Nat) (hc : c < 256) (w : World) :
    Calls Try.prog 21 #[.int .u8 c] w fun e w' => e = .returned (.int .i64 (digitW c)) ∧ w' = w := by
  unfold digitW
  by_cases c1 : 48 ≤ c ∧ c ≤ 57
  · rw [if_pos c1]
    obtain ⟨a1, a2⟩ := c1
    obtain ⟨m, rfl⟩ : ∃ m, c = m + 48 := ⟨c - 48, by omega⟩
    rw [Nat.add_sub_cancel]
    have hm : ((m + 48 : Nat) : Int) - 48 = (m : Int) := by omega
    go_enter Try.func21, Try.ntmps21
    go_wp2_with fail
    go_ret
    exact ⟨rfl, rfl⟩
  rw [if_neg c1]
  have n1 : ¬ ((48 : Int) ≤ c ∧ (c : Int) ≤ 57) := by omega
  by_cases c2 : 97 ≤ c ∧ c ≤ 102
  · rw [if_pos c2]
    obtain ⟨a1, a2⟩ := c2
    obtain ⟨m, rfl⟩ : ∃ m, c = m + 97 := ⟨c - 97, by omega⟩
    rw [show m + 97 - 87 = m + 10 from by omega]
    have hm : ((m + 97 : Nat) : Int) - 97 = (m : Int) := by omega
    clear c1 n1
    go_enter Try.func21, Try.ntmps21
    go_wp2_with fail
    go_ret
    exact ⟨by go_num, rfl⟩
  rw [if_neg c2]
  have n2 : ¬ ((97 : Int) ≤ c ∧ (c : Int) ≤ 102) := by omega
  by_cases c3 : 65 ≤ c ∧ c ≤ 70
  · rw [if_pos c3]
    obtain ⟨a1, a2⟩ := c3
    obtain ⟨m, rfl⟩ : ∃ m, c = m + 65 := ⟨c - 65, by omega⟩
    rw [show m + 65 - 55 = m + 10 from by omega]
    have hm : ((m + 65 : Nat) : Int) - 65 = (m : Int) := by omega
    clear c1 n1 c2 n2
    go_enter Try.func21, Try.ntmps21
    go_wp2_with fail
    go_ret
    exact ⟨by go_num, rfl⟩
  · rw [if_neg c3]
    have n3 : ¬ ((65 : Int) ≤ c ∧ (c : Int) ≤ 70) := by omega
    go_enter Try.func21, Try.ntmps21
    go_wp2_with fail
    all_goals
      first
        | (go_ret; exact ⟨rfl, rfl⟩)
        | (exfalso; omega)

def pad (l : List Nat) : List Nat := if l = [] then [0] else l
theorem rest_small : ∀ d, d < 16 → (d % 10 :: restF 3 (d / 10)) = (if d = 0 then [0] else restF 3 d) := by decide
theorem pad_times {base d : Nat} (hb : 2 ≤ base) (hb2 : base ≤ 16) {l : List Nat} (hl : Canon l) (hd : d < base) : timesF base (pad l) d = pad (timesF base l d) := by
  by_cases h : l = []
  · subst h
    have h1 := rest_small d (by omega)
    have e1 : timesF base [] d = restF 3 d := rfl
    have e2 : timesF base [0] d = d % 10 :: restF 3 (d / 10) := by simp [timesF, mulF]
    have e3 : pad [] = [0] := rfl
    rw [e1, e3, e2, h1]
    by_cases h0 : d = 0
    · subst h0; rfl
    · have hne : restF 3 d ≠ [] := by unfold restF; rw [if_neg h0]; simp
      rw [if_neg h0, pad, if_neg hne]
  · have hne : timesF base l d ≠ [] := by
      intro h0
      have := congrArg List.length h0
      simp only [timesF, List.length_append, mulF_len, List.length_nil] at this
      exact h (List.eq_nil_of_length_eq_zero (by omega))
    rw [pad, if_neg h, pad, if_neg hne]
/-- Digits of a base, as figures. -/
def foldD (base : Nat) (l ds : List Nat) : List Nat := ds.foldl (fun l d => timesF base l d) l
theorem foldD_canon {base : Nat} (hb : 2 ≤ base) (hb2 : base ≤ 16) : ∀ (ds l : List Nat), Canon l → (∀ d ∈ ds, d < base) → Canon (foldD base l ds)
  | [], l, h, _ => h
  | d :: ds, l, h, hd => foldD_canon hb hb2 ds _ (timesF_canon hb hb2 h (hd d (by simp))) (fun x hx => hd x (by simp [hx]))
theorem foldD_snoc (base : Nat) (l ds : List Nat) (d : Nat) : foldD base l (ds ++ [d]) = timesF base (foldD base l ds) d := by
  simp [foldD]
theorem foldD_len (base : Nat) : ∀ (ds l : List Nat), (foldD base l ds).length ≤ l.length + 3 * ds.length
  | [], l => by simp [foldD]
  | d :: ds, l => by
    have h1 := foldD_len base ds (timesF base l d)
    have h2 := timesF_len base l d
    simp only [foldD, List.foldl_cons, List.length_cons] at *
    omega
def i64s (l : List Nat) : List Value := l.map fun (x : Nat) => Value.int .i64 (x : Int)
theorem i64s_len (l : List Nat) : (i64s l).length = l.length := by simp [i64s]
theorem i64s_mid (a b : List Nat) (f r : Nat) : (i64s (a ++ f :: b)).set a.length (.int .i64 r) = i64s ((a ++ [r]) ++ b) := by
  simp only [i64s, List.map_append, List.map_cons, List.map_nil]
  rw [List.set_append_right _ _ (by simp)]
  simp
theorem i64s_at (a b : List Nat) (f : Nat) : (i64s (a ++ f :: b))[a.length]? = some (.int .i64 (f : Int)) := by
  simp only [i64s, List.map_append, List.map_cons]
  rw [List.getElem?_append_right (by simp)]
  simp
theorem i64s_get (l : List Nat) (k : Nat) (h : k < l.length) : (i64s l)[k]? = some (.int .i64 (l[k] : Int)) := by
  simp [i64s, List.getElem?_map, List.getElem?_eq_getElem h]
theorem info64 : (Try.prog.info? 3).map (fun i => (i.zero, i.size, i.bytes)) = some (some (.int .i64 0), 1, 8) := by kernel_rfl
theorem pad_ne (l : List Nat) : pad l ≠ [] := by unfold pad; split <;> simp_all
theorem pad_lt {l : List Nat} (h : ∀ x ∈ l, x < 10) : ∀ x ∈ pad l, x < 10 := by
  unfold pad
  split
  · simp
  · exact h
theorem pad_len (l : List Nat) : (pad l).length ≤ l.length + 1 := by unfold pad; split <;> simp
theorem decF_pad (l : List Nat) (h : ∀ x ∈ l, x < 10) : bytesOf ((pad l).reverse.map (48 + ·)) = decF l := by
  by_cases h0 : l = []
  · subst h0; rfl
  · rw [pad, if_neg h0, decF, if_neg h0, bytesOf, List.map_map]
    rfl
end Go.Proofs.Ytppnjliamfnlkaa
