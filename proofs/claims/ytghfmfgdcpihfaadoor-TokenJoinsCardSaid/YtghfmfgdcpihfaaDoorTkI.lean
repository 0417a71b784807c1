import Derived.Test.YtghfmfgdcpihfaaDoorTkH
import Derived.Lib.IndexMore
namespace Go.Proofs.YtghfmfgdcpihfaaDoor
open Go.RowKit
set_option linter.unusedSimpArgs false
set_option linter.unusedVariables false
set_option linter.unusedSectionVars false

theorem beforeF_le (s : ByteArray) (q : Int → Bool) (f i : Nat) : beforeF s q f i ≤ s.size := by
  induction f generalizing i with
  | zero => exact Nat.le_refl _
  | succ f ih =>
    rw [beforeF]
    split
    · split
      · omega
      · exact ih _
    · exact Nat.le_refl _

theorem throughF_nat (s o c : ByteArray) (ho : o.size ≤ s.size) : ∃ n : Nat, throughF s o c = (n : Int) ∧ n ≤ s.size := by
  unfold throughF
  simp only
  split
  · exact ⟨0, rfl, Nat.zero_le _⟩
  · rename_i h
    have h1 := Lib.index_room (s.data.toList.drop o.size) c.data.toList (by omega)
    have h2 : (s.data.toList.drop o.size).length = s.size - o.size := by simp
    have h3 : c.data.toList.length = c.size := by simp
    generalize Lib.index (s.data.toList.drop o.size) c.data.toList = i at *
    exact ⟨o.size + i.toNat + c.size, by omega, by omega⟩

theorem quotedF_nat (t : ByteArray) (f i : Nat) (q : Bool) : ∃ n : Nat, quotedF t f i q = (n : Int) ∧ n ≤ t.size + 1 := by
  induction f generalizing i q with
  | zero => exact ⟨0, rfl, by omega⟩
  | succ f ih =>
    rw [quotedF]
    split
    · split
      · exact ⟨0, rfl, by omega⟩
      · split
        · exact ih _ _
        · split
          · exact ih _ _
          · split
            · exact ⟨i + 2, by omega, by omega⟩
            · exact ih _ _
    · exact ⟨0, rfl, by omega⟩

theorem firstSign_le (s : ByteArray) (l : List ByteArray) : firstSign s l ≤ s.size := by
  induction l with
  | nil => exact Nat.zero_le _
  | cons x l ih =>
    rw [firstSign]
    split
    · rename_i h
      simp [pre] at h
      exact h.1
    · exact ih

/-- The walk's stop. -/
theorem stop_ways {p : Prop} (h : Hid p) : p := h.out

abbrev Res := Option (List Tok × List Tok × Nat)
def tokR (src : ByteArray) (tk nt : List Tok) (k : Int) (at_ size : Nat) : Res := if size = 0 then none else some (tk ++ [⟨k, src.extract at_ (at_ + size), at_⟩], nt, size)
def noteR (src : ByteArray) (tk nt : List Tok) (at_ size : Nat) : Res :=
  if size = 0 then none else some (noteF tk (src.extract at_ (at_ + size)) at_, nt ++ [⟨0, src.extract at_ (at_ + size), at_⟩], size)
/-- What a step of the scanner comes to. -/
def StepP (base b : Nat) (src : ByteArray) (at_ : Nat) (w : World) : Res → Ending → World → Prop
  | some (tk, nt, n), e, w' => e = .returned (.int .i64 n) ∧ Sc base b src tk nt w' ∧ Frm base b w w'
  | none, e, w' => e = .panicked [{ v := .iface 34 (.int .i64 at_), recovered := false }] ∧ Frm base b w w'

theorem token_any (base b : Nat) (src : ByteArray) (tk nt : List Tok) (k : Int) (at_ size : Nat) (w : World) (hS : Sc base b src tk nt w) (h : at_ + size ≤ src.size) (hs : src.size ≤ 1000000) (hl : tk.length ≤ 1000000) :
    Calls Tryd.prog 24 #[.pointer (some ⟨b, 0, none⟩), .int .i64 k, .int .i64 at_, .int .i64 size] w (StepP base b src at_ w (tokR src tk nt k at_ size)) := by
  by_cases h0 : size = 0
  · rw [tokR, if_pos h0]; subst h0; exact token_zero base b src tk nt k at_ w hS hl
  · rw [tokR, if_neg h0]; exact token_ok base b src tk nt k at_ size w hS h0 h hs hl
theorem note_any (base b : Nat) (src : ByteArray) (tk nt : List Tok) (at_ size : Nat) (w : World) (hS : Sc base b src tk nt w) (h : at_ + size ≤ src.size) (hs : src.size ≤ 1000000) (hl : tk.length ≤ 1000000) (hm : nt.length ≤ 1000000) :
    Calls Tryd.prog 18 #[.pointer (some ⟨b, 0, none⟩), .int .i64 at_, .int .i64 size] w (StepP base b src at_ w (noteR src tk nt at_ size)) := by
  by_cases h0 : size = 0
  · rw [noteR, if_pos h0]; subst h0
    have hlt : b < w.heap.size := by obtain ⟨_, vt, vn, h1, _⟩ := hS; exact lt_of_block h1
    exact (note_zero b at_ w).mono fun e w' h => ⟨h.1, Frm.of_below h.2 (by have := hS.1; omega)⟩
  · rw [noteR, if_neg h0]; exact note_ok base b src tk nt at_ size w hS h0 h hs hl hm

def slash2 : ByteArray := ⟨#[47, 47]⟩
def slashStar : ByteArray := ⟨#[47, 42]⟩
def starSlash : ByteArray := ⟨#[42, 47]⟩
def tick : ByteArray := ⟨#[96]⟩
/-- One step of the scanner, at the byte at_ with the sign r; rest is what stands there. -/
def takeF (src rest : ByteArray) (tk nt : List Tok) (at_ : Nat) (r : Int) : Res :=
  if r = 10 then some (endF tk at_, nt, 1)
  else if blankI r then some (tk, nt, (blankN r).toNat)
  else if pre rest slash2 then noteR src tk nt at_ (beforeF rest newlineI (rest.size + 1) 0)
  else if pre rest slashStar then noteR src tk nt at_ (throughF rest slashStar starSlash).toNat
  else if letterI r then tokR src tk nt (namedK (rest.extract 0 (beforeF rest outsideI (rest.size + 1) 0)).toList) at_ (beforeF rest outsideI (rest.size + 1) 0)
  else if figureI r then tokR src tk nt 4 at_ (beforeF rest outsideI (rest.size + 1) 0)
  else if r = 34 then tokR src tk nt 5 at_ (quotedF (rest.extract 1 rest.size) rest.size 0 false).toNat
  else if r = 96 then tokR src tk nt 5 at_ (throughF rest tick tick).toNat
  else tokR src tk nt 6 at_ (firstSign rest signsL)

theorem Sc.src {base b : Nat} {src : ByteArray} {tk nt : List Tok} {w : World} (h : Sc base b src tk nt w) : w.cell? ⟨b, 0, none⟩ = some (.string src) := by
  obtain ⟨_, vt, vn, h1, _⟩ := h; exact cell_of h1 0
theorem Sc.lt {base b : Nat} {src : ByteArray} {tk nt : List Tok} {w : World} (h : Sc base b src tk nt w) : b < w.heap.size ∧ base ≤ w.heap.size := by
  obtain ⟨h0, vt, vn, h1, _⟩ := h; have := lt_of_block h1; omega

section
variable (base b : Nat) (src : ByteArray) (tk nt : List Tok) (at_ : Nat) (w : World) (hS : Sc base b src tk nt w) (ha : at_ < src.size) (hs : src.size ≤ 1000000) (hl : tk.length ≤ 1000000) (hm : nt.length ≤ 1000000)

include hS ha hs hl in
set_option maxHeartbeats 400000 in
theorem take_nl : Calls Tryd.prog 13 #[.pointer (some ⟨b, 0, none⟩), .int .i64 at_, .int .i32 10] w (StepP base b src at_ w (some (endF tk at_, nt, 1))) := by
  have c0 := hS.src
  obtain ⟨hlt, hbw⟩ := hS.lt
  go_enter Tryd.func13, Tryd.ntmps13
  go_wp2_with (go_at_call 14; refine (endLine_any base b src tk nt at_ _ hS hl).mono ?_; rintro e w2 ⟨rfl, hs2, hf2, _⟩)
  go_ret
  exact ⟨rfl, hs2, hf2⟩

include hS ha hs in
set_option maxHeartbeats 400000 in
theorem take_blank (r : Int) (r10 : r ≠ 10) (hr : blankI r = true) : Calls Tryd.prog 13 #[.pointer (some ⟨b, 0, none⟩), .int .i64 at_, .int .i32 r] w (StepP base b src at_ w (some (tk, nt, (blankN r).toNat))) := by
  have c0 := hS.src
  obtain ⟨hlt, hbw⟩ := hS.lt
  have e1 : (r == 10) = false := by simpa using r10
  have hb : ((blankN r).toNat : Int) = blankN r := by unfold blankN; split <;> rfl
  have HB := Lib.hid hb
  clear r10 hb
  go_enter Tryd.func13, Tryd.ntmps13
  go_wp2_with (first
    | (go_at_call 16; refine (blank_any r _).mono ?_; rintro e w2 ⟨rfl, rfl⟩; rw [hr])
    | (go_at_call 17; refine (runeLen_blank r hr _).mono ?_; rintro e w2 ⟨rfl, rfl⟩))
  go_ret
  exact ⟨by rw [HB.out]; rfl, hS, ⟨Below.refl _ _, Lib.OthersKept.refl _ _ _⟩⟩

theorem StepP.trans {base b : Nat} {src : ByteArray} {at_ : Nat} {w w2 : World} {R : Res} {e : Ending} {w3 : World} (h : Frm base b w w2) (k : StepP base b src at_ w2 R e w3) : StepP base b src at_ w R e w3 := by
  match R, k with
  | none, k => exact ⟨k.1, h.trans k.2⟩
  | some (tk, nt, n), k => exact ⟨k.1, k.2.1, h.trans k.2.2⟩

include hS ha hs hl hm in
set_option maxHeartbeats 400000 in
theorem take_line (r : Int) (rest : ByteArray) (hrest : src.extract at_ src.size = rest) (r10 : r ≠ 10) (hr : blankI r = false) (hp : pre rest slash2 = true) :
    Calls Tryd.prog 13 #[.pointer (some ⟨b, 0, none⟩), .int .i64 at_, .int .i32 r] w (StepP base b src at_ w (noteR src tk nt at_ (beforeF rest newlineI (rest.size + 1) 0))) := by
  have c0 := hS.src
  obtain ⟨hlt, hbw⟩ := hS.lt
  have e1 : (r == 10) = false := by simpa using r10
  have hz : rest.size = src.size - at_ := by rw [← hrest]; simp
  have hle := beforeF_le rest newlineI (rest.size + 1) 0
  generalize hn : beforeF rest newlineI (rest.size + 1) 0 = n at hle ⊢
  generalize hRR : noteR src tk nt at_ n = R
  have HR := Lib.hid hrest
  have HS := Lib.hid hS
  have HZ := Lib.hid hz
  have HLE := Lib.hid hle
  have HN := Lib.hid hn
  have HRR := Lib.hid hRR
  clear r10 hrest hS hz hle hn hRR
  go_enter Tryd.func13, Tryd.ntmps13
  go_wp2_with (first
    | (go_at_call 16; refine (blank_any r _).mono ?_; rintro e w2 ⟨rfl, hw2⟩; replace hw2 := hw2.symm; subst hw2; rw [hr])
    | (go_at_call 15; rw [HR.out]; refine (hp_any rest slash2 _ (by have := HZ.out; omega) (by decide)).mono ?_; rintro e w2 ⟨rfl, hw2⟩; replace hw2 := hw2.symm; subst hw2; rw [hp])
    | (go_at_call 19; refine (before_any newlineI 20 rest _ (by have := HZ.out; omega) (fun _ _ => rfl) newline_any).mono ?_; rintro e w2 ⟨rfl, hb2⟩
       rw [HN.out]; have HB2 := Lib.hid hb2; clear hb2)
    | (go_at_call 18; refine (note_any base b src tk nt at_ n _ (HS.out.keep HB2.out) (by have := HZ.out; have := HLE.out; omega) hs hl hm).mono ?_; intro e w3 h
       rw [HRR.out] at h
       replace h := StepP.trans (Frm.of_below HB2.out hbw) h
       rcases R with _ | ⟨tk3, nt3, m⟩
       · obtain ⟨rfl, hf3⟩ := h
         exact ⟨rfl, rfl, hf3⟩
       obtain ⟨rfl, hs3, hf3⟩ := h))
  go_ret
  exact ⟨rfl, hs3, hf3⟩

include hS ha hs hl hm in
set_option maxHeartbeats 800000 in
theorem take_span (r : Int) (rest : ByteArray) (hrest : src.extract at_ src.size = rest) (r10 : r ≠ 10) (hr : blankI r = false) (hp1 : pre rest slash2 = false) (hp2 : pre rest slashStar = true) (m : Int) (hg : w.cell? ⟨1, 0, none⟩ = some (.int .i64 m)) :
    Calls Tryd.prog 13 #[.pointer (some ⟨b, 0, none⟩), .int .i64 at_, .int .i32 r] w (StepP base b src at_ w (noteR src tk nt at_ (throughF rest slashStar starSlash).toNat)) := by
  have c0 := hS.src
  obtain ⟨hlt, hbw⟩ := hS.lt
  have e1 : (r == 10) = false := by simpa using r10
  have hz : rest.size = src.size - at_ := by rw [← hrest]; simp
  have ho : slashStar.size ≤ rest.size := by simp [pre] at hp2; exact hp2.1
  obtain ⟨n, hn, hle⟩ := throughF_nat rest slashStar starSlash ho
  rw [hn, Int.toNat_natCast]
  generalize hRR : noteR src tk nt at_ n = R
  have HR := Lib.hid hrest
  have HS := Lib.hid hS
  have HZ := Lib.hid hz
  have HLE := Lib.hid hle
  have HN := Lib.hid hn
  have HRR := Lib.hid hRR
  clear r10 hrest hS hz hle hn hRR
  go_enter Tryd.func13, Tryd.ntmps13
  go_wp2_with (first
    | (go_at_call 16; refine (blank_any r _).mono ?_; rintro e w2 ⟨rfl, hw2⟩; replace hw2 := hw2.symm; subst hw2; rw [hr])
    | (go_at_call 15; (try rw [HR.out]); first | (refine (hp_any rest slash2 _ (by have := HZ.out; omega) (by decide)).mono ?_; rintro e w2 ⟨rfl, hw2⟩; replace hw2 := hw2.symm; subst hw2; rw [hp1]) | (refine (hp_any rest slashStar _ (by have := HZ.out; omega) (by decide)).mono ?_; rintro e w2 ⟨rfl, hw2⟩; replace hw2 := hw2.symm; subst hw2; rw [hp2]))
    | (go_at_call 21; refine (through_any rest slashStar starSlash m _ (by have := HZ.out; omega) ho (by decide) hg).mono ?_; rintro e w2 ⟨rfl, hw2⟩; replace hw2 := hw2.symm; subst hw2; rw [HN.out])
    | (go_at_call 18; refine (note_any base b src tk nt at_ n _ HS.out (by have := HZ.out; have := HLE.out; omega) hs hl hm).mono ?_; intro e w3 h
       rw [HRR.out] at h
       replace h := StepP.trans ⟨Below.refl _ _, Lib.OthersKept.refl _ _ _⟩ h
       rcases R with _ | ⟨tk3, nt3, m⟩
       · obtain ⟨rfl, hf3⟩ := h
         exact ⟨rfl, rfl, hf3⟩
       obtain ⟨rfl, hs3, hf3⟩ := h))
  go_ret
  exact ⟨rfl, hs3, hf3⟩

include hS ha hs hl hm in
set_option maxHeartbeats 800000 in
theorem take_word (r : Int) (rest : ByteArray) (hrest : src.extract at_ src.size = rest) (r10 : r ≠ 10) (hr : blankI r = false) (hp1 : pre rest slash2 = false) (hp2 : pre rest slashStar = false) (hl1 : letterI r = true) :
    Calls Tryd.prog 13 #[.pointer (some ⟨b, 0, none⟩), .int .i64 at_, .int .i32 r] w (StepP base b src at_ w (tokR src tk nt (namedK (rest.extract 0 (beforeF rest outsideI (rest.size + 1) 0)).toList) at_ (beforeF rest outsideI (rest.size + 1) 0))) := by
  have c0 := hS.src
  obtain ⟨hlt, hbw⟩ := hS.lt
  have e1 : (r == 10) = false := by simpa using r10
  have hz : rest.size = src.size - at_ := by rw [← hrest]; simp
  have hle := beforeF_le rest outsideI (rest.size + 1) 0
  generalize hn : beforeF rest outsideI (rest.size + 1) 0 = n at hle ⊢
  generalize hRR : tokR src tk nt (namedK (rest.extract 0 n).toList) at_ n = R
  have HR := Lib.hid hrest
  have HS := Lib.hid hS
  have HZ := Lib.hid hz
  have HLE := Lib.hid hle
  have HN := Lib.hid hn
  have HRR := Lib.hid hRR
  clear r10 hrest hS hz hle hn hRR
  go_enter Tryd.func13, Tryd.ntmps13
  go_wp2_with (first
    | (go_at_call 16; refine (blank_any r _).mono ?_; rintro e w2 ⟨rfl, hw2⟩; replace hw2 := hw2.symm; subst hw2; rw [hr])
    | (go_at_call 15; (try rw [HR.out]); first | (refine (hp_any rest slash2 _ (by have := HZ.out; omega) (by decide)).mono ?_; rintro e w2 ⟨rfl, hw2⟩; replace hw2 := hw2.symm; subst hw2; rw [hp1]) | (refine (hp_any rest slashStar _ (by have := HZ.out; omega) (by decide)).mono ?_; rintro e w2 ⟨rfl, hw2⟩; replace hw2 := hw2.symm; subst hw2; rw [hp2]))
    | (go_at_call 22; refine (letter_any r _).mono ?_; rintro e w2 ⟨rfl, hw2⟩; replace hw2 := hw2.symm; subst hw2; rw [hl1])
    | (go_at_call 19; refine (before_any outsideI 23 rest _ (by have := HZ.out; omega) (fun _ _ => rfl) outside_any).mono ?_; rintro e w2 ⟨rfl, hb2⟩
       rw [HN.out]; have HB2 := Lib.hid hb2; clear hb2; have hn2 : n ≤ rest.size := HLE.out; have hn3 : rest.size ≤ 1000000 := by have := HZ.out; omega)
    | (go_at_call 25; refine (named_any _ _).mono ?_; rintro e w3 ⟨rfl, hw3⟩; replace hw3 := hw3.symm; subst hw3)
    | (go_at_call 24; refine (token_any base b src tk nt _ at_ n _ (HS.out.keep HB2.out) (by have := HZ.out; have := HLE.out; omega) hs hl).mono ?_; intro e w3 h
       rw [HRR.out] at h
       replace h := StepP.trans (Frm.of_below HB2.out hbw) h
       rcases R with _ | ⟨tk3, nt3, m⟩
       · obtain ⟨rfl, hf3⟩ := h
         exact ⟨rfl, rfl, hf3⟩
       obtain ⟨rfl, hs3, hf3⟩ := h))
  go_ret
  exact ⟨rfl, hs3, hf3⟩

include hS ha hs hl hm in
set_option maxHeartbeats 800000 in
theorem take_number (r : Int) (rest : ByteArray) (hrest : src.extract at_ src.size = rest) (r10 : r ≠ 10) (hr : blankI r = false) (hp1 : pre rest slash2 = false) (hp2 : pre rest slashStar = false) (hl1 : letterI r = false) (hf1 : figureI r = true) :
    Calls Tryd.prog 13 #[.pointer (some ⟨b, 0, none⟩), .int .i64 at_, .int .i32 r] w (StepP base b src at_ w (tokR src tk nt 4 at_ (beforeF rest outsideI (rest.size + 1) 0))) := by
  have c0 := hS.src
  obtain ⟨hlt, hbw⟩ := hS.lt
  have e1 : (r == 10) = false := by simpa using r10
  have hz : rest.size = src.size - at_ := by rw [← hrest]; simp
  have hle := beforeF_le rest outsideI (rest.size + 1) 0
  generalize hn : beforeF rest outsideI (rest.size + 1) 0 = n at hle ⊢
  generalize hRR : tokR src tk nt 4 at_ n = R
  have HR := Lib.hid hrest
  have HS := Lib.hid hS
  have HZ := Lib.hid hz
  have HLE := Lib.hid hle
  have HN := Lib.hid hn
  have HRR := Lib.hid hRR
  clear r10 hrest hS hz hle hn hRR
  go_enter Tryd.func13, Tryd.ntmps13
  go_wp2_with (first
    | (go_at_call 16; refine (blank_any r _).mono ?_; rintro e w2 ⟨rfl, hw2⟩; replace hw2 := hw2.symm; subst hw2; rw [hr])
    | (go_at_call 15; (try rw [HR.out]); first | (refine (hp_any rest slash2 _ (by have := HZ.out; omega) (by decide)).mono ?_; rintro e w2 ⟨rfl, hw2⟩; replace hw2 := hw2.symm; subst hw2; rw [hp1]) | (refine (hp_any rest slashStar _ (by have := HZ.out; omega) (by decide)).mono ?_; rintro e w2 ⟨rfl, hw2⟩; replace hw2 := hw2.symm; subst hw2; rw [hp2]))
    | (go_at_call 22; refine (letter_any r _).mono ?_; rintro e w2 ⟨rfl, hw2⟩; replace hw2 := hw2.symm; subst hw2; rw [hl1])
    | (go_at_call 26; refine (figure_any r _).mono ?_; rintro e w2 ⟨rfl, hw2⟩; replace hw2 := hw2.symm; subst hw2; rw [hf1])
    | (go_at_call 19; refine (before_any outsideI 23 rest _ (by have := HZ.out; omega) (fun _ _ => rfl) outside_any).mono ?_; rintro e w2 ⟨rfl, hb2⟩
       rw [HN.out]; have HB2 := Lib.hid hb2; clear hb2)
    | (go_at_call 24; refine (token_any base b src tk nt 4 at_ n _ (HS.out.keep HB2.out) (by have := HZ.out; have := HLE.out; omega) hs hl).mono ?_; intro e w3 h
       rw [HRR.out] at h
       replace h := StepP.trans (Frm.of_below HB2.out hbw) h
       rcases R with _ | ⟨tk3, nt3, m⟩
       · obtain ⟨rfl, hf3⟩ := h
         exact ⟨rfl, rfl, hf3⟩
       obtain ⟨rfl, hs3, hf3⟩ := h))
  go_ret
  exact ⟨rfl, hs3, hf3⟩

include hS ha hs hl hm in
set_option maxHeartbeats 800000 in
theorem take_text (r : Int) (rest : ByteArray) (hrest : src.extract at_ src.size = rest) (r10 : r ≠ 10) (hr : blankI r = false) (hp1 : pre rest slash2 = false) (hp2 : pre rest slashStar = false) (hl1 : letterI r = false) (hf1 : figureI r = false) (r34 : r = 34) :
    Calls Tryd.prog 13 #[.pointer (some ⟨b, 0, none⟩), .int .i64 at_, .int .i32 r] w (StepP base b src at_ w (tokR src tk nt 5 at_ (quotedF (rest.extract 1 rest.size) rest.size 0 false).toNat)) := by
  have c0 := hS.src
  obtain ⟨hlt, hbw⟩ := hS.lt
  have e1 : (r == 10) = false := by simpa using r10
  have e2 : (r == 34) = true := by simpa using r34
  clear r34
  have hz : rest.size = src.size - at_ := by rw [← hrest]; simp
  obtain ⟨n, hn, hle⟩ := quotedF_nat (rest.extract 1 rest.size) rest.size 0 false
  have hle : n ≤ rest.size := by simp at hle; omega
  rw [hn, Int.toNat_natCast]
  generalize hRR : tokR src tk nt 5 at_ n = R
  have HR := Lib.hid hrest
  have HS := Lib.hid hS
  have HZ := Lib.hid hz
  have HLE := Lib.hid hle
  have HN := Lib.hid hn
  have HRR := Lib.hid hRR
  clear r10 hrest hS hz hle hn hRR
  go_enter Tryd.func13, Tryd.ntmps13
  go_wp2_with (first
    | (go_at_call 16; refine (blank_any r _).mono ?_; rintro e w2 ⟨rfl, hw2⟩; replace hw2 := hw2.symm; subst hw2; rw [hr])
    | (go_at_call 15; (try rw [HR.out]); first | (refine (hp_any rest slash2 _ (by have := HZ.out; omega) (by decide)).mono ?_; rintro e w2 ⟨rfl, hw2⟩; replace hw2 := hw2.symm; subst hw2; rw [hp1]) | (refine (hp_any rest slashStar _ (by have := HZ.out; omega) (by decide)).mono ?_; rintro e w2 ⟨rfl, hw2⟩; replace hw2 := hw2.symm; subst hw2; rw [hp2]))
    | (go_at_call 22; refine (letter_any r _).mono ?_; rintro e w2 ⟨rfl, hw2⟩; replace hw2 := hw2.symm; subst hw2; rw [hl1])
    | (go_at_call 26; refine (figure_any r _).mono ?_; rintro e w2 ⟨rfl, hw2⟩; replace hw2 := hw2.symm; subst hw2; rw [hf1])
    | (go_at_call 27; refine (quoted_any rest _ (by have := HZ.out; omega) (by have := HZ.out; omega)).mono ?_; rintro e w2 ⟨rfl, hb2⟩
       rw [HN.out]; have HB2 := Lib.hid hb2; clear hb2)
    | (go_at_call 24; refine (token_any base b src tk nt 5 at_ n _ (HS.out.keep HB2.out) (by have := HZ.out; have := HLE.out; omega) hs hl).mono ?_; intro e w3 h
       rw [HRR.out] at h
       replace h := StepP.trans (Frm.of_below HB2.out hbw) h
       rcases R with _ | ⟨tk3, nt3, m⟩
       · obtain ⟨rfl, hf3⟩ := h
         exact ⟨rfl, rfl, hf3⟩
       obtain ⟨rfl, hs3, hf3⟩ := h))
  go_ret
  exact ⟨rfl, hs3, hf3⟩

include hS ha hs hl hm in
set_option maxHeartbeats 800000 in
theorem take_raw (r : Int) (rest : ByteArray) (hrest : src.extract at_ src.size = rest) (r10 : r ≠ 10) (hr : blankI r = false) (hp1 : pre rest slash2 = false) (hp2 : pre rest slashStar = false) (hl1 : letterI r = false) (hf1 : figureI r = false) (r34 : r ≠ 34) (r96 : r = 96) (m : Int) (hg : w.cell? ⟨1, 0, none⟩ = some (.int .i64 m)) :
    Calls Tryd.prog 13 #[.pointer (some ⟨b, 0, none⟩), .int .i64 at_, .int .i32 r] w (StepP base b src at_ w (tokR src tk nt 5 at_ (throughF rest tick tick).toNat)) := by
  have c0 := hS.src
  obtain ⟨hlt, hbw⟩ := hS.lt
  have e1 : (r == 10) = false := by simpa using r10
  have e2 : (r == 34) = false := by simpa using r34
  have e3 : (r == 96) = true := by simpa using r96
  clear r34 r96
  have hz : rest.size = src.size - at_ := by rw [← hrest]; simp
  have ho : tick.size ≤ rest.size := by show 1 ≤ _; omega
  obtain ⟨n, hn, hle⟩ := throughF_nat rest tick tick ho
  rw [hn, Int.toNat_natCast]
  generalize hRR : tokR src tk nt 5 at_ n = R
  have HR := Lib.hid hrest
  have HS := Lib.hid hS
  have HZ := Lib.hid hz
  have HLE := Lib.hid hle
  have HN := Lib.hid hn
  have HRR := Lib.hid hRR
  clear r10 hrest hS hz hle hn hRR
  go_enter Tryd.func13, Tryd.ntmps13
  go_wp2_with (first
    | (go_at_call 16; refine (blank_any r _).mono ?_; rintro e w2 ⟨rfl, hw2⟩; replace hw2 := hw2.symm; subst hw2; rw [hr])
    | (go_at_call 15; (try rw [HR.out]); first | (refine (hp_any rest slash2 _ (by have := HZ.out; omega) (by decide)).mono ?_; rintro e w2 ⟨rfl, hw2⟩; replace hw2 := hw2.symm; subst hw2; rw [hp1]) | (refine (hp_any rest slashStar _ (by have := HZ.out; omega) (by decide)).mono ?_; rintro e w2 ⟨rfl, hw2⟩; replace hw2 := hw2.symm; subst hw2; rw [hp2]))
    | (go_at_call 22; refine (letter_any r _).mono ?_; rintro e w2 ⟨rfl, hw2⟩; replace hw2 := hw2.symm; subst hw2; rw [hl1])
    | (go_at_call 26; refine (figure_any r _).mono ?_; rintro e w2 ⟨rfl, hw2⟩; replace hw2 := hw2.symm; subst hw2; rw [hf1])
    | (go_at_call 21; refine (through_any rest tick tick m _ (by have := HZ.out; omega) ho (by decide) hg).mono ?_; rintro e w2 ⟨rfl, hw2⟩; replace hw2 := hw2.symm; subst hw2; rw [HN.out])
    | (go_at_call 24; refine (token_any base b src tk nt 5 at_ n _ HS.out (by have := HZ.out; have := HLE.out; omega) hs hl).mono ?_; intro e w3 h
       rw [HRR.out] at h
       replace h := StepP.trans ⟨Below.refl _ _, Lib.OthersKept.refl _ _ _⟩ h
       rcases R with _ | ⟨tk3, nt3, m⟩
       · obtain ⟨rfl, hf3⟩ := h
         exact ⟨rfl, rfl, hf3⟩
       obtain ⟨rfl, hs3, hf3⟩ := h))
  go_ret
  exact ⟨rfl, hs3, hf3⟩

include hS ha hs hl hm in
set_option maxHeartbeats 800000 in
theorem take_sign (r : Int) (rest : ByteArray) (hrest : src.extract at_ src.size = rest) (r10 : r ≠ 10) (hr : blankI r = false) (hp1 : pre rest slash2 = false) (hp2 : pre rest slashStar = false) (hl1 : letterI r = false) (hf1 : figureI r = false) (r34 : r ≠ 34) (r96 : r ≠ 96) (hg : SignsAt w) :
    Calls Tryd.prog 13 #[.pointer (some ⟨b, 0, none⟩), .int .i64 at_, .int .i32 r] w (StepP base b src at_ w (tokR src tk nt 6 at_ (firstSign rest signsL))) := by
  have c0 := hS.src
  obtain ⟨hlt, hbw⟩ := hS.lt
  have e1 : (r == 10) = false := by simpa using r10
  have e2 : (r == 34) = false := by simpa using r34
  have e3 : (r == 96) = false := by simpa using r96
  clear r34 r96
  have hz : rest.size = src.size - at_ := by rw [← hrest]; simp
  have hle := firstSign_le rest signsL
  generalize hn : firstSign rest signsL = n at hle ⊢
  generalize hRR : tokR src tk nt 6 at_ n = R
  have HR := Lib.hid hrest
  have HS := Lib.hid hS
  have HZ := Lib.hid hz
  have HLE := Lib.hid hle
  have HN := Lib.hid hn
  have HRR := Lib.hid hRR
  clear r10 hrest hS hz hle hn hRR
  go_enter Tryd.func13, Tryd.ntmps13
  go_wp2_with (first
    | (go_at_call 16; refine (blank_any r _).mono ?_; rintro e w2 ⟨rfl, hw2⟩; replace hw2 := hw2.symm; subst hw2; rw [hr])
    | (go_at_call 15; (try rw [HR.out]); first | (refine (hp_any rest slash2 _ (by have := HZ.out; omega) (by decide)).mono ?_; rintro e w2 ⟨rfl, hw2⟩; replace hw2 := hw2.symm; subst hw2; rw [hp1]) | (refine (hp_any rest slashStar _ (by have := HZ.out; omega) (by decide)).mono ?_; rintro e w2 ⟨rfl, hw2⟩; replace hw2 := hw2.symm; subst hw2; rw [hp2]))
    | (go_at_call 22; refine (letter_any r _).mono ?_; rintro e w2 ⟨rfl, hw2⟩; replace hw2 := hw2.symm; subst hw2; rw [hl1])
    | (go_at_call 26; refine (figure_any r _).mono ?_; rintro e w2 ⟨rfl, hw2⟩; replace hw2 := hw2.symm; subst hw2; rw [hf1])
    | (go_at_call 28; refine (signSize_any rest _ (by have := HZ.out; omega) hg).mono ?_; rintro e w2 ⟨rfl, hw2⟩; replace hw2 := hw2.symm; subst hw2; rw [HN.out])
    | (go_at_call 24; refine (token_any base b src tk nt 6 at_ n _ HS.out (by have := HZ.out; have := HLE.out; omega) hs hl).mono ?_; intro e w3 h
       rw [HRR.out] at h
       replace h := StepP.trans ⟨Below.refl _ _, Lib.OthersKept.refl _ _ _⟩ h
       rcases R with _ | ⟨tk3, nt3, m⟩
       · obtain ⟨rfl, hf3⟩ := h
         exact ⟨rfl, rfl, hf3⟩
       obtain ⟨rfl, hs3, hf3⟩ := h))
  go_ret
  exact ⟨rfl, hs3, hf3⟩
end
end Go.Proofs.YtghfmfgdcpihfaaDoor
