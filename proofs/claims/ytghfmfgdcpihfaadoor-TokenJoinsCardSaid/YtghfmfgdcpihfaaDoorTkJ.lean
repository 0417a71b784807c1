import Derived.Test.YtghfmfgdcpihfaaDoorTkI
namespace Go.Proofs.YtghfmfgdcpihfaaDoor
open Go.RowKit
set_option linter.unusedSimpArgs false
set_option linter.unusedVariables false
set_option linter.unusedSectionVars false

/-- What start-up has laid, as far as the scanner asks for it. -/
def Env (w : World) : Prop := SignsAt w ∧ ∃ m, w.cell? ⟨1, 0, none⟩ = some (.int .i64 m)
theorem Env.below {base : Nat} {w w' : World} (h : Env w) (hb : Below base w w') (h2 : 2 ≤ base) : Env w' := by
  obtain ⟨⟨t, fr, h0⟩, m, h1⟩ := h
  refine ⟨⟨t, fr, ?_⟩, m, ?_⟩
  · rw [hb.block 0 (by omega)]; exact h0
  · rw [hb.cell (p := ⟨1, 0, none⟩) (by show 1 < base; omega)]; exact h1

theorem take_any (base b : Nat) (src rest : ByteArray) (tk nt : List Tok) (at_ : Nat) (r : Int) (w : World) (hS : Sc base b src tk nt w) (hE : Env w) (ha : at_ < src.size) (hs : src.size ≤ 1000000) (hl : tk.length ≤ 1000000) (hm : nt.length ≤ 1000000)
    (hrest : src.extract at_ src.size = rest) :
    Calls Tryd.prog 13 #[.pointer (some ⟨b, 0, none⟩), .int .i64 at_, .int .i32 r] w (StepP base b src at_ w (takeF src rest tk nt at_ r)) := by
  obtain ⟨hg, m, hm1⟩ := hE
  unfold takeF
  by_cases c1 : r = 10
  · rw [if_pos c1]; subst c1; exact take_nl base b src tk nt at_ w hS ha hs hl
  rw [if_neg c1]
  cases c2 : blankI r with
  | true => exact take_blank base b src tk nt at_ w hS ha hs r c1 c2
  | false =>
  rw [if_neg (by decide)]
  cases c3 : pre rest slash2 with
  | true => exact take_line base b src tk nt at_ w hS ha hs hl hm r rest hrest c1 c2 c3
  | false =>
  rw [if_neg (by decide)]
  cases c4 : pre rest slashStar with
  | true => exact take_span base b src tk nt at_ w hS ha hs hl hm r rest hrest c1 c2 c3 c4 m hm1
  | false =>
  rw [if_neg (by decide)]
  cases c5 : letterI r with
  | true => exact take_word base b src tk nt at_ w hS ha hs hl hm r rest hrest c1 c2 c3 c4 c5
  | false =>
  rw [if_neg (by decide)]
  cases c6 : figureI r with
  | true => exact take_number base b src tk nt at_ w hS ha hs hl hm r rest hrest c1 c2 c3 c4 c5 c6
  | false =>
  rw [if_neg (by decide)]
  by_cases c7 : r = 34
  · rw [if_pos c7]; exact take_text base b src tk nt at_ w hS ha hs hl hm r rest hrest c1 c2 c3 c4 c5 c6 c7
  rw [if_neg c7]
  by_cases c8 : r = 96
  · rw [if_pos c8]; exact take_raw base b src tk nt at_ w hS ha hs hl hm r rest hrest c1 c2 c3 c4 c5 c6 c7 c8 m hm1
  rw [if_neg c8]
  exact take_sign base b src tk nt at_ w hS ha hs hl hm r rest hrest c1 c2 c3 c4 c5 c6 c7 c8 hg

theorem endF_len (tk : List Tok) (at_ : Nat) : (endF tk at_).length ≤ tk.length + 1 := by
  unfold endF
  split
  · split <;> simp
  · omega
theorem noteF_len (tk : List Tok) (s : ByteArray) (at_ : Nat) : (noteF tk s at_).length ≤ tk.length + 1 := by
  unfold noteF
  split
  · exact endF_len _ _
  · omega
theorem noteR_len {src : ByteArray} {tk nt tk' nt' : List Tok} {at_ size n : Nat} (h : noteR src tk nt at_ size = some (tk', nt', n)) : tk'.length ≤ tk.length + 1 ∧ nt'.length ≤ nt.length + 1 := by
  unfold noteR at h
  split at h
  · cases h
  · cases h
    exact ⟨noteF_len _ _ _, by simp⟩
theorem tokR_len {src : ByteArray} {tk nt tk' nt' : List Tok} {k : Int} {at_ size n : Nat} (h : tokR src tk nt k at_ size = some (tk', nt', n)) : tk'.length ≤ tk.length + 1 ∧ nt'.length ≤ nt.length + 1 := by
  unfold tokR at h
  split at h
  · cases h
  · cases h
    exact ⟨by simp, by omega⟩
theorem takeF_len {src rest : ByteArray} {tk nt tk' nt' : List Tok} {at_ n : Nat} {r : Int} (h : takeF src rest tk nt at_ r = some (tk', nt', n)) : tk'.length ≤ tk.length + 1 ∧ nt'.length ≤ nt.length + 1 := by
  unfold takeF at h
  split at h
  · cases h; exact ⟨endF_len _ _, by omega⟩
  split at h
  · cases h; exact ⟨by omega, by omega⟩
  split at h
  · exact noteR_len h
  split at h
  · exact noteR_len h
  split at h
  · exact tokR_len h
  split at h
  · exact tokR_len h
  split at h
  · exact tokR_len h
  split at h
  · exact tokR_len h
  · exact tokR_len h

/-- All steps of the scanner, from the byte pos on; signs ahead of next are passed over. What is told: where there is no token, or tokens and notes. -/
def allF (src : ByteArray) : Nat → Nat → Nat → List Tok → List Tok → Except Nat (List Tok × List Tok)
  | 0, _, _, tk, nt => .ok (tk, nt)
  | f + 1, pos, next, tk, nt => if pos < src.size then
      (if pos < next then allF src f (pos + (Utf8.decode src pos).2) next tk nt
       else match takeF src (src.extract pos src.size) tk nt pos ((Utf8.decode src pos).1 : Nat) with
        | none => .error pos
        | some (tk', nt', m) => allF src f (pos + (Utf8.decode src pos).2) (pos + m) tk' nt')
    else .ok (endF tk src.size, nt)

/-- What all steps together come to. -/
def AllP (base b : Nat) (src : ByteArray) (w : World) : Except Nat (List Tok × List Tok) → Ending → World → Prop
  | .ok (tk, nt), e, w' => e = .returned (.tuple #[]) ∧ Sc base b src tk nt w' ∧ Frm base b w w'
  | .error at_, e, w' => e = .panicked [{ v := .iface 34 (.int .i64 at_), recovered := false }] ∧ Frm base b w w'

theorem noteR_size {src : ByteArray} {tk nt tk' nt' : List Tok} {at_ size n k : Nat} (hk : size ≤ k) (h : noteR src tk nt at_ size = some (tk', nt', n)) : n ≤ k := by
  unfold noteR at h
  split at h
  · cases h
  · cases h; exact hk
theorem tokR_size {src : ByteArray} {tk nt tk' nt' : List Tok} {k : Int} {at_ size n m : Nat} (hk : size ≤ m) (h : tokR src tk nt k at_ size = some (tk', nt', n)) : n ≤ m := by
  unfold tokR at h
  split at h
  · cases h
  · cases h; exact hk
theorem takeF_size {src rest : ByteArray} {tk nt tk' nt' : List Tok} {at_ n : Nat} {r : Int} (h1 : 1 ≤ rest.size) (h : takeF src rest tk nt at_ r = some (tk', nt', n)) : n ≤ rest.size + 3 := by
  unfold takeF at h
  split at h
  · cases h; omega
  split at h
  · cases h; unfold blankN; split <;> simp
  split at h
  · exact Nat.le_trans (noteR_size (beforeF_le _ _ _ _) h) (by omega)
  split at h
  · rename_i hp
    have ho : slashStar.size ≤ rest.size := by simp [pre] at hp; exact hp.1
    obtain ⟨m, hm, hle⟩ := throughF_nat rest slashStar starSlash ho
    rw [hm, Int.toNat_natCast] at h
    exact Nat.le_trans (noteR_size hle h) (by omega)
  split at h
  · exact Nat.le_trans (tokR_size (beforeF_le _ _ _ _) h) (by omega)
  split at h
  · exact Nat.le_trans (tokR_size (beforeF_le _ _ _ _) h) (by omega)
  split at h
  · obtain ⟨m, hm, hle⟩ := quotedF_nat (rest.extract 1 rest.size) rest.size 0 false
    rw [hm, Int.toNat_natCast] at h
    have : (rest.extract 1 rest.size).size = rest.size - 1 := by simp
    exact Nat.le_trans (tokR_size hle h) (by omega)
  split at h
  · obtain ⟨m, hm, hle⟩ := throughF_nat rest tick tick (by show 1 ≤ _; omega)
    rw [hm, Int.toNat_natCast] at h
    exact Nat.le_trans (tokR_size hle h) (by omega)
  · exact Nat.le_trans (tokR_size (firstSign_le _ _) h) (by omega)

theorem own_ne_iter {w : World} {base e it n size : Nat} {v : Value} {xs : List Value} {s : ByteArray} {p : Nat} (h : w.ownsRow base e size v n xs) (hb : w.heap[it]? = some (.stringIter s p)) : v.ownBlock = none ∨ v.ownBlock ≠ some it := by
  rcases h.2 with ⟨rfl, _⟩ | ⟨g, cap, cur, rfl, _, hg, _⟩
  · exact .inl rfl
  · refine .inr ?_
    simp only [Value.ownBlock, ne_eq, Option.some.injEq]
    rintro rfl
    rw [hg] at hb
    simp at hb

theorem Sc.iter {base b it : Nat} {src s s' : ByteArray} {p q : Nat} {tk nt : List Tok} {w : World} (h : Sc base b src tk nt w) (hit : w.heap[it]? = some (.stringIter s p)) : Sc base b src tk nt (w.iterAt it s' q) := by
  obtain ⟨h0, vt, vn, h1, h2, h3, h4⟩ := h
  have hk : Keeps (fun k => k = it) w (w.iterAt it s' q) := (Keeps.refl (fun k => k = it) w).iterAt (.inl rfl) s' q
  have hg : w.grownBy (w.iterAt it s' q) (some it) := ⟨hk.os, hk.tape, hk.output, hk.size, fun k hk1 hk2 => hk.block k hk1 (fun e => hk2 (by rw [e]))⟩
  refine ⟨h0, vt, vn, ?_, h2.kept hg (own_ne_iter h2 hit), h3.kept hg (own_ne_iter h3 hit), h4⟩
  rw [hk.block b (lt_of_block h1) (fun e => by subst e; rw [h1] at hit; simp at hit)]
  exact h1

theorem Frm.iter {base b it : Nat} {w wr : World} (h : Frm base b w wr) (h1 : w.heap.size ≤ it) (h2 : base ≤ it) (s : ByteArray) (q : Nat) : Frm base b w (wr.iterAt it s q) := by
  have hk : Keeps (fun k => k = it) wr (wr.iterAt it s q) := (Keeps.refl (fun k => k = it) wr).iterAt (.inl rfl) s q
  refine ⟨Lib.below_iterAt h.1 h2 _ _, fun k o hk1 hb ho => ?_⟩
  have h3 := h.2 k o hk1 hb ho
  rw [hk.block k (lt_of_block h3) (fun e => by have := lt_of_block hk1; omega)]
  exact h3

set_option maxHeartbeats 1600000 in
theorem all_any (base b : Nat) (src : ByteArray) (w : World) (hS : Sc base b src [] [] w) (hE : Env w) (h2 : 2 ≤ base) (hs : src.size ≤ 100000) :
    Calls Tryd.prog 9 #[.pointer (some ⟨b, 0, none⟩)] w (AllP base b src w (allF src (src.size + 1) 0 0 [] [])) := by
  have c0 := hS.src
  obtain ⟨hlt, hbw⟩ := hS.lt
  have HS := Lib.hid hS
  have HE := Lib.hid hE
  clear hS hE
  generalize hA : allF src (src.size + 1) 0 0 [] [] = A
  have HA := Lib.hid hA
  clear hA
  go_enter Tryd.func9, Tryd.ntmps9
  go_wp2_with fail
  go_loopw [2] (fun v wr => ∃ (f pos next : Nat) (tk nt : List Tok), v = .int .i64 next ∧ src.size < f + pos ∧ pos ≤ src.size ∧ next ≤ src.size + 3 ∧ tk.length ≤ pos ∧ nt.length ≤ pos ∧ A = allF src f pos next tk nt ∧
     Sc base b src tk nt wr ∧ Frm base b w wr ∧ wr.heap[w.heap.size]? = some (.stringIter src pos)) (fun _ wr => src.size - wr.iterPos w.heap.size)
  case atStart =>
    refine ⟨src.size + 1, 0, 0, [], [], rfl, by omega, by omega, by omega, Nat.le_refl _, Nat.le_refl _, HA.out.symm, HS.out.keep ((Below.refl _ _).alloc (Nat.le_refl _) _), Frm.of_below ((Below.refl _ _).alloc (Nat.le_refl _) _) hbw, iter_at rfl _ _⟩
  case round =>
    obtain ⟨f, pos, next, tk, nt, rfl, hf, hpos, hnx, htl, hnl, he, hsc, hfr, hi⟩ := hrel
    obtain ⟨f, rfl⟩ : ∃ g, f = g + 1 := ⟨f - 1, by omega⟩
    have HEQ := Lib.hid he; clear he
    have HSC := Lib.hid hsc
    have HFR := Lib.hid hfr; clear hfr
    have HI := Lib.hid hi
    have c0 := hsc.src
    clear hsc
    by_cases hlt1 : pos < src.size
    · have hn := Lib.run_next_any_at (P := Tryd.prog) wr w.heap.size src pos 0 hi hlt1
      have hst : allF src (f + 1) pos next tk nt = (if pos < next then allF src f (pos + (Utf8.decode src pos).2) next tk nt
       else match takeF src (src.extract pos src.size) tk nt pos ((Utf8.decode src pos).1 : Nat) with
        | none => .error pos
        | some (tk', nt', m) => allF src f (pos + (Utf8.decode src pos).2) (pos + m) tk' nt') := by rw [allF, if_pos hlt1]
      obtain ⟨n1, n2⟩ := dec_width src pos hlt1
      generalize hw1 : wr.iterAt w.heap.size src (pos + (Utf8.decode src pos).2) = w1 at hn
      have HSC1 : Hid (Sc base b src tk nt w1) := by rw [← hw1]; exact Lib.hid (HSC.out.iter HI.out)
      have HFR1 : Hid (Frm base b w w1) := by rw [← hw1]; exact Lib.hid (HFR.out.iter (Nat.le_refl _) hbw _ _)
      have HI1 : Hid (w1.heap[w.heap.size]? = some (.stringIter src (pos + (Utf8.decode src pos).2))) := by rw [← hw1]; exact Lib.iterAt_heap _ _ _ _ _ hi
      have c1 := HSC1.out.src
      clear hw1 hi
      generalize Utf8.decode src pos = d at *
      obtain ⟨r, n⟩ := d
      simp only at n1 n2 hn hst HI1
      by_cases hnext : pos < next
      · have HN : Hid (A = allF src f (pos + n) next tk nt) := Lib.hid (by rw [HEQ.out, hst, if_pos hnext])
        clear hst
        go_wp2_with fail
        refine ⟨⟨f, pos + n, next, tk, nt, rfl, by omega, by omega, hnx, by omega, by omega, HN.out, HSC1.out, HFR1.out, HI1.out⟩, ?_⟩
        rw [iterPos_of HI.out, iterPos_of HI1.out]; omega
      · rw [if_neg hnext] at hst
        have HT := Lib.hid (take_any base b src _ tk nt pos r w1 HSC1.out (HE.out.below HFR1.out.1 h2) hlt1 (by omega) (by omega) (by omega) rfl)
        have hsz : ∀ t1 t2 m, takeF src (src.extract pos src.size) tk nt pos r = some (t1, t2, m) → m ≤ src.size - pos + 3 := by
          intro t1 t2 m h
          have := takeF_size (by simp; omega) h
          simpa using this
        have hln : ∀ t1 t2 m, takeF src (src.extract pos src.size) tk nt pos r = some (t1, t2, m) → t1.length ≤ tk.length + 1 ∧ t2.length ≤ nt.length + 1 := fun _ _ _ h => takeF_len h
        generalize takeF src (src.extract pos src.size) tk nt pos r = R at hst HT hsz hln
        rcases R with _ | ⟨tk2, nt2, m⟩
        · have HN : Hid (A = .error pos) := Lib.hid (by rw [HEQ.out, hst])
          clear hst hsz hln
          go_wp2_with (go_at_call 13; refine HT.out.mono ?_; rintro e w2 ⟨rfl, hf2⟩)
          rw [HN.out]
          exact ⟨rfl, rfl, HFR1.out.trans hf2⟩
        · have HN : Hid (A = allF src f (pos + n) (pos + m) tk2 nt2) := Lib.hid (by rw [HEQ.out, hst])
          have hsz2 := hsz _ _ _ rfl
          obtain ⟨hl1, hl2⟩ := hln _ _ _ rfl
          clear hst hsz hln
          go_wp2_with (go_at_call 13; refine HT.out.mono ?_; rintro e w2 ⟨rfl, hs2, hf2⟩)
          have hi2 := hf2.2 _ _ HI1.out (fun e => by simp only [Option.some.injEq] at e; omega) (fun c fz e => by simp at e)
          refine ⟨⟨f, pos + n, pos + m, tk2, nt2, by simp, by omega, by omega, by omega, by omega, by omega, HN.out, hs2, HFR1.out.trans hf2, hi2⟩, ?_⟩
          rw [iterPos_of HI.out, iterPos_of hi2]; omega
    · have hn := Lib.run_next_end_at (P := Tryd.prog) wr w.heap.size src pos 0 hi hlt1
      have HN : Hid (A = .ok (endF tk src.size, nt)) := Lib.hid (by rw [HEQ.out, allF, if_neg hlt1])
      clear hi
      go_wp2_with (go_at_call 14; refine (endLine_any base b src tk nt src.size _ HSC.out (by omega)).mono ?_; rintro e w4 ⟨rfl, hs4, hf4, _⟩)
      go_end0
      rw [HN.out]
      exact ⟨rfl, hs4, HFR.out.trans hf4⟩
end Go.Proofs.YtghfmfgdcpihfaaDoor
