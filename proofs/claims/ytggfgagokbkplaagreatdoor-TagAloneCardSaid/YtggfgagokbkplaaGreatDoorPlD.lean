import Derived.Test.YtggfgagokbkplaaGreatDoorProg
import Derived.Test.YtggfgagokbkplaaGreatDoorKit
namespace Go.Proofs.YtggfgagokbkplaaGreatDoor
open Go.RowKit

/-- The byte at a place, as a number; 0 beyond the end. -/
def byteN (s : ByteArray) (i : Nat) : Nat := (s.data.toList.getD i 0).toNat
theorem byteN_lt (s : ByteArray) (i : Nat) : byteN s i < 256 := UInt8.toNat_lt _

/-- The bytes of a slice that came in. -/
def BytesN (w : World) (b o : Nat) (s : ByteArray) : Prop := ∀ i, i < s.size → w.cell? ⟨b, o + i, none⟩ = some (.int .u8 (byteN s i))

def contV (s : ByteArray) (at_ : Nat) : Nat → Nat → Int → Option Int
  | 0, _, v => some v
  | k + 1, i, v => if byteN s (at_ + i) < 128 ∨ 191 < byteN s (at_ + i) then none else contV s at_ k (i + 1) (64 * v + byteN s (at_ + i) - 128)

def oddV (v least : Int) : Bool := decide (v < least) || decide (1114111 < v) || (decide (55296 ≤ v) && decide (v ≤ 57343))
def tailV (s : ByteArray) (at_ n : Nat) (v least : Int) : Int × Int :=
  if s.size < at_ + n then (1, -1) else
  match contV s at_ (n - 1) 1 v with
  | none => (1, -1)
  | some v => if oddV v least then (1, -1) else ((n : Int), v)
def signF (s : ByteArray) (at_ : Nat) : Int × Int :=
  let c := byteN s at_
  if c < 128 then (1, (c : Int))
  else if 194 ≤ c ∧ c ≤ 223 then tailV s at_ 2 ((c : Int) - 192) 128
  else if 224 ≤ c ∧ c ≤ 239 then tailV s at_ 3 ((c : Int) - 224) 2048
  else if 240 ≤ c ∧ c ≤ 244 then tailV s at_ 4 ((c : Int) - 240) 65536
  else (1, -1)

set_option maxRecDepth 100000 in
set_option maxHeartbeats 800000 in
theorem sign_any (b o cap : Nat) (s : ByteArray) (w : World) (hb : BytesN w b o s) (hs : s.size ≤ 4611686018427387904) (at_ : Nat) (h : at_ < s.size) :
    Calls Tryz.prog 97 #[.slice (some ⟨b, o, none⟩) s.size cap, .int .i64 at_] w fun e w' => e = .returned (.tuple #[.int .i64 (signF s at_).1, .int .i64 (signF s at_).2]) ∧ w' = w := by
  have hc := hb at_ h
  have hlt := byteN_lt s at_
  generalize hcc : byteN s at_ = c at hc hlt
  have HC := Lib.hid hcc; clear hcc
  have HB := Lib.hid hb; clear hb
  by_cases h1 : c < 128
  · have H := Lib.hid (show signF s at_ = (1, (c : Int)) from by simp [signF, HC.out, h1])
    rw [H.out]
    go_enter Tryz.func97, Tryz.ntmps97
    go_wp2_with fail
    go_ret2
    exact ⟨rfl, rfl⟩
  by_cases h2 : 194 ≤ c ∧ c ≤ 223
  · have H : signF s at_ = tailV s at_ 2 ((c : Int) - 192) 128 := by simp [signF, HC.out, h1, h2]
    rw [H]; clear H
    obtain ⟨h2a, h2b⟩ := h2
    by_cases hn : s.size < at_ + 2
    · rw [tailV, if_pos hn]
      go_enter Tryz.func97, Tryz.ntmps97
      go_wp2_with fail
      go_ret2
      exact ⟨rfl, rfl⟩
    · go_enter Tryz.func97, Tryz.ntmps97
      go_wp2_with fail
      go_loop [8, 10] (fun v i => ∃ (k : Nat) (x : Int), i = .int .i64 k ∧ v = .int .i64 x ∧ 1 ≤ k ∧ k ≤ 2 ∧ 0 ≤ x ∧ (k = 1 → x ≤ 31) ∧ (k = 2 → x ≤ 2047) ∧ (k = 3 → x ≤ 131071) ∧ (k = 4 → x ≤ 8388607) ∧
         contV s at_ (2 - 1) 1 ((c : Int) - 192) = contV s at_ (2 - k) k x) (fun _ i => 2 - (intOf i).toNat)
      case atStart => exact ⟨1, _, rfl, rfl, by omega, by omega, by omega, by omega, by omega, by omega, by omega, rfl⟩
      case round =>
        obtain ⟨k, x, rfl, rfl, hk1, hkn, hx0, hx1, hx2, hx3, hx4, he⟩ := hrel
        have HE := Lib.hid he; clear he
        have hxb : x ≤ 8388607 := by omega
        have HX1 := Lib.hid hx1; clear hx1
        have HX2 := Lib.hid hx2; clear hx2
        have HX3 := Lib.hid hx3; clear hx3
        have HX4 := Lib.hid hx4; clear hx4
        by_cases hk : k < 2
        · have hd := HB.out (at_ + k) (by omega)
          have hdl := byteN_lt s (at_ + k)
          have hcon : contV s at_ (2 - k) k x = if byteN s (at_ + k) < 128 ∨ 191 < byteN s (at_ + k) then none else contV s at_ (2 - (k + 1)) (k + 1) (64 * x + byteN s (at_ + k) - 128) := by
            rw [show 2 - k = (2 - (k + 1)) + 1 from by omega, contV]
          generalize hdd : byteN s (at_ + k) = d at hd hdl hcon
          clear hdd
          have HCON := Lib.hid hcon; clear hcon
          by_cases hlo : d < 128
          · have HN : Hid (tailV s at_ 2 ((c : Int) - 192) 128 = (1, -1)) := by show tailV s at_ 2 ((c : Int) - 192) 128 = _; rw [tailV, if_neg hn, HE.out, HCON.out, if_pos (.inl hlo)]
            go_wp2_with fail
            go_ret2
            exact ⟨by rw [HN.out]; rfl, rfl⟩
          by_cases hhi : 191 < d
          · have HN : Hid (tailV s at_ 2 ((c : Int) - 192) 128 = (1, -1)) := by show tailV s at_ 2 ((c : Int) - 192) 128 = _; rw [tailV, if_neg hn, HE.out, HCON.out, if_pos (.inr hhi)]
            go_wp2_with fail
            go_ret2
            exact ⟨by rw [HN.out]; rfl, rfl⟩
          · have HN : Hid (contV s at_ (2 - 1) 1 ((c : Int) - 192) = contV s at_ (2 - (k + 1)) (k + 1) (64 * x + d - 128)) := by rw [HE.out, HCON.out, if_neg (by omega)]; exact rfl
            have q1 : 0 ≤ 64 * x + d - 128 := by omega
            have q2 : Hid ((k + 1 = 1 → 64 * x + d - 128 ≤ 31) ∧ (k + 1 = 2 → 64 * x + d - 128 ≤ 2047) ∧ (k + 1 = 3 → 64 * x + d - 128 ≤ 131071) ∧ (k + 1 = 4 → 64 * x + d - 128 ≤ 8388607)) := by
              have := HX1.out; have := HX2.out; have := HX3.out
              exact ⟨by omega, by omega, by omega, by omega⟩
            go_wp2_with fail
            refine ⟨⟨_, _, _, _, ⟨k + 1, rfl, 64 * x + d - 128, rfl, by omega, by omega, q1, q2.out.1, q2.out.2.1, q2.out.2.2.1, q2.out.2.2.2, HN.out⟩, rfl, rfl, rfl, by go_num⟩, ?_⟩
            simp [intOf]; omega
        · obtain rfl : k = 2 := by omega
          have HN : tailV s at_ 2 ((c : Int) - 192) 128 = if oddV x 128 then (1, -1) else ((2 : Int), x) := by rw [tailV, if_neg hn, HE.out, Nat.sub_self, contV]; rfl
          clear hk
          by_cases g1 : x < 128
          · have HO : Hid (tailV s at_ 2 ((c : Int) - 192) 128 = (1, -1)) := by show tailV s at_ 2 ((c : Int) - 192) 128 = _; rw [HN, if_pos (by simp [oddV, g1])]
            clear HN
            go_wp2_with fail
            go_ret2
            exact ⟨by rw [HO.out]; rfl, rfl⟩
          by_cases g2 : 1114111 < x
          · have HO : Hid (tailV s at_ 2 ((c : Int) - 192) 128 = (1, -1)) := by show tailV s at_ 2 ((c : Int) - 192) 128 = _; rw [HN, if_pos (by simp [oddV, g2])]
            clear HN
            go_wp2_with fail
            go_ret2
            exact ⟨by rw [HO.out]; rfl, rfl⟩
          by_cases g3 : 55296 ≤ x
          · by_cases g4 : x ≤ 57343
            · have HO : Hid (tailV s at_ 2 ((c : Int) - 192) 128 = (1, -1)) := by show tailV s at_ 2 ((c : Int) - 192) 128 = _; rw [HN, if_pos (by simp [oddV, g3, g4])]
              clear HN
              go_wp2_with fail
              go_ret2
              exact ⟨by rw [HO.out]; rfl, rfl⟩
            · have HO : Hid (tailV s at_ 2 ((c : Int) - 192) 128 = ((2 : Int), x)) := by show tailV s at_ 2 ((c : Int) - 192) 128 = _; rw [HN, if_neg (by simp [oddV, g1, g2, g4])]
              clear HN
              go_wp2_with fail
              go_ret2
              exact ⟨by rw [HO.out]; rfl, rfl⟩
          · have HO : Hid (tailV s at_ 2 ((c : Int) - 192) 128 = ((2 : Int), x)) := by show tailV s at_ 2 ((c : Int) - 192) 128 = _; rw [HN, if_neg (by simp [oddV, g1, g2, g3])]
            clear HN
            go_wp2_with fail
            go_ret2
            exact ⟨by rw [HO.out]; rfl, rfl⟩
  by_cases h3 : 224 ≤ c ∧ c ≤ 239
  · have H : signF s at_ = tailV s at_ 3 ((c : Int) - 224) 2048 := by simp [signF, HC.out, h1, h2, h3]
    rw [H]; clear H
    obtain ⟨h2a, h2b⟩ := h3
    by_cases hn : s.size < at_ + 3
    · rw [tailV, if_pos hn]
      go_enter Tryz.func97, Tryz.ntmps97
      go_wp2_with fail
      go_ret2
      exact ⟨rfl, rfl⟩
    · go_enter Tryz.func97, Tryz.ntmps97
      go_wp2_with fail
      go_loop [8, 10] (fun v i => ∃ (k : Nat) (x : Int), i = .int .i64 k ∧ v = .int .i64 x ∧ 1 ≤ k ∧ k ≤ 3 ∧ 0 ≤ x ∧ (k = 1 → x ≤ 31) ∧ (k = 2 → x ≤ 2047) ∧ (k = 3 → x ≤ 131071) ∧ (k = 4 → x ≤ 8388607) ∧
         contV s at_ (3 - 1) 1 ((c : Int) - 224) = contV s at_ (3 - k) k x) (fun _ i => 3 - (intOf i).toNat)
      case atStart => exact ⟨1, _, rfl, rfl, by omega, by omega, by omega, by omega, by omega, by omega, by omega, rfl⟩
      case round =>
        obtain ⟨k, x, rfl, rfl, hk1, hkn, hx0, hx1, hx2, hx3, hx4, he⟩ := hrel
        have HE := Lib.hid he; clear he
        have hxb : x ≤ 8388607 := by omega
        have HX1 := Lib.hid hx1; clear hx1
        have HX2 := Lib.hid hx2; clear hx2
        have HX3 := Lib.hid hx3; clear hx3
        have HX4 := Lib.hid hx4; clear hx4
        by_cases hk : k < 3
        · have hd := HB.out (at_ + k) (by omega)
          have hdl := byteN_lt s (at_ + k)
          have hcon : contV s at_ (3 - k) k x = if byteN s (at_ + k) < 128 ∨ 191 < byteN s (at_ + k) then none else contV s at_ (3 - (k + 1)) (k + 1) (64 * x + byteN s (at_ + k) - 128) := by
            rw [show 3 - k = (3 - (k + 1)) + 1 from by omega, contV]
          generalize hdd : byteN s (at_ + k) = d at hd hdl hcon
          clear hdd
          have HCON := Lib.hid hcon; clear hcon
          by_cases hlo : d < 128
          · have HN : Hid (tailV s at_ 3 ((c : Int) - 224) 2048 = (1, -1)) := by show tailV s at_ 3 ((c : Int) - 224) 2048 = _; rw [tailV, if_neg hn, HE.out, HCON.out, if_pos (.inl hlo)]
            go_wp2_with fail
            go_ret2
            exact ⟨by rw [HN.out]; rfl, rfl⟩
          by_cases hhi : 191 < d
          · have HN : Hid (tailV s at_ 3 ((c : Int) - 224) 2048 = (1, -1)) := by show tailV s at_ 3 ((c : Int) - 224) 2048 = _; rw [tailV, if_neg hn, HE.out, HCON.out, if_pos (.inr hhi)]
            go_wp2_with fail
            go_ret2
            exact ⟨by rw [HN.out]; rfl, rfl⟩
          · have HN : Hid (contV s at_ (3 - 1) 1 ((c : Int) - 224) = contV s at_ (3 - (k + 1)) (k + 1) (64 * x + d - 128)) := by rw [HE.out, HCON.out, if_neg (by omega)]; exact rfl
            have q1 : 0 ≤ 64 * x + d - 128 := by omega
            have q2 : Hid ((k + 1 = 1 → 64 * x + d - 128 ≤ 31) ∧ (k + 1 = 2 → 64 * x + d - 128 ≤ 2047) ∧ (k + 1 = 3 → 64 * x + d - 128 ≤ 131071) ∧ (k + 1 = 4 → 64 * x + d - 128 ≤ 8388607)) := by
              have := HX1.out; have := HX2.out; have := HX3.out
              exact ⟨by omega, by omega, by omega, by omega⟩
            go_wp2_with fail
            refine ⟨⟨_, _, _, _, ⟨k + 1, rfl, 64 * x + d - 128, rfl, by omega, by omega, q1, q2.out.1, q2.out.2.1, q2.out.2.2.1, q2.out.2.2.2, HN.out⟩, rfl, rfl, rfl, by go_num⟩, ?_⟩
            simp [intOf]; omega
        · obtain rfl : k = 3 := by omega
          have HN : tailV s at_ 3 ((c : Int) - 224) 2048 = if oddV x 2048 then (1, -1) else ((3 : Int), x) := by rw [tailV, if_neg hn, HE.out, Nat.sub_self, contV]; rfl
          clear hk
          by_cases g1 : x < 2048
          · have HO : Hid (tailV s at_ 3 ((c : Int) - 224) 2048 = (1, -1)) := by show tailV s at_ 3 ((c : Int) - 224) 2048 = _; rw [HN, if_pos (by simp [oddV, g1])]
            clear HN
            go_wp2_with fail
            go_ret2
            exact ⟨by rw [HO.out]; rfl, rfl⟩
          by_cases g2 : 1114111 < x
          · have HO : Hid (tailV s at_ 3 ((c : Int) - 224) 2048 = (1, -1)) := by show tailV s at_ 3 ((c : Int) - 224) 2048 = _; rw [HN, if_pos (by simp [oddV, g2])]
            clear HN
            go_wp2_with fail
            go_ret2
            exact ⟨by rw [HO.out]; rfl, rfl⟩
          by_cases g3 : 55296 ≤ x
          · by_cases g4 : x ≤ 57343
            · have HO : Hid (tailV s at_ 3 ((c : Int) - 224) 2048 = (1, -1)) := by show tailV s at_ 3 ((c : Int) - 224) 2048 = _; rw [HN, if_pos (by simp [oddV, g3, g4])]
              clear HN
              go_wp2_with fail
              go_ret2
              exact ⟨by rw [HO.out]; rfl, rfl⟩
            · have HO : Hid (tailV s at_ 3 ((c : Int) - 224) 2048 = ((3 : Int), x)) := by show tailV s at_ 3 ((c : Int) - 224) 2048 = _; rw [HN, if_neg (by simp [oddV, g1, g2, g4])]
              clear HN
              go_wp2_with fail
              go_ret2
              exact ⟨by rw [HO.out]; rfl, rfl⟩
          · have HO : Hid (tailV s at_ 3 ((c : Int) - 224) 2048 = ((3 : Int), x)) := by show tailV s at_ 3 ((c : Int) - 224) 2048 = _; rw [HN, if_neg (by simp [oddV, g1, g2, g3])]
            clear HN
            go_wp2_with fail
            go_ret2
            exact ⟨by rw [HO.out]; rfl, rfl⟩
  by_cases h4 : 240 ≤ c ∧ c ≤ 244
  · have H : signF s at_ = tailV s at_ 4 ((c : Int) - 240) 65536 := by simp [signF, HC.out, h1, h2, h3, h4]
    rw [H]; clear H
    obtain ⟨h2a, h2b⟩ := h4
    by_cases hn : s.size < at_ + 4
    · rw [tailV, if_pos hn]
      go_enter Tryz.func97, Tryz.ntmps97
      go_wp2_with fail
      go_ret2
      exact ⟨rfl, rfl⟩
    · go_enter Tryz.func97, Tryz.ntmps97
      go_wp2_with fail
      go_loop [8, 10] (fun v i => ∃ (k : Nat) (x : Int), i = .int .i64 k ∧ v = .int .i64 x ∧ 1 ≤ k ∧ k ≤ 4 ∧ 0 ≤ x ∧ (k = 1 → x ≤ 31) ∧ (k = 2 → x ≤ 2047) ∧ (k = 3 → x ≤ 131071) ∧ (k = 4 → x ≤ 8388607) ∧
         contV s at_ (4 - 1) 1 ((c : Int) - 240) = contV s at_ (4 - k) k x) (fun _ i => 4 - (intOf i).toNat)
      case atStart => exact ⟨1, _, rfl, rfl, by omega, by omega, by omega, by omega, by omega, by omega, by omega, rfl⟩
      case round =>
        obtain ⟨k, x, rfl, rfl, hk1, hkn, hx0, hx1, hx2, hx3, hx4, he⟩ := hrel
        have HE := Lib.hid he; clear he
        have hxb : x ≤ 8388607 := by omega
        have HX1 := Lib.hid hx1; clear hx1
        have HX2 := Lib.hid hx2; clear hx2
        have HX3 := Lib.hid hx3; clear hx3
        have HX4 := Lib.hid hx4; clear hx4
        by_cases hk : k < 4
        · have hd := HB.out (at_ + k) (by omega)
          have hdl := byteN_lt s (at_ + k)
          have hcon : contV s at_ (4 - k) k x = if byteN s (at_ + k) < 128 ∨ 191 < byteN s (at_ + k) then none else contV s at_ (4 - (k + 1)) (k + 1) (64 * x + byteN s (at_ + k) - 128) := by
            rw [show 4 - k = (4 - (k + 1)) + 1 from by omega, contV]
          generalize hdd : byteN s (at_ + k) = d at hd hdl hcon
          clear hdd
          have HCON := Lib.hid hcon; clear hcon
          by_cases hlo : d < 128
          · have HN : Hid (tailV s at_ 4 ((c : Int) - 240) 65536 = (1, -1)) := by show tailV s at_ 4 ((c : Int) - 240) 65536 = _; rw [tailV, if_neg hn, HE.out, HCON.out, if_pos (.inl hlo)]
            go_wp2_with fail
            go_ret2
            exact ⟨by rw [HN.out]; rfl, rfl⟩
          by_cases hhi : 191 < d
          · have HN : Hid (tailV s at_ 4 ((c : Int) - 240) 65536 = (1, -1)) := by show tailV s at_ 4 ((c : Int) - 240) 65536 = _; rw [tailV, if_neg hn, HE.out, HCON.out, if_pos (.inr hhi)]
            go_wp2_with fail
            go_ret2
            exact ⟨by rw [HN.out]; rfl, rfl⟩
          · have HN : Hid (contV s at_ (4 - 1) 1 ((c : Int) - 240) = contV s at_ (4 - (k + 1)) (k + 1) (64 * x + d - 128)) := by rw [HE.out, HCON.out, if_neg (by omega)]; exact rfl
            have q1 : 0 ≤ 64 * x + d - 128 := by omega
            have q2 : Hid ((k + 1 = 1 → 64 * x + d - 128 ≤ 31) ∧ (k + 1 = 2 → 64 * x + d - 128 ≤ 2047) ∧ (k + 1 = 3 → 64 * x + d - 128 ≤ 131071) ∧ (k + 1 = 4 → 64 * x + d - 128 ≤ 8388607)) := by
              have := HX1.out; have := HX2.out; have := HX3.out
              exact ⟨by omega, by omega, by omega, by omega⟩
            go_wp2_with fail
            refine ⟨⟨_, _, _, _, ⟨k + 1, rfl, 64 * x + d - 128, rfl, by omega, by omega, q1, q2.out.1, q2.out.2.1, q2.out.2.2.1, q2.out.2.2.2, HN.out⟩, rfl, rfl, rfl, by go_num⟩, ?_⟩
            simp [intOf]; omega
        · obtain rfl : k = 4 := by omega
          have HN : tailV s at_ 4 ((c : Int) - 240) 65536 = if oddV x 65536 then (1, -1) else ((4 : Int), x) := by rw [tailV, if_neg hn, HE.out, Nat.sub_self, contV]; rfl
          clear hk
          by_cases g1 : x < 65536
          · have HO : Hid (tailV s at_ 4 ((c : Int) - 240) 65536 = (1, -1)) := by show tailV s at_ 4 ((c : Int) - 240) 65536 = _; rw [HN, if_pos (by simp [oddV, g1])]
            clear HN
            go_wp2_with fail
            go_ret2
            exact ⟨by rw [HO.out]; rfl, rfl⟩
          by_cases g2 : 1114111 < x
          · have HO : Hid (tailV s at_ 4 ((c : Int) - 240) 65536 = (1, -1)) := by show tailV s at_ 4 ((c : Int) - 240) 65536 = _; rw [HN, if_pos (by simp [oddV, g2])]
            clear HN
            go_wp2_with fail
            go_ret2
            exact ⟨by rw [HO.out]; rfl, rfl⟩
          by_cases g3 : 55296 ≤ x
          · by_cases g4 : x ≤ 57343
            · have HO : Hid (tailV s at_ 4 ((c : Int) - 240) 65536 = (1, -1)) := by show tailV s at_ 4 ((c : Int) - 240) 65536 = _; rw [HN, if_pos (by simp [oddV, g3, g4])]
              clear HN
              go_wp2_with fail
              go_ret2
              exact ⟨by rw [HO.out]; rfl, rfl⟩
            · have HO : Hid (tailV s at_ 4 ((c : Int) - 240) 65536 = ((4 : Int), x)) := by show tailV s at_ 4 ((c : Int) - 240) 65536 = _; rw [HN, if_neg (by simp [oddV, g1, g2, g4])]
              clear HN
              go_wp2_with fail
              go_ret2
              exact ⟨by rw [HO.out]; rfl, rfl⟩
          · have HO : Hid (tailV s at_ 4 ((c : Int) - 240) 65536 = ((4 : Int), x)) := by show tailV s at_ 4 ((c : Int) - 240) 65536 = _; rw [HN, if_neg (by simp [oddV, g1, g2, g3])]
            clear HN
            go_wp2_with fail
            go_ret2
            exact ⟨by rw [HO.out]; rfl, rfl⟩
  · have H : signF s at_ = (1, -1) := by simp [signF, HC.out, h1, h2, h3, h4]
    rw [H]; clear H
    by_cases k2 : c < 194
    · clear h2 h3 h4
      go_enter Tryz.func97, Tryz.ntmps97
      go_wp2_with fail
      go_ret2
      exact ⟨rfl, rfl⟩
    · have k3 : 244 < c := by omega
      clear h2 h3 h4
      go_enter Tryz.func97, Tryz.ntmps97
      go_wp2_with fail
      go_ret2
      exact ⟨rfl, rfl⟩
end Go.Proofs.YtggfgagokbkplaaGreatDoor
