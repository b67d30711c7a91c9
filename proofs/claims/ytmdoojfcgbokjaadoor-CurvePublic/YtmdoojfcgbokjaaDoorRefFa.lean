/- The walks over the document's mod, From, Bytes, Add and Mul (field). -/
import Derived.Test.YtmdoojfcgbokjaaDoorRefPg
import Derived.Test.YtmdoojfcgbokjaaDoorMathField
namespace Go.Proofs.YtmdoojfcgbokjaaDoor
set_option linter.unusedVariables false
open Go.RowKit

/-- A number as a row of its digits. -/
structure Dig (w : World) (a : Option Addr) (n cap x : Nat) : Prop where
  ints : Ints w a n (dig x)
  cap : n ≤ cap
theorem Dig.later {w w' : World} {a : Option Addr} {n cap x : Nat} (h : Dig w a n cap x) (hb : Below w.heap.size w w') : Dig w' a n cap x := ⟨h.ints.later hb, h.cap⟩
theorem Dig.len {w : World} {a : Option Addr} {n cap x k : Nat} (h : Dig w a n cap x) (hx : x < 256 ^ k) : n ≤ k := by rw [← h.ints.1]; exact dig_length_le x k hx

set_option maxHeartbeats 400000 in
set_option maxRecDepth 100000 in
theorem refFmod_any (a : Option Addr) (n cap x : Nat) (w : World) (hD : Dig w a n cap x) (hn : n ≤ 5000) :
    Calls Tryd.prog 41 #[.slice a n cap] w fun e w' => ∃ a' n' cap', e = .returned (.slice a' n' cap') ∧ Below w.heap.size w w' ∧ Dig w' a' n' cap' (x % P255) := by
  have HD : Hid (Dig w a n cap x) := hD
  clear hD
  go_enter Tryd.func41, Tryd.ntmps41
  go_wp2_with fail
  refine (refMod_any a n cap (dig x) 31 7 19 w HD.out.ints (dig_lt x) HD.out.cap hn (by omega) (by omega) (by omega) (by omega) (by omega)).mono ?_
  rintro e w' ⟨a', n', c', rfl, hb, hI, hc⟩
  rw [valD_dig, show 2 ^ (8 * 31 + 7) - 19 = P255 from P255_eq.symm] at hI
  have HI : Hid (Dig w' a' n' c' (x % P255)) := ⟨hI, hc⟩
  have HB : Hid (Below w.heap.size w w') := hb
  clear hI hb
  go_wp2
  go_ret
  exact ⟨a', n', c', rfl, HB.out, HI.out⟩
set_option maxHeartbeats 400000 in
set_option maxRecDepth 100000 in
theorem refFfrom_any (a : Option Addr) (cap : Nat) (l : List UInt8) (w : World) (hB : Byt w a 32 l) :
    Calls Tryd.prog 25 #[.slice a 32 cap] w fun e w' => ∃ a' n' cap', e = .returned (.slice a' n' cap') ∧ Below w.heap.size w w' ∧ Dig w' a' n' cap' (leN l % 2 ^ 255 % P255) := by
  have HBy : Hid (Byt w a 32 l) := hB
  have hNb := leN_lt l
  rw [hB.1] at hNb
  clear hB
  go_enter Tryd.func25, Tryd.ntmps25
  go_wp2_with fail
  refine (refNumber_any a 32 cap l w HBy.out (by omega)).mono ?_
  rintro e w1 ⟨a1, n1, c1, rfl, hb1, hI1, hc1⟩
  have HD1 : Hid (Dig w1 a1 n1 c1 (leN l)) := ⟨hI1, hc1⟩
  have hn1 : n1 ≤ 32 := HD1.out.len hNb
  have HB1 : Hid (Below w.heap.size w w1) := hb1
  clear hb1 hI1
  go_wp2_with fail
  refine (refParts_any a1 n1 c1 (dig (leN l)) 31 7 w1 HD1.out.ints (dig_lt _) (by omega) (by omega) (by omega)).mono ?_
  rintro e w2 ⟨a2, n2, c2, a3, n3, c3, rfl, hb2, hI2, hc2, hI3, hc3⟩
  rw [valD_dig] at hI2
  have HD2 : Hid (Dig w2 a2 n2 c2 (leN l % 2 ^ 255)) := ⟨hI2, hc2⟩
  have hn2 : n2 ≤ 32 := HD2.out.len (Nat.lt_of_le_of_lt (Nat.mod_le _ _) hNb)
  have HB2 : Hid (Below w.heap.size w w2) := HB1.out.trans (hb2.mono HB1.out.size)
  clear hb2 hI2 hI3 HD1 HB1
  go_wp2_with fail
  refine (refFmod_any a2 n2 c2 _ w2 HD2.out (by omega)).mono ?_
  rintro e w3 ⟨a4, n4, c4, rfl, hb4, hD4⟩
  have HB4 : Hid (Below w.heap.size w w3) := HB2.out.trans (hb4.mono HB2.out.size)
  have HD4 : Hid _ := hD4
  clear hD4 hb4
  go_wp2
  go_ret
  exact ⟨a4, n4, c4, rfl, HB4.out, HD4.out⟩
set_option maxHeartbeats 400000 in
set_option maxRecDepth 100000 in
theorem refFbytes_any (a : Option Addr) (n cap x : Nat) (w : World) (hD : Dig w a n cap x) (hn : n ≤ 5000) :
    Calls Tryd.prog 27 #[.slice a n cap] w fun e w' => ∃ g, e = .returned (.slice (some ⟨g, 0, none⟩) 32 32) ∧ w.heap.size ≤ g ∧ Below w.heap.size w w' ∧ Byt w' (some ⟨g, 0, none⟩) 32 (leB 32 x) := by
  have HD : Hid (Dig w a n cap x) := hD
  clear hD
  go_enter Tryd.func27, Tryd.ntmps27
  go_wp2_with fail
  refine (refBytes_any a n cap 32 x w HD.out.ints (by omega) (by omega)).mono ?_
  rintro e w' ⟨g, rfl, hg, hb, hB⟩
  have H : Hid (w.heap.size ≤ g ∧ Below w.heap.size w w' ∧ Byt w' (some ⟨g, 0, none⟩) 32 (leB 32 x)) := ⟨hg, hb, hB⟩
  clear hg hb hB
  go_wp2
  go_ret
  exact ⟨g, rfl, H.out⟩
set_option maxHeartbeats 400000 in
set_option maxRecDepth 100000 in
theorem refFadd_any (a : Option Addr) (n cap x : Nat) (b : Option Addr) (m capb y : Nat) (w : World) (hA : Dig w a n cap x) (hB : Dig w b m capb y) (hx : x < 256 ^ 33) (hy : y < 256 ^ 33) :
    Calls Tryd.prog 42 #[.slice a n cap, .slice b m capb] w fun e w' => ∃ a' n' cap', e = .returned (.slice a' n' cap') ∧ Below w.heap.size w w' ∧ Dig w' a' n' cap' ((x + y) % P255) := by
  have HA : Hid (Dig w a n cap x) := hA
  have HB : Hid (Dig w b m capb y) := hB
  have hn := hA.len hx
  have hm := hB.len hy
  clear hA hB
  go_enter Tryd.func42, Tryd.ntmps42
  go_wp2_with fail
  refine (refPlus_any a n cap (dig x) b m capb (dig y) w HA.out.ints HB.out.ints (dig_lt x) (dig_lt y) (by omega) (by omega)).mono ?_
  rintro e w1 ⟨a1, n1, c1, rfl, hb1, hI1, hc1⟩
  rw [valD_dig, valD_dig] at hI1
  have HD1 : Hid (Dig w1 a1 n1 c1 (x + y)) := ⟨hI1, hc1⟩
  have hn1 : n1 ≤ 34 := HD1.out.len (by have : (256 : Nat) ^ 34 = 256 ^ 33 * 256 := Nat.pow_succ 256 33; omega)
  have HB1 : Hid (Below w.heap.size w w1) := hb1
  clear hb1 hI1
  go_wp2_with fail
  refine (refFmod_any a1 n1 c1 _ w1 HD1.out (by omega)).mono ?_
  rintro e w3 ⟨a4, n4, c4, rfl, hb4, hD4⟩
  have HB4 : Hid (Below w.heap.size w w3) := HB1.out.trans (hb4.mono HB1.out.size)
  have HD4 : Hid _ := hD4
  clear hD4 hb4
  go_wp2
  go_ret
  exact ⟨a4, n4, c4, rfl, HB4.out, HD4.out⟩
set_option maxHeartbeats 400000 in
set_option maxRecDepth 100000 in
theorem refFmul_any (a : Option Addr) (n cap x : Nat) (b : Option Addr) (m capb y : Nat) (w : World) (hA : Dig w a n cap x) (hB : Dig w b m capb y) (hx : x < 256 ^ 33) (hy : y < 256 ^ 33) :
    Calls Tryd.prog 28 #[.slice a n cap, .slice b m capb] w fun e w' => ∃ a' n' cap', e = .returned (.slice a' n' cap') ∧ Below w.heap.size w w' ∧ Dig w' a' n' cap' (x * y % P255) := by
  have HA : Hid (Dig w a n cap x) := hA
  have HB : Hid (Dig w b m capb y) := hB
  have hn := hA.len hx
  have hm := hB.len hy
  clear hA hB
  go_enter Tryd.func28, Tryd.ntmps28
  go_wp2_with fail
  refine (refTimes_any a n cap (dig x) b m capb (dig y) w HA.out.ints HB.out.ints (dig_lt x) (dig_lt y) (by omega) (by omega)).mono ?_
  rintro e w1 ⟨a1, n1, c1, rfl, hb1, hI1, hc1⟩
  rw [valD_dig, valD_dig] at hI1
  have HD1 : Hid (Dig w1 a1 n1 c1 (x * y)) := ⟨hI1, hc1⟩
  have hn1 : n1 ≤ 66 := HD1.out.len (by have : (256 : Nat) ^ 66 = 256 ^ 33 * 256 ^ 33 := Nat.pow_add 256 33 33; rw [this]; exact Nat.mul_lt_mul_of_lt_of_le hx (Nat.le_of_lt hy) (Nat.pow_pos (by decide)))
  have HB1 : Hid (Below w.heap.size w w1) := hb1
  clear hb1 hI1
  go_wp2_with fail
  refine (refFmod_any a1 n1 c1 _ w1 HD1.out (by omega)).mono ?_
  rintro e w3 ⟨a4, n4, c4, rfl, hb4, hD4⟩
  have HB4 : Hid (Below w.heap.size w w3) := HB1.out.trans (hb4.mono HB1.out.size)
  have HD4 : Hid _ := hD4
  clear hD4 hb4
  go_wp2
  go_ret
  exact ⟨a4, n4, c4, rfl, HB4.out, HD4.out⟩
end Go.Proofs.YtmdoojfcgbokjaaDoor
