/- AeadShort: fewer bytes than a tag are refused. For every key, nonce and two rows of bytes, without a condition. -/
import Derived.Test.YtcnihgjibiidpaaAeadShown
namespace Go.Proofs.Ytcnihgjibiidpaa.aeadShort
open Go.ChangeShapes Go.WideShapes Go.ChangeAt Go.RowKit
set_option linter.unusedVariables false

set_option maxHeartbeats 4000000 in
set_option maxRecDepth 100000 in
theorem walk (l0 : List UInt8) (l1 : List UInt8) (a2 : Option Addr) (len2 cap2 : Nat) (z2 : List Int) (a3 : Option Addr) (len3 cap3 : Nat) (z3 : List Int) (w : World) (w0 : l0.length = 32) (w1 : l1.length = 12) (w2 : IsRow .u8 w a2 len2 cap2 z2) (w3 : IsRow .u8 w a3 len3 cap3 z3) :
    Calls Try.prog 12 #[.agg (l0.map bv).toArray, .agg (l1.map bv).toArray, .slice a2 len2 cap2, .slice a3 len3 cap3] w fun e w' => e = .returned (.bool true) ∧ Below w.heap.size w w' := by
  have hnil2 := row_nil w2
  obtain ⟨ad, la, hnE20, hn1a, hn2a, hnca, hncma, hBma⟩ := cut_row w2 200
  have hnEa : (if (200 : Int) < (len2 : Int) then (200 : Int) else (len2 : Int)) = (la : Int) := hnE20
  have hlma := hBma.1
  have HB0a : Hid (Byt w a2 la ad) := hBma
  clear hnE20 w2 hBma
  have hnil3 := row_nil w3
  obtain ⟨m, n, hnE30, hn1b, hn2b, hncb, hncmb, hBmb⟩ := cut_row w3 15
  have hnEb : (if (15 : Int) < (len3 : Int) then (15 : Int) else (len3 : Int)) = (n : Int) := hnE30
  have hlmb := hBmb.1
  have HB0b : Hid (Byt w a3 n m) := hBmb
  clear hnE30 w3 hBmb
  have IK : (Try.prog.info? 23).map (·.size) = some 32 := by kernel_rfl
  have hIK : Hid ((Try.prog.info? 23).map (·.size) = some (l0.map bv).toArray.size) := info_size IK l0 w0
  have II : (Try.prog.info? 40).map (·.size) = some 12 := by kernel_rfl
  have hII : Hid ((Try.prog.info? 40).map (·.size) = some (l1.map bv).toArray.size) := info_size II l1 w1
  clear IK II
  go_enter Try.func12, Try.ntmps12
  go_wp2_with fail
  refine (aeadShown_any _).mono ?_
  rintro e w4 ⟨rfl, hb4⟩
  have hbel0 : Below w.heap.size w ((w.alloc (.cells (l0.map bv).toArray 23)).alloc (.cells (l1.map bv).toArray 40)) := ((Below.refl _ _).alloc (Nat.le_refl _) _).alloc (by simp) _
  have HK4 : Hid (Arr w4 w.heap.size 23 l0) := ((Arr.new w _ l0).later ((Below.refl _ _).alloc (Nat.le_refl _) _)).later hb4
  have HI4 : Hid (Arr w4 (w.heap.size + 1) 40 l1) := by
    have := Arr.new (w.alloc (.cells (l0.map bv).toArray 23)) 40 l1
    rw [World.size_alloc] at this
    exact this.later hb4
  have HW4 : Hid (Below w.heap.size w w4) := hbel0.trans (hb4.mono hbel0.size)
  clear hb4 hbel0
  go_wp2_with (first | refine wpList_load_row rfl 23 _ rfl w.heap.size rfl 23 _ (0, 0) _ HK4.out Try.underlying23 rfl hIK.out ?_ | refine wpList_load_row rfl 40 _ rfl (w.heap.size + 1) rfl 40 _ (0, 0) _ HI4.out Try.underlying40 rfl hII.out ?_)
  refine (open_no l0 l1 a2 la cap2 ad a3 n cap3 m _ w0 w1 (HB0a.out.later HW4.out) hnil2 (by omega) (by omega) hncma (HB0b.out.later HW4.out) hnil3 (by omega) (by omega) hncmb (short_no _ _ _ _ (by omega))).mono ?_
  rintro e w5 ⟨a5, c5, rfl, hb5⟩
  have HW5 : Hid (Below w.heap.size w w5) := HW4.out.trans (hb5.mono HW4.out.size)
  clear hb5 HW4 HK4 HI4
  go_wp2
  go_ret
  exact ⟨rfl, HW5.out⟩
end Go.Proofs.Ytcnihgjibiidpaa.aeadShort
