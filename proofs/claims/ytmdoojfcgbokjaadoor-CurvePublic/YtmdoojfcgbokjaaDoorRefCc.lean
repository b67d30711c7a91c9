/- The walk over the document's Public (curve), and what its Mult tells as a number. -/
import Derived.Test.YtmdoojfcgbokjaaDoorRefCb
import Derived.Test.YtmdoojfcgbokjaaDoorMathMult
import Derived.Test.YtmdoojfcgbokjaaDoorArrB
namespace Go.Proofs.YtmdoojfcgbokjaaDoor
set_option linter.unusedVariables false
open Go.RowKit

theorem refMult_told (ka : Option Addr) (kc : Nat) (k : List UInt8) (ub : Option Addr) (uc : Nat) (ul : List UInt8) (w : World) (hK : Byt w ka 32 k) (hU : Byt w ub 32 ul) :
    Calls Tryd.prog 14 #[.slice ka 32 kc, .slice ub 32 uc] w fun e w' => ∃ g, e = .returned (.slice (some ⟨g, 0, none⟩) 32 32) ∧ Below w.heap.size w w' ∧ Byt w' (some ⟨g, 0, none⟩) 32 (leB 32 (mK k ul)) := by
  refine (refMult_any ka kc k ub uc ul w hK hU).mono ?_
  rintro e w' ⟨g, m, rfl, _, hb, hm, hB, hX⟩
  rw [mX_eq hm hX] at hB
  exact ⟨g, rfl, hb, hB⟩
def nineD : List UInt8 := 9 :: List.replicate 31 0
theorem nineD_val : modU nineD = 9 := by decide +kernel

/-- 'make([]byte, n)', as a block of its own. -/
theorem make_row (w : World) (n : Nat) (h : n ≤ 2000000) :
    (Instr.makeSlice 29 (.int .i64 (n : Int)) (.int .i64 (n : Int))).run Tryd.prog w = .ok (.slice (some ⟨w.heap.size, 0, none⟩) n n) (w.alloc (.cells ((List.replicate n (0 : UInt8)).map bv).toArray 5)) := by
  obtain ⟨i0, hi, hz0, hz1, hz2⟩ := info_parts Tryd.infoU8
  have hr := run_make (P := Tryd.prog) w 29 5 i0 (.int .u8 0) Tryd.underlying29 hi hz0 .i64 .i64 (n : Int) (n : Int) (by omega) (by omega) (by rw [hz2]; omega) (by omega)
  have e1 : ((n : Int)).toNat = n := by omega
  rw [e1, hz1, Nat.mul_one] at hr
  have e : (madeCells (Value.int .u8 0).cells n).toList = List.replicate n (.int .u8 0) := toList_madeCells_one _ _
  have e2 : madeCells (Value.int .u8 0).cells n = ((List.replicate n (0 : UInt8)).map bv).toArray := by
    rw [← Array.toList_inj, e]
    simp [bv]
  rw [e2] at hr
  exact hr

set_option maxHeartbeats 4000000 in
set_option maxRecDepth 100000 in
theorem refPublic_any (ka : Option Addr) (kc : Nat) (k : List UInt8) (w : World) (hK : Byt w ka 32 k) :
    Calls Tryd.prog 16 #[.slice ka 32 kc] w fun e w' => ∃ g, e = .returned (.slice (some ⟨g, 0, none⟩) 32 32) ∧ Below w.heap.size w w' ∧ Byt w' (some ⟨g, 0, none⟩) 32 (leB 32 (mX (clampK (leN k)) 9)) := by
  have hmk : (Instr.makeSlice 29 (.int .i64 32) (.int .i64 32)).run Tryd.prog w = .ok (.slice (some ⟨w.heap.size, 0, none⟩) 32 32) (w.alloc (.cells ((List.replicate 32 (0 : UInt8)).map bv).toArray 5)) := make_row w 32 (by omega)
  have hb1 : Below w.heap.size w (w.alloc (.cells ((List.replicate 32 (0 : UInt8)).map bv).toArray 5)) := (Below.refl _ _).alloc (Nat.le_refl _) _
  have hA1 : Arr (w.alloc (.cells ((List.replicate 32 (0 : UInt8)).map bv).toArray 5)) w.heap.size 5 (List.replicate 32 0) := Arr.new w _ _
  obtain ⟨W1, hW1⟩ : ∃ W, w.alloc (.cells ((List.replicate 32 (0 : UInt8)).map bv).toArray 5) = W := ⟨_, rfl⟩
  rw [hW1] at hmk hb1 hA1
  obtain ⟨c0, f0⟩ := hA1.at_ 0 (by decide)
  have hA2 := hA1.set 0 9
  have hb2 := hb1.setCell (p := ⟨w.heap.size, 0, none⟩) (Nat.le_refl _) (.int .u8 9)
  have HA : Hid (Arr (W1.setCell ⟨w.heap.size, 0, none⟩ (.int .u8 9)) w.heap.size 5 nineD) := hA2
  have HW : Hid (Below w.heap.size w (W1.setCell ⟨w.heap.size, 0, none⟩ (.int .u8 9))) := hb2
  have HK : Hid (Byt w ka 32 k) := hK
  clear hK hb1 hA1 hA2 hb2 hW1
  go_enter Tryd.func16, Tryd.ntmps16
  go_wp2_with fail
  refine (refMult_told ka kc k (some ⟨w.heap.size, 0, none⟩) 32 nineD _ (HK.out.later HW.out) (HA.out.byt 32 rfl)).mono ?_
  rintro e V ⟨g, rfl, hb, hB⟩
  have HB : Hid (Byt V (some ⟨g, 0, none⟩) 32 (leB 32 (mX (clampK (leN k)) 9))) := by rw [mK, nineD_val] at hB; exact hB
  have HV : Hid (Below w.heap.size w V) := HW.out.trans (hb.mono HW.out.size)
  clear hb hB hmk c0 f0
  go_wp2
  go_ret
  exact ⟨g, rfl, HV.out, HB.out⟩
end Go.Proofs.YtmdoojfcgbokjaaDoor
