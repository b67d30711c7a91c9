/- WordsCrc: a sum over bytes is what the document says. For every row of bytes, without a condition. -/
import Derived.Test.YtompbbjoniggfaaRefs
namespace Go.Proofs.Ytompbbjoniggfaa.wordsCrc
open Go.ChangeShapes Go.WideShapes Go.ChangeAt Go.RowKit
set_option linter.unusedVariables false

set_option maxHeartbeats 400000 in
theorem walk (a0 : Option Addr) (len0 cap0 : Nat) (z0 : List Int) (w : World) (w0 : IsRow .u8 w a0 len0 cap0 z0) :
    Calls Try.prog 5 #[.slice a0 len0 cap0] w fun e w' => e = .returned (.bool true) ∧ Below w.heap.size w w' := by
  obtain ⟨l, m, hmE0, hm1, hm2, hlc, hcm, hB⟩ := cut_row w0 500
  have hmE : (if (500 : Int) < (len0 : Int) then (500 : Int) else (len0 : Int)) = (m : Int) := hmE0
  clear hmE0
  have hm3 : m ≤ maxLen := by unfold maxLen; omega
  go_enter Try.func5, Try.ntmps5
  go_wp2_with fail
  refine (shown_any _).mono ?_
  rintro e w3 ⟨rfl, hb⟩
  have hB3 := hB.later hb
  go_wp2_with fail
  refine (crc_any a0 m cap0 l w3 hB3 hm3).mono ?_
  rintro e w4 ⟨rfl, rfl⟩
  go_wp2_with fail
  refine (refCrc_any a0 m cap0 l w4 hB3 hm3).mono ?_
  rintro e w5 ⟨rfl, rfl⟩
  go_wp2
  go_ret
  exact ⟨rfl, hb⟩
end Go.Proofs.Ytompbbjoniggfaa.wordsCrc
