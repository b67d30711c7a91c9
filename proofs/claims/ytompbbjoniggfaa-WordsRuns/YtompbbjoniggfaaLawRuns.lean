/- WordsRuns: a sum over bytes, and the four bytes of it behind them, the lowest first, is one and the same. For every row of bytes, without a condition. -/
import Derived.Test.YtompbbjoniggfaaRefs
namespace Go.Proofs.Ytompbbjoniggfaa.wordsRuns
open Go.ChangeShapes Go.WideShapes Go.ChangeAt Go.RowKit
set_option linter.unusedVariables false

theorem low_bytes (v : BitVec 32) : putB 4 v.toNat false = [low v, low (v >>> 8), low (v >>> 16), low (v >>> 24)] := by
  simp [putB, leB, low, BitVec.toNat_ushiftRight, Nat.shiftRight_eq_div_pow, Nat.div_div_eq_div_mul]
theorem crc_put (l : List UInt8) : ((crcOf (l ++ putB 4 (crcOf l).toNat false)).toNat : Int) = 558161692 := by
  rw [low_bytes, crc_self]; decide

set_option maxHeartbeats 400000 in
theorem walk (a0 : Option Addr) (len0 cap0 : Nat) (z0 : List Int) (w : World) (w0 : IsRow .u8 w a0 len0 cap0 z0) :
    Calls Try.prog 11 #[.slice a0 len0 cap0] w fun e w' => e = .returned (.bool true) ∧ Below w.heap.size w w' := by
  obtain ⟨l, m, hmE0, hm1, hm2, hlc, hcm, hB⟩ := cut_row w0 500
  have hmE : (if (500 : Int) < (len0 : Int) then (500 : Int) else (len0 : Int)) = (m : Int) := hmE0
  clear hmE0
  have hm3 : m ≤ maxLen := by unfold maxLen; omega
  have hk := crc_put l
  obtain ⟨v, hv⟩ : ∃ v, crcOf l = v := ⟨_, rfl⟩
  rw [hv] at hk
  have hlt := v.isLt
  go_enter Try.func11, Try.ntmps11
  go_wp2_with fail
  refine (shown_any _).mono ?_
  rintro e w3 ⟨rfl, hb⟩
  have hB3 := hB.later hb
  go_wp2_with fail
  refine (crc_any a0 m cap0 l w3 hB3 hm3).mono ?_
  rintro e w4 ⟨rfl, rfl⟩
  rw [hv]
  clear hv
  go_wp2_with fail
  refine (put_any a0 m cap0 4 v.toNat false l w4 (by omega) hB3 4 (by decide)).mono ?_
  rintro e w5 ⟨g5, rfl, hg5, hb5, hB5⟩
  have hb6 : Below w.heap.size w w5 := hb.trans (hb5.mono hb.size)
  clear hb hb5
  go_wp2_with fail
  refine (crc_any (some ⟨g5, 0, none⟩) (m + 4) (m + 4) _ w5 hB5 (by unfold maxLen; omega)).mono ?_
  rintro e w6 ⟨rfl, rfl⟩
  rw [hk]
  go_wp2
  go_ret
  exact ⟨rfl, hb6⟩
end Go.Proofs.Ytompbbjoniggfaa.wordsRuns
