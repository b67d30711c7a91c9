/- The walks over the document's block and stream. -/
import Derived.Test.YthjkjfoelekeeaaDoorRefG
import Derived.Test.YthjkjfoelekeeaaDoorMathCha
namespace Go.Proofs.YthjkjfoelekeeaaDoor
set_option linter.unusedVariables false
open Go.RowKit

/-- A word of 32 bits as a number of 64. -/
def wv (x : BitVec 32) : Value := .int .u64 (x.toNat : Int)

theorem Seg.word {w : World} {g off n cap : Nat} {l : List (BitVec 32)} (h : Seg w 47 (some ⟨g, off, none⟩) n cap (l.map wv)) (i : Nat) (hi : i < n) :
    w.cell? ⟨g, off + i, none⟩ = some (.int .u64 ((at32 l i).toNat : Int)) ∧ w.frozen? ⟨g, off + i, none⟩ = false := by
  have hl := h.1
  rw [List.length_map] at hl
  obtain ⟨g', off', e, hc, hf⟩ := h.cell i hi
  cases e
  refine ⟨?_, hf⟩
  rw [hc, List.getElem?_map, List.getElem?_eq_getElem (by omega), at32_get l i (by omega)]
  rfl
theorem sum_val (x y : BitVec 32) : ((x.toNat : Int) + (y.toNat : Int)) % 4294967296 = ((x + y).toNat : Int) := by
  rw [BitVec.toNat_add]; omega
theorem xor_val64 (y z : BitVec 32) : bits .xor .u64 (y.toNat : Int) (z.toNat : Int) = ((y ^^^ z).toNat : Int) := by
  rw [u64_xor_nat _ _ (by have := y.isLt; omega) (by have := z.isLt; omega), BitVec.toNat_xor]

end Go.Proofs.YthjkjfoelekeeaaDoor
