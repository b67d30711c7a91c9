/- The walk over what must be in any case (blake). -/
import Derived.Test.YtdancpcnjklifaaDoorBlkX
import Derived.Test.YtdancpcnjklifaaDoorBlkEv
import Derived.Test.YtdancpcnjklifaaDoorShown
import Derived.Test.YtdancpcnjklifaaDoorBase
import Derived.Lib.SlBytesConst
namespace Go.Proofs.YtdancpcnjklifaaDoor
set_option linter.unusedVariables false
set_option maxRecDepth 100000
open Go.RowKit

/-- A row that came in and is nil has no room. -/
theorem brow_nil {w : World} {a : Option Addr} {len cap : Nat} {zs : List Int} (h : IsRow .u8 w a len cap zs) : a = none → cap = 0 := fun e => by
  rcases h with ⟨_, _, h1, _⟩ | ⟨x, e2, _⟩
  · exact h1
  · rw [e] at e2; cases e2
theorem Tab.alloc {w : World} (h : Tab w) (o : Obj) : Tab (w.alloc o) := h.later ((Below.refl _ _).alloc (Nat.le_refl _) _)
/-- A key, held against one of 0s. -/
theorem key_zero (w : World) (X : List UInt8) (hX : X.length = 32) : (Op.equalIn 10000 23 (.agg (X.map bv).toArray) (.agg #[.int .u8 0, .int .u8 0, .int .u8 0, .int .u8 0, .int .u8 0, .int .u8 0, .int .u8 0, .int .u8 0, .int .u8 0, .int .u8 0, .int .u8 0, .int .u8 0, .int .u8 0, .int .u8 0, .int .u8 0, .int .u8 0, .int .u8 0, .int .u8 0, .int .u8 0, .int .u8 0, .int .u8 0, .int .u8 0, .int .u8 0, .int .u8 0, .int .u8 0, .int .u8 0, .int .u8 0, .int .u8 0, .int .u8 0, .int .u8 0, .int .u8 0, .int .u8 0])).run Tryd.prog w = .ok (decide (X = List.replicate 32 0)) w :=
  arr_eq w 23 32 X (List.replicate 32 0) hX rfl Tryd.underlying23
end Go.Proofs.YtdancpcnjklifaaDoor
