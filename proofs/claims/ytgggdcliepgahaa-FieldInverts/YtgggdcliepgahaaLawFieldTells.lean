/- FieldTells. For every two keys, without a condition. -/
import Derived.Test.YtgggdcliepgahaaFieldShown
import Derived.Test.YtgggdcliepgahaaRefFb
namespace Go.Proofs.Ytgggdcliepgahaa
open Go.RowKit
set_option linter.unusedVariables false
set_option maxHeartbeats 1000000 in
set_option maxRecDepth 100000 in
theorem ftext_any (l : List UInt8) (w : World) (hl : l.length = 32) : Calls Try.prog 12 #[.agg (l.map bv).toArray] w fun e w' => e = .returned (.string (S l)) ∧ Below w.heap.size w w' := by
  have hc := conv_bytes (w.alloc (.cells (l.map bv).toArray 23)) (some ⟨w.heap.size, 0, none⟩) 32 32 l ((Arr.new w 23 l).byt 32 hl)
  go_enter Try.func12, Try.ntmps12
  go_wp2
  go_ret
  exact ⟨rfl, (Below.refl _ _).alloc (Nat.le_refl _) _⟩
end Go.Proofs.Ytgggdcliepgahaa
namespace Go.Proofs.Ytgggdcliepgahaa.fieldTells
open Go.ChangeShapes Go.WideShapes Go.ChangeAt Go.RowKit
set_option linter.unusedVariables false

theorem lt33 {x : Nat} (h : x < P255) : x < 256 ^ 33 := Nat.lt_trans h (by decide)
theorem len33 {w : World} {a : Option Addr} {n cap x : Nat} (h : Dig w a n cap x) (hx : x < P255) : n ≤ 5000 := Nat.le_trans (h.len (lt33 hx)) (by decide)

end Go.Proofs.Ytgggdcliepgahaa.fieldTells
