/- What the laws of cipher share: a changed tag, rows that came in. -/
import Derived.Test.YtdancpcnjklifaaDoorMathX
import Derived.Test.YtdancpcnjklifaaDoorBase
import Derived.Test.YtdancpcnjklifaaDoorFrameB
namespace Go.Proofs.YtdancpcnjklifaaDoor
set_option linter.unusedVariables false
set_option maxRecDepth 100000
open Go.ChangeShapes Go.WideShapes Go.ChangeAt Go.RowKit

/-- A row that came in and is nil has no room. -/
theorem cip_nil {w : World} {a : Option Addr} {len cap : Nat} {zs : List Int} (h : IsRow .u8 w a len cap zs) : a = none → cap = 0 := fun e => by
  rcases h with ⟨_, _, h1, _⟩ | ⟨x, e2, _⟩
  · exact h1
  · rw [e] at e2; cases e2
/-- One byte of the tag as another one: it is not the tag. -/
theorem cip_changed (key nonce ad b : List UInt8) (k : Nat) (x : UInt8) (h1 : b.length ≤ k) (h2 : k < b.length + 16) (hx : x ≠ at8 (sealB key nonce ad b) k) : sealedB key nonce ad ((sealB key nonce ad b).set k x) = false := by
  refine sealedB_no _ _ _ _ fun hs => ?_
  have hl := sealB_length key nonce ad b
  have h3 := hs.2
  rw [List.length_set, hl, Nat.add_sub_cancel, List.take_set_of_le h1, sealB_take] at h3
  have h4 : at8 (((sealB key nonce ad b).set k x).drop b.length) (k - b.length) = at8 (aeadTag key nonce ad (stm key 1#32 nonce b)) (k - b.length) := by rw [h3]
  rw [← sealB_drop] at h4
  have e1 : ∀ L : List UInt8, at8 (L.drop b.length) (k - b.length) = at8 L k := fun L => by
    simp [at8, show b.length + (k - b.length) = k by omega]
  rw [e1, e1] at h4
  have e2 : at8 ((sealB key nonce ad b).set k x) k = x := by simp [at8, show k < (sealB key nonce ad b).length by omega]
  rw [e2] at h4
  exact hx h4
theorem cip_xor1 (c : UInt8) : ∃ d : UInt8, bits .xor .u8 (c.toNat : Int) 1 = (d.toNat : Int) ∧ d ≠ c := by
  have h : ∀ n : Fin 256, bits .xor .u8 ((n.val : Nat) : Int) 1 = (((n.val / 2 * 2 + (1 - n.val % 2)) : Nat) : Int) := by decide +kernel
  have hc := c.toNat_lt
  have h1 := h ⟨c.toNat, hc⟩
  refine ⟨UInt8.ofNat (c.toNat / 2 * 2 + (1 - c.toNat % 2)), ?_, ?_⟩
  · rw [UInt8.toNat_ofNat', Nat.mod_eq_of_lt (by omega)]
    exact h1
  · intro e
    have := congrArg UInt8.toNat e
    rw [UInt8.toNat_ofNat', Nat.mod_eq_of_lt (by omega)] at this
    omega

end Go.Proofs.YtdancpcnjklifaaDoor
