/- Package variables out of the condition of a row that lists them. No program is named here. -/
import Derived.Test.YtmdoojfcgbokjaaDoorRows
import Derived.Test.YtmdoojfcgbokjaaDoorBase
import Derived.ProofKit
import Derived.LaidMore
import Derived.OpenShut
import Derived.Stop.Joined
namespace Go.Proofs.YtmdoojfcgbokjaaDoor
set_option linter.unusedVariables false
open Go.ChangeShapes Go.WideShapes Go.ChangeAt Go.RowKit

/-- An array of integers, read as known ones. -/
theorem laid_ints {H : Type} {enc : TypeId × Value → H} {P : Program} {W : World} {base : Nat} {sp : Nat → Bool} {held : Bool} {fuel n : Nat} {t e : TypeId} {k : IntKind} {cs : List Value} {d : DataW H} {p : List MemPlace}
    (ht : P.underlying t = some (.array n e)) (he : P.underlying e = some (.int k)) (hc : P.cellsOf e = 1) (hct : P.cellsOf t = n) (h : DataW.trod enc P W base sp held fuel t cs = some (d, p)) (zs : List Int) (hd : d = .agg (zs.map fun z => .lit (.int k z))) :
    cs = zs.map fun z => .int k z := by
  obtain ⟨xs, m, rfl, hx, hlen, hn, hel⟩ := DataW.trod_array ht h
  simp only [Prod.mk.injEq] at hx
  have hx1 := hx.1
  rw [hd, DataW.agg.injEq] at hx1
  have hl : zs.length = n := by
    have := congrArg List.length hx1
    simpa [hn] using this
  apply List.ext_getElem
  · simp [hl, hlen, hct]
  · intro i h1 h2
    have hi : i < n := by simp at h2; omega
    have he1 := hel i hi
    rw [hc, Nat.mul_one, List.getElem?_eq_getElem (by omega)] at he1
    obtain ⟨z, e1, e2, _⟩ := DataW.trod_int he he1
    have e3 : cs[i] = .int k z := by
      have := congrArg (fun l : List Value => l[0]?) e1
      simpa [List.getElem?_take, List.getElem?_drop, h1] using this
    have e4 : (DataW.lit (.int k (zs[i]'(by omega))) : DataW H) = (xs[i]'(by omega)).1 := by
      have := congrArg (fun l : List (DataW H) => l[i]?) hx1
      simpa [show i < zs.length by omega, show i < xs.length by omega] using this
    rw [e2] at e4
    have e5 : zs[i]'(by omega) = z := by simpa using e4
    rw [e3]
    simp [e5]
theorem laid_row {P : Program} {w : World} {n : String} {g : Nat} {cs : Array Value} (hg : P.globalNamed n = some g) (h : w.var? P n = some cs) : ∃ t fr, w.heap[g]? = some (.cells cs t fr) := by
  simp only [World.var?, hg, Option.bind_some] at h
  split at h
  · rename_i hh
    cases h
    exact ⟨_, _, hh⟩
  · cases h
end Go.Proofs.YtmdoojfcgbokjaaDoor
