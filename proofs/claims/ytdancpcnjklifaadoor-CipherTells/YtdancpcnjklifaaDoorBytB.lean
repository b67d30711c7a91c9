/- Bytes stay where another block is written. -/
import Derived.Test.YtdancpcnjklifaaDoorBase
namespace Go.Proofs.YtdancpcnjklifaaDoor
set_option linter.unusedVariables false
set_option maxRecDepth 100000
open Go.RowKit

theorem byt_but {w w' : World} {a : Option Addr} {len g : Nat} {l : List UInt8} (h : Byt w a len l) (hG : w.grownBy w' (some g)) (hne : ∀ b o f, a = some ⟨b, o, f⟩ → b ≠ g) : Byt w' a len l := by
  refine ⟨h.1, ?_⟩
  rcases h.2 with h0 | ⟨b, off, rfl, hc⟩
  · exact .inl h0
  · exact .inr ⟨b, off, rfl, fun i hi => hG.cell (hc i hi) (fun e => hne b off none rfl (by cases e; rfl))⟩

theorem byt_new {w w' : World} {a : Option Addr} {len g B : Nat} {l : List UInt8} (h : Byt w a len l) (hG : w.grownBy w' (some g)) (hB : ∀ j, blockOf a = some j → B ≤ j) (hg : g < B) : Byt w' a len l :=
  byt_but h hG fun b o f e he => by
    have := hB b (by rw [e]; rfl)
    omega
theorem below_but {w W W' : World} {g : Nat} (h : Below w.heap.size w W) (hG : W.grownBy W' (some g)) (hg : w.heap.size ≤ g) : Below w.heap.size w W' :=
  h.trans ⟨hG.os, hG.tape, hG.output, hG.size, fun k hk => hG.block k (by have := h.size; omega) (fun e => by cases e; omega)⟩
theorem byt_rowb {w w' : World} {a : Option Addr} {len : Nat} {r : Option Nat} {l : List UInt8} (h : Byt w a len l) (hG : w.grownBy w' r) (hne : ∀ b, blockOf a = some b → r ≠ some b) : Byt w' a len l := by
  refine ⟨h.1, ?_⟩
  rcases h.2 with h0 | ⟨b, off, rfl, hc⟩
  · exact .inl h0
  · exact .inr ⟨b, off, rfl, fun i hi => hG.cell (hc i hi) (fun e => hne b rfl e.symm)⟩
theorem below_row {w W W' : World} {r : Option Nat} (h : Below w.heap.size w W) (hG : W.grownBy W' r) (hg : ∀ g, r = some g → w.heap.size ≤ g) : Below w.heap.size w W' :=
  h.trans ⟨hG.os, hG.tape, hG.output, hG.size, fun k hk => hG.block k (by have := h.size; omega) (fun e => by have := hg k e.symm; omega)⟩
end Go.Proofs.YtdancpcnjklifaaDoor
