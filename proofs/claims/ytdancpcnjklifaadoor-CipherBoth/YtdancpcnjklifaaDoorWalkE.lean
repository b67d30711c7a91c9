/- The walks over words.NewQueue, Push, Pop and Len: a queue is what was pushed and not yet popped. -/
import Derived.Test.YtdancpcnjklifaaDoorBase
import Derived.Deep.QuietTactic
import Derived.BigQuiet
namespace Go.Proofs.YtdancpcnjklifaaDoor
set_option maxRecDepth 100000
open Go.RowKit

def qiv (x : Int) : Value := .int .i64 x
/-- What a call on a queue leaves alone. -/
structure Fr (w w' : World) (qb : Nat) (a a' : Option Addr) : Prop where
  os : w'.os = w.os
  tape : w'.tape = w.tape
  output : w'.output = w.output
  size : w.heap.size ≤ w'.heap.size
  block : ∀ j, j < w.heap.size → j ≠ qb → some j ≠ blockOf a → w'.heap[j]? = w.heap[j]?
  fresh : blockOf a' = blockOf a ∨ ∀ j, blockOf a' = some j → w.heap.size ≤ j
theorem Fr.below {w w' : World} {qb : Nat} {a a' : Option Addr} (h : Fr w w' qb a a') {B : Nat} (hB : B ≤ w.heap.size) (hq : B ≤ qb) (ha : ∀ j, blockOf a = some j → B ≤ j) : Below B w w' :=
  ⟨h.os, h.tape, h.output, h.size, fun j hj => h.block j (by omega) (by omega) (by intro e; have := ha j e.symm; omega)⟩
theorem Tryd.infoInt : (Tryd.prog.info? 3).map (fun i => (i.zero, i.size, i.bytes)) = some (some (.int .i64 0), 1, 8) := by kernel_rfl

theorem drewN_heap (w : World) (n : Nat) : (w.drewN n).heap = w.heap := rfl
theorem Seg.drewN {w : World} {e : TypeId} {a : Option Addr} {n cap : Nat} {vs : List Value} (h : Seg w e a n cap vs) (k : Nat) : Seg (w.drewN k) e a n cap vs := h.kept fun g _ => by rw [drewN_heap]
theorem below_drewN {B : Nat} {w0 w : World} (h : Below B w0 w) (n : Nat) : Below B w0 (w.drewN n) := ⟨h.os, h.tape, h.output, h.size, h.block⟩
theorem Fr.drewN (w : World) (n qb : Nat) (a : Option Addr) : Fr w (w.drewN n) qb a a :=
  have h := below_drewN (Below.refl w.heap.size w) n
  ⟨h.os, h.tape, h.output, h.size, fun j _ _ _ => by rw [drewN_heap], .inl rfl⟩

end Go.Proofs.YtdancpcnjklifaaDoor
