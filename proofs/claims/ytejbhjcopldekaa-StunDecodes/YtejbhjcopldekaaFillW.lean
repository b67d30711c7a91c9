/- How a struct is built of parts. No program is named here. -/
import Derived.Test.YtejbhjcopldekaaTools
import Derived.Great.BuildSlice
namespace Go.Proofs.Ytejbhjcopldekaa
set_option linter.unusedVariables false
set_option maxRecDepth 100000
open Go.RowKit

/-- A part of a struct, laid into its place. -/
theorem fold_put (off : Nat) : ∀ (vs : List Value) (k : Nat) (cells : Array Value), off + k + vs.length ≤ cells.size →
    (vs.zipIdx k).foldl (fun cs (x : Value × Nat) => cs.setIfInBounds (off + x.2) x.1) cells = (cells.toList.take (off + k) ++ vs ++ cells.toList.drop (off + k + vs.length)).toArray
  | [], k, cells, h => by simp
  | v :: vs, k, cells, h => by
    rw [List.zipIdx_cons, List.foldl_cons, fold_put off vs (k + 1) _ (by simp at h ⊢; omega)]
    have hlt : off + k < cells.toList.length := by simp at h ⊢; omega
    have e1 : (cells.setIfInBounds (off + k) v).toList = cells.toList.set (off + k) v := by simp
    rw [e1, show off + (k + 1) = off + k + 1 by omega, List.take_set, List.drop_set, if_pos (by omega)]
    have e2 : (cells.toList.take (off + k + 1)).set (off + k) v = cells.toList.take (off + k) ++ [v] := by
      have hm : min (off + k) cells.size = off + k := by simp at h; omega
      rw [List.take_succ_eq_append_getElem hlt, List.set_append_right _ _ (by simp; omega)]
      simp [hm]
    rw [e2, List.length_cons, show off + k + 1 + vs.length = off + k + (vs.length + 1) by omega]
    simp
theorem fill_part (place : Nat → Option (Nat × Nat)) (cells : Array Value) (i off : Nat) (vs : List Value) (rest : List (Nat × Value)) (hp : place i = some (off, vs.length)) (h : off + vs.length ≤ cells.size) :
    Instr.fill place cells ((i, .agg vs.toArray) :: rest) = Instr.fill place (cells.toList.take off ++ vs ++ cells.toList.drop (off + vs.length)).toArray rest := by
  have f := fold_put off vs 0 cells (by omega)
  rw [Nat.add_zero] at f
  rw [← f]
  have hc : (Value.agg vs.toArray).cells = vs.toArray := rfl
  rw [Instr.fill, hp]
  simp only [hc]
  simp
  intro h'
  omega
theorem run_store_new (w : World) (t : TypeId) (vs : List Value) (n : Nat) (hn : vs.length = n) (hi : (Try.prog.info? t).map (·.size) = some n) (h1 : ∀ v ∈ vs, v.oneCell' = true) (c : Array Value) (hc : c.size = n) :
    (storeCells ⟨w.heap.size, 0, none⟩ vs).run Try.prog (w.alloc (.cells c t)) = .ok () (w.alloc (.cells vs.toArray t)) := by
  have := run_storeCells_new (P := Try.prog) w t c vs.toArray (by rw [hi]; simp [hn]) (by simp [hc, hn]) (by
    rw [Array.all_eq_true_iff_forall_mem]
    intro u hu
    simp only [List.mem_toArray] at hu
    exact h1 u hu)
  exact this
end Go.Proofs.Ytejbhjcopldekaa
