/- The walks over the document's iv, rows and part (blake). -/
import Derived.Test.YthjkjfoelekeeaaDoorRefBa
namespace Go.Proofs.YthjkjfoelekeeaaDoor
set_option linter.unusedVariables false
open Go.RowKit

set_option maxHeartbeats 400000 in
theorem refIv_any (w : World) : Calls Tryd.prog 23 #[] w fun e w' => e = .returned (.slice (some ⟨w.heap.size, 0, none⟩) 8 8) ∧ Below w.heap.size w w' ∧ w'.ownsRow w.heap.size 47 1 (.slice (some ⟨w.heap.size, 0, none⟩) 8 8) 8 (ivB.map wv) := by
  have own0 : (w.alloc (.cells (ivB.map wv).toArray 47)).ownsRow w.heap.size 47 1 (.slice (some ⟨w.heap.size, 0, none⟩) 8 8) 8 (ivB.map wv) := World.ownsRow_lit w _ 8 (Nat.le_refl _) (by unfold maxLen; omega) rfl
  have HO : Hid ((w.alloc (.cells (ivB.map wv).toArray 47)).ownsRow w.heap.size 47 1 (.slice (some ⟨w.heap.size, 0, none⟩) 8 8) 8 (ivB.map wv)) := own0
  clear own0
  go_enter Tryd.func23, Tryd.ntmps23
  go_wp2
  go_ret
  exact ⟨rfl, (Below.refl _ _).alloc (Nat.le_refl _) _, HO.out⟩
/-- The rows of numbers as text, a letter each. -/
def rowS (i : Nat) : ByteArray := ⟨((sigma.getD i []).map fun k => UInt8.ofNat (65 + k)).toArray⟩
def rowsV : Array Value := ((List.range 10).map fun i => Value.string (rowS i)).toArray
theorem rowS_at (i k : Nat) (hi : i < 10) (hk : k < 16) : (rowS i)[k]? = some (UInt8.ofNat (65 + sig i k)) := by
  have h : ∀ i : Fin 10, ∀ k : Fin 16, (rowS i.val)[k.val]? = some (UInt8.ofNat (65 + sig i.val k.val)) := by decide +kernel
  exact h ⟨i, hi⟩ ⟨k, hk⟩
set_option maxHeartbeats 400000 in
theorem refRows_any (w : World) : Calls Tryd.prog 30 #[] w fun e w' => e = .returned (.slice (some ⟨w.heap.size, 0, none⟩) 10 10) ∧ Below w.heap.size w w' ∧ w'.heap[w.heap.size]? = some (.cells rowsV 9 (0, 0)) := by
  have HO : Hid ((w.alloc (.cells rowsV 9)).heap[w.heap.size]? = some (.cells rowsV 9 (0, 0))) := heap_alloc_new w _
  go_enter Tryd.func30, Tryd.ntmps30
  go_wp2
  go_ret
  exact ⟨rfl, (Below.refl _ _).alloc (Nat.le_refl _) _, HO.out⟩
end Go.Proofs.YthjkjfoelekeeaaDoor
