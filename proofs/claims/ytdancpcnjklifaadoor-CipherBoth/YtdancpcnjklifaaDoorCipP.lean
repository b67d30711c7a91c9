/- Two places for ciphers at once. -/
import Derived.Test.YtdancpcnjklifaaDoorCipM
namespace Go.Proofs.YtdancpcnjklifaaDoor
set_option linter.unusedVariables false
set_option maxRecDepth 100000
open Go.RowKit

theorem ci_place2 (w : World) (A B : List UInt8) (ha hb : Bool) (n m : Nat) (hA : A.length = 32) (hB : B.length = 32) :
    ∃ X1 X2, (storeCells ⟨w.heap.size, 0, none⟩ (CiV A ha n)).run Tryd.prog ((w.alloc (.cells ciZ 26)).alloc (.cells ciZ 26)) = .ok () X1 ∧ (storeCells ⟨w.heap.size + 1, 0, none⟩ (CiV B hb m)).run Tryd.prog X1 = .ok () X2 ∧
      CiIs X2 w.heap.size A ha n ∧ CiIs X2 (w.heap.size + 1) B hb m ∧ Below w.heap.size w X2 := by
  obtain ⟨W, hW⟩ : ∃ W, (w.alloc (.cells ciZ 26)).alloc (.cells ciZ 26) = W := ⟨_, rfl⟩
  have h1 : W.heap[w.heap.size]? = some (.cells ciZ 26 (0, 0)) := by
    rw [← hW, Below.heap_alloc _ _ _ (by simp), heap_alloc_new]
  have h2 : W.heap[w.heap.size + 1]? = some (.cells ciZ 26 (0, 0)) := by
    have := heap_alloc_new (w.alloc (.cells ciZ 26)) (.cells ciZ 26)
    rw [World.size_alloc] at this
    rw [← hW]
    exact this
  have hbel : Below w.heap.size w W := by rw [← hW]; exact ((Below.refl _ _).alloc (Nat.le_refl _) _).alloc (by simp) _
  have s1 := store_row W w.heap.size _ _ (CiV A ha n) h1 (by rw [CiV_length, hA]; rfl) (CiV_one A ha n)
  have r1 := setRow_heap W w.heap.size _ (CiV A ha n).toArray _ _ h1
  have r2 : (W.setRow w.heap.size (CiV A ha n).toArray).heap[w.heap.size + 1]? = _ := (setRow_other W w.heap.size (w.heap.size + 1) _ (by omega)).trans h2
  have hb1 := below_setRow hbel (Nat.le_refl _) (CiV A ha n).toArray
  obtain ⟨X1, hX1⟩ : ∃ X, W.setRow w.heap.size (CiV A ha n).toArray = X := ⟨_, rfl⟩
  rw [hX1] at s1 r1 r2 hb1
  have s2 := store_row X1 (w.heap.size + 1) _ _ (CiV B hb m) r2 (by rw [CiV_length, hB]; rfl) (CiV_one B hb m)
  have t1 : (X1.setRow (w.heap.size + 1) (CiV B hb m).toArray).heap[w.heap.size]? = _ := (setRow_other X1 (w.heap.size + 1) w.heap.size _ (by omega)).trans r1
  have t2 := setRow_heap X1 (w.heap.size + 1) _ (CiV B hb m).toArray _ _ r2
  rw [hW]
  exact ⟨X1, _, s1, s2, ⟨t1, hA⟩, ⟨t2, hB⟩, below_setRow hb1 (by omega) _⟩
end Go.Proofs.YtdancpcnjklifaaDoor
