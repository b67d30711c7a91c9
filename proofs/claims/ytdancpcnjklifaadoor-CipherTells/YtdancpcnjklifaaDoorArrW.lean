/- Arrays of words of 32 bits in blocks of their own. -/
import Derived.Test.YtdancpcnjklifaaDoorBase
import Derived.Test.YtdancpcnjklifaaDoorMathX
namespace Go.Proofs.YtdancpcnjklifaaDoor
set_option linter.unusedVariables false
set_option maxRecDepth 100000
open Go.RowKit

/-- A word of 32 bits as a value of its own kind. -/
def uv (x : BitVec 32) : Value := .int .u32 (x.toNat : Int)
/-- The words in a block of memory. -/
def Wd (w : World) (g : Nat) (t : TypeId) (l : List (BitVec 32)) : Prop := w.heap[g]? = some (.cells (l.map uv).toArray t (0, 0))
theorem Wd.set {w : World} {g : Nat} {t : TypeId} {l : List (BitVec 32)} (h : Wd w g t l) (i : Nat) (x : BitVec 32) : Wd (w.setCell ⟨g, i, none⟩ (uv x)) g t (l.set i x) := by
  have := heap_setCell_same w g i _ _ (uv x) h
  unfold Wd
  rw [this, List.map_set]
  simp
theorem Wd.drew {w : World} {g : Nat} {t : TypeId} {l : List (BitVec 32)} (h : Wd w g t l) : Wd w.drew g t l := h
theorem Wd.word {w : World} {g : Nat} {t : TypeId} {l : List (BitVec 32)} (h : Wd w g t l) (i : Nat) (hi : i < l.length) :
    w.cell? ⟨g, i, none⟩ = some (.int .u32 ((at32 l i).toNat : Int)) ∧ w.frozen? ⟨g, i, none⟩ = false := by
  refine ⟨?_, frozen_of_row w g i _ _ h⟩
  rw [cell_of_row w g i _ _ (0, 0) h, at32_get l i hi]
  simp [hi, uv]
theorem Wd.lt {w : World} {g : Nat} {t : TypeId} {l : List (BitVec 32)} (h : Wd w g t l) : g < w.heap.size := (Array.getElem?_eq_some_iff.1 h).1
theorem Wd.later {w w' : World} {g : Nat} {t : TypeId} {l : List (BitVec 32)} (h : Wd w g t l) (hb : Below w.heap.size w w') : Wd w' g t l := by
  unfold Wd
  rw [hb.block g h.lt]
  exact h
theorem Wd.below {B : Nat} {w w' : World} {g : Nat} {t : TypeId} {l : List (BitVec 32)} (h : Wd w g t l) (hb : Below B w w') (hg : g < B) : Wd w' g t l := by
  unfold Wd
  rw [hb.block g hg]
  exact h
theorem Wd.but {w w' : World} {g g' : Nat} {t : TypeId} {l : List (BitVec 32)} (h : Wd w g t l) (hne : g ≠ g') (hb : w.grownBy w' (some g')) : Wd w' g t l := by
  unfold Wd
  rw [hb.block g h.lt (fun e => hne (by cases e; rfl))]
  exact h
theorem Wd.other {w : World} {g g' : Nat} {t : TypeId} {l : List (BitVec 32)} (h : Wd w g t l) (hne : g ≠ g') (i : Nat) (v : Value) : Wd (w.setCell ⟨g', i, none⟩ v) g t l := by
  unfold Wd
  rw [heap_setCell_other w ⟨g', i, none⟩ g v hne]
  exact h
theorem Wd.new (w : World) (t : TypeId) (l : List (BitVec 32)) : Wd (w.alloc (.cells (l.map uv).toArray t)) w.heap.size t l := heap_alloc_new w _
theorem xor_uv (y z : BitVec 32) : bits .xor .u32 (y.toNat : Int) (z.toNat : Int) = ((y ^^^ z).toNat : Int) := xor_val y z
/-- One word stored: the row, and what else there is. -/
theorem wd_step {w : World} {g : Nat} {t : TypeId} {l : List (BitVec 32)} (h : Wd w g t l) (p : Nat) (s : BitVec 32) :
    Wd (w.drew.setCell ⟨g, p, none⟩ (uv s)) g t (l.set p s) ∧ w.grownBy (w.drew.setCell ⟨g, p, none⟩ (uv s)) (some g) := by
  refine ⟨h.drew.set p s, rfl, rfl, rfl, by simp, fun j hj hne => ?_⟩
  rw [heap_setCell_other w.drew ⟨g, p, none⟩ j _ (fun e => hne (by rw [e]))]
  rfl
theorem uv_oneCell (l : List (BitVec 32)) : ∀ v ∈ l.map uv, v.oneCell' = true := by
  intro v hv
  obtain ⟨x, _, rfl⟩ := List.mem_map.1 hv
  rfl
theorem info_words {t : TypeId} {n : Nat} (h : (Tryd.prog.info? t).map (·.size) = some n) (l : List (BitVec 32)) (hl : l.length = n) : (Tryd.prog.info? t).map (·.size) = some (l.map uv).toArray.size := by
  rw [h]; simp [hl]
end Go.Proofs.YtdancpcnjklifaaDoor
