/- Arrays of bytes in blocks of their own. -/
import Derived.Test.YtejbhjcopldekaaTools
import Derived.ChangeKeysEq
import Derived.Laws.StructEq
namespace Go.Proofs.Ytejbhjcopldekaa
set_option linter.unusedVariables false
set_option maxRecDepth 100000
open Go.RowKit

/-- An array of bytes in a block. -/
def Arr (w : World) (g : Nat) (t : TypeId) (l : List UInt8) : Prop := w.heap[g]? = some (.cells (l.map bv).toArray t (0, 0))
theorem Arr.lt {w : World} {g : Nat} {t : TypeId} {l : List UInt8} (h : Arr w g t l) : g < w.heap.size := (Array.getElem?_eq_some_iff.1 h).1
theorem Arr.later {w w' : World} {g : Nat} {t : TypeId} {l : List UInt8} (h : Arr w g t l) (hb : Below w.heap.size w w') : Arr w' g t l := by
  unfold Arr
  rw [hb.block g h.lt]
  exact h
theorem Arr.below {B : Nat} {w w' : World} {g : Nat} {t : TypeId} {l : List UInt8} (h : Arr w g t l) (hb : Below B w w') (hg : g < B) : Arr w' g t l := by
  unfold Arr
  rw [hb.block g hg]
  exact h
theorem Arr.set {w : World} {g : Nat} {t : TypeId} {l : List UInt8} (h : Arr w g t l) (i : Nat) (x : UInt8) : Arr (w.setCell ⟨g, i, none⟩ (.int .u8 (x.toNat : Int))) g t (l.set i x) := by
  have := heap_setCell_same w g i _ _ (bv x) h
  unfold Arr
  rw [List.map_set]
  simpa [bv] using this
theorem Arr.other {w : World} {g g' : Nat} {t : TypeId} {l : List UInt8} (h : Arr w g t l) (hne : g ≠ g') (i : Nat) (v : Value) : Arr (w.setCell ⟨g', i, none⟩ v) g t l := by
  unfold Arr
  rw [heap_setCell_other w ⟨g', i, none⟩ g v hne]
  exact h
theorem Arr.at_ {w : World} {g : Nat} {t : TypeId} {l : List UInt8} (h : Arr w g t l) (i : Nat) (hi : i < l.length) : w.cell? ⟨g, i, none⟩ = some (.int .u8 ((at8 l i).toNat : Int)) ∧ w.frozen? ⟨g, i, none⟩ = false := by
  refine ⟨?_, frozen_of_row w g i _ _ h⟩
  rw [cell_of_row w g i _ _ (0, 0) h, at8_get l i hi]
  simp [hi, bv]
theorem Arr.byt {w : World} {g : Nat} {t : TypeId} {l : List UInt8} (h : Arr w g t l) (n : Nat) (hn : l.length = n) : Byt w (some ⟨g, 0, none⟩) n l := byt_row n hn h
theorem Arr.new (w : World) (t : TypeId) (l : List UInt8) : Arr (w.alloc (.cells (l.map bv).toArray t)) w.heap.size t l := heap_alloc_new w _
theorem info_size {t : TypeId} {n : Nat} (h : (Try.prog.info? t).map (·.size) = some n) (l : List UInt8) (hl : l.length = n) : (Try.prog.info? t).map (·.size) = some (l.map bv).toArray.size := by
  rw [h]; simp [hl]
theorem arr_items (w : World) (A B : List UInt8) (n : Nat) (hA : A.length = n) (hB : B.length = n) : ∀ is : List Nat, (∀ i ∈ is, i < n) →
    (Op.eqItems 9999 5 1 (A.map bv).toArray (B.map bv).toArray is).run Try.prog w = .ok (decide (∀ i ∈ is, at8 A i = at8 B i)) w
  | [], _ => by simp [Op.eqItems]
  | i :: is, h => by
    have hi : i < n := h i (by simp)
    have he : Try.prog.plainKey 5 = true := by kernel_rfl
    have p1 := run_part_plain (P := Try.prog) w he (xs := (A.map bv).toArray) (off := i * 1) (v := bv (at8 A i)) (by simp [at8_get A i (by omega), show i < A.length by omega])
    have p2 := run_part_plain (P := Try.prog) w he (xs := (B.map bv).toArray) (off := i * 1) (v := bv (at8 B i)) (by simp [at8_get B i (by omega), show i < B.length by omega])
    have p3 := run_equalIn_int (P := Try.prog) w 9998 5 .u8 .u8 ((at8 A i).toNat : Int) ((at8 B i).toNat : Int) Try.underlying5
    have ih := arr_items w A B n hA hB is (fun j hj => h j (by simp [hj]))
    simp only [Op.eqItems, Sem.run_bind, p1, p2, bv, p3, Result.andThen_ok]
    by_cases e : at8 A i = at8 B i
    · simp [e, ih]
    · have e' : ¬ ((at8 A i).toNat : Int) = ((at8 B i).toNat : Int) := fun h => e (UInt8.toNat_inj.1 (by omega))
      simp [e, e']
/-- Two arrays of bytes, held against each other. -/
theorem arr_eq (w : World) (t : TypeId) (n : Nat) (A B : List UInt8) (hA : A.length = n) (hB : B.length = n) (hu : Try.prog.underlying t = some (.array n 5)) :
    (Op.equalIn 10000 t (.agg (A.map bv).toArray) (.agg (B.map bv).toArray)).run Try.prog w = .ok (decide (A = B)) w := by
  obtain ⟨i0, hi, _, _, _⟩ := info_parts Try.infoU8
  have hc : Try.prog.cellsOf 5 = 1 := by kernel_rfl
  rw [run_equalIn_array (P := Try.prog) w 9999 _ _ hu hi, hc, arr_items w A B n hA hB (List.range n) (by simp)]
  congr 1
  rw [decide_eq_decide]
  constructor
  · intro h
    apply List.ext_getElem
    · omega
    · intro i h1 h2
      rw [← at8_get A i h1, ← at8_get B i h2]
      exact h i (by simp; omega)
  · intro h; rw [h]; simp
end Go.Proofs.Ytejbhjcopldekaa
