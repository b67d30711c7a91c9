/- A cipher in a row of memory, from the cell off on (stage 9): alone, or within a mixer. -/
import Derived.Test.YtdancpcnjklifaaDoorCipN
namespace Go.Proofs.YtdancpcnjklifaaDoor
set_option linter.unusedVariables false
set_option maxRecDepth 100000
open Go.RowKit

/-- A cipher in a row, with A ahead of it and B behind it. -/
structure KC (w : World) (g t off : Nat) (A B : List Value) (key : List UInt8) (has : Bool) (n : Nat) : Prop where
  row : w.heap[g]? = some (.cells (A ++ (CiV key has n ++ B)).toArray t (0, 0))
  k : key.length = 32
  a : A.length = off
section
variable {w w' : World} {g t off : Nat} {A B : List Value} {key : List UInt8} {has : Bool} {n : Nat}
theorem KC.lt (x : KC w g t off A B key has n) : g < w.heap.size := (Array.getElem?_eq_some_iff.1 x.row).1
theorem KC.later (x : KC w g t off A B key has n) (hb : Below w.heap.size w w') : KC w' g t off A B key has n := ⟨by rw [hb.block g x.lt]; exact x.row, x.k, x.a⟩
theorem KC.keyC (x : KC w g t off A B key has n) : ∀ j v, (key.map bv)[j]? = some v → w.cell? ⟨g, off + j, none⟩ = some v :=
  part_cells A (key.map bv) ([.bool has, .int .u64 (n : Int)] ++ B) (by have := x.row; simpa [CiV] using this) off x.a
theorem KC.had (x : KC w g t off A B key has n) : w.cell? ⟨g, off + 32, none⟩ = some (.bool has) := by
  have := part_cells (A ++ key.map bv) [.bool has] ([.int .u64 (n : Int)] ++ B) (by have := x.row; simpa [CiV] using this) (off + 32) (by simp [x.a, x.k]) 0 (.bool has) rfl
  simpa using this
theorem KC.num (x : KC w g t off A B key has n) : w.cell? ⟨g, off + 33, none⟩ = some (.int .u64 (n : Int)) := by
  have := part_cells (A ++ (key.map bv ++ [.bool has])) [.int .u64 (n : Int)] B (by have := x.row; simpa [CiV] using this) (off + 33) (by simp [x.a, x.k]) 0 (.int .u64 (n : Int)) rfl
  simpa using this
theorem KC.free (x : KC w g t off A B key has n) (i : Nat) : w.frozen? ⟨g, i, none⟩ = false := frozen_of_row w g i _ _ x.row
theorem KC.setN (x : KC w g t off A B key has n) (m : Nat) : KC (w.setCell ⟨g, off + 33, none⟩ (.int .u64 (m : Int))) g t off A B key has m := by
  refine ⟨?_, x.k, x.a⟩
  rw [heap_setCell_same w g _ _ _ _ x.row]
  congr 2
  have e1 : ∀ q : Nat, A ++ (CiV key has q ++ B) = (A ++ (key.map bv ++ [.bool has])) ++ (.int .u64 (q : Int) :: B) := fun q => by simp [CiV]
  have hl : (A ++ (key.map bv ++ [Value.bool has])).length = off + 33 := by simp [x.a, x.k]
  rw [e1 n, e1 m]
  simp only [List.setIfInBounds_toArray, Array.mk.injEq]
  rw [List.set_append_right _ _ (by omega), hl]
  simp
theorem KC.setKey (x : KC w g t off A B key has n) (key' : List UInt8) (hk' : key'.length = 32) :
    ∃ w', (storeCells ⟨g, off, none⟩ (key'.map bv)).run Tryd.prog w = .ok () w' ∧ KC w' g t off A B key' has n ∧ w.grownBy w' (some g) := by
  obtain ⟨T, hT⟩ : ∃ T, ([Value.bool has, .int .u64 (n : Int)] ++ B) = T := ⟨_, rfl⟩
  have e1 : ∀ q : List UInt8, A ++ (CiV q has n ++ B) = A ++ (q.map bv ++ T) := fun q => by rw [← hT]; simp [CiV]
  have hs := run_storeCells_part (P := Tryd.prog) g off t (key'.map bv) 0 _ w x.row (by simp [CiV, x.a, x.k, hk']) (bv_oneCell key')
  refine ⟨_, hs, ⟨?_, hk', x.a⟩, ?_⟩
  · have hr := setRow_heap w g _ ((A ++ (CiV key has n ++ B)).toArray.toList.take (off + 0) ++ key'.map bv ++ (A ++ (CiV key has n ++ B)).toArray.toList.drop (off + 0 + (key'.map bv).length)).toArray t (0, 0) x.row
    have e2 : (A ++ (CiV key has n ++ B)).toArray.toList = A ++ (key.map bv ++ T) := e1 key
    rw [hr, e2, e1 key']
    have h1 : A.length = off + 0 := x.a
    have h2 : (A ++ key.map bv).length = off + 0 + (key'.map bv).length := by simp [x.a, x.k, hk']
    rw [List.take_left' h1, ← List.append_assoc A (key.map bv) T, List.drop_left' h2, List.append_assoc]
  · exact ⟨rfl, rfl, rfl, by simp, fun k hk hne => setRow_other w g k _ (fun e => hne (by rw [e]))⟩
end
theorem KC.ofCi {w : World} {g : Nat} {key : List UInt8} {has : Bool} {n : Nat} (x : CiIs w g key has n) : KC w g 26 0 [] [] key has n := ⟨by have := x.row; simpa using this, x.k, rfl⟩
theorem KC.toCi {w : World} {g : Nat} {key : List UInt8} {has : Bool} {n : Nat} (x : KC w g 26 0 [] [] key has n) : CiIs w g key has n := ⟨by have := x.row; simpa using this, x.k⟩
theorem KC.ofMi {w : World} {g : Nat} {chain hash key : List UInt8} {has : Bool} {n : Nat} (x : MiIs w g chain hash key has n) : KC w g 49 64 (chain.map bv ++ hash.map bv) [] key has n :=
  ⟨by have := x.row; simpa [MiV] using this, x.k, by simp [x.c, x.h]⟩
theorem KC.toMi {w : World} {g : Nat} {chain hash key : List UInt8} {has : Bool} {n : Nat} (hc : chain.length = 32) (hh : hash.length = 32) (x : KC w g 49 64 (chain.map bv ++ hash.map bv) [] key has n) : MiIs w g chain hash key has n :=
  ⟨by have := x.row; simpa [MiV] using this, hc, hh, x.k⟩
end Go.Proofs.YtdancpcnjklifaaDoor
