/- A mixer, as it lies in memory (stage 9). -/
import Derived.Test.YtdancpcnjklifaaDoorCipM
import Derived.Test.YtdancpcnjklifaaDoorBlkT
namespace Go.Proofs.YtdancpcnjklifaaDoor
set_option linter.unusedVariables false
set_option maxRecDepth 100000
open Go.RowKit

/-- The cells of a mixer. -/
def MiV (chain hash key : List UInt8) (has : Bool) (n : Nat) : List Value := chain.map bv ++ (hash.map bv ++ CiV key has n)
structure MiIs (W : World) (g : Nat) (chain hash key : List UInt8) (has : Bool) (n : Nat) : Prop where
  row : W.heap[g]? = some (.cells (MiV chain hash key has n).toArray 49 (0, 0))
  c : chain.length = 32
  h : hash.length = 32
  k : key.length = 32
section
variable {W W' : World} {g : Nat} {chain hash key : List UInt8} {has : Bool} {n : Nat}
theorem MiIs.lt (x : MiIs W g chain hash key has n) : g < W.heap.size := (Array.getElem?_eq_some_iff.1 x.row).1
theorem MiIs.later (x : MiIs W g chain hash key has n) (hb : Below W.heap.size W W') : MiIs W' g chain hash key has n := ⟨by rw [hb.block g x.lt]; exact x.row, x.c, x.h, x.k⟩
theorem MiIs.but {g' : Nat} (x : MiIs W g chain hash key has n) (hG : W.grownBy W' (some g')) (hne : g ≠ g') : MiIs W' g chain hash key has n := ⟨by rw [hG.block g x.lt (fun e => hne (by cases e; rfl))]; exact x.row, x.c, x.h, x.k⟩
theorem mi_info (hc : chain.length = 32) (hh : hash.length = 32) (hk : key.length = 32) : (Tryd.prog.info? 49).map (·.size) = some (MiV chain hash key has n).toArray.size := by
  have e1 : (Tryd.prog.info? 49).map (·.size) = some 98 := by kernel_rfl
  rw [e1]; simp [MiV, CiV, hc, hh, hk]
theorem MiIs.chainB (x : MiIs W g chain hash key has n) : ∀ j v, (chain.map bv)[j]? = some v → W.cell? ⟨g, 0 + j, none⟩ = some v :=
  part_cells [] (chain.map bv) _ (by have := x.row; simpa [MiV] using this) 0 rfl
theorem MiIs.hashB (x : MiIs W g chain hash key has n) : ∀ j v, (hash.map bv)[j]? = some v → W.cell? ⟨g, 32 + j, none⟩ = some v :=
  part_cells (chain.map bv) (hash.map bv) _ (by have := x.row; simpa [MiV] using this) 32 (by simp [x.c])
theorem MiIs.keyB (x : MiIs W g chain hash key has n) : ∀ j v, (key.map bv)[j]? = some v → W.cell? ⟨g, 64 + j, none⟩ = some v :=
  part_cells (chain.map bv ++ hash.map bv) (key.map bv) [.bool has, .int .u64 (n : Int)] (by have := x.row; simpa [MiV, CiV] using this) 64 (by simp [x.c, x.h])
theorem byt_of_cells {W : World} {g off n : Nat} {l : List UInt8} (hl : l.length = n) (h : ∀ j v, (l.map bv)[j]? = some v → W.cell? ⟨g, off + j, none⟩ = some v) : Byt W (some ⟨g, off, none⟩) n l := by
  refine ⟨hl, .inr ⟨g, off, rfl, fun i hi => ?_⟩⟩
  rw [h i (.int .u8 ((at8 l i).toNat : Int)) (by rw [List.getElem?_map, at8_get l i (by omega)]; simp [bv, show i < l.length by omega])]
theorem MiIs.num (x : MiIs W g chain hash key has n) : W.cell? ⟨g, 97, none⟩ = some (.int .u64 (n : Int)) ∧ W.frozen? ⟨g, 97, none⟩ = false := by
  refine ⟨?_, frozen_of_row W g 97 _ _ x.row⟩
  rw [cell_of_row W g 97 _ _ (0, 0) x.row]
  simp [MiV, CiV, x.c, x.h, x.k]
theorem MiIs.had (x : MiIs W g chain hash key has n) : W.cell? ⟨g, 96, none⟩ = some (.bool has) ∧ W.frozen? ⟨g, 96, none⟩ = false := by
  refine ⟨?_, frozen_of_row W g 96 _ _ x.row⟩
  rw [cell_of_row W g 96 _ _ (0, 0) x.row]
  simp [MiV, CiV, x.c, x.h, x.k]
end
end Go.Proofs.YtdancpcnjklifaaDoor
