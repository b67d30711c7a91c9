/- The walk over the program's New (blake). -/
import Derived.Test.YthjkjfoelekeeaaDoorBlkH
import Derived.Test.YthjkjfoelekeeaaDoorFillW
namespace Go.Proofs.YthjkjfoelekeeaaDoor
set_option linter.unusedVariables false
open Go.RowKit

def zero64B : List UInt8 := List.replicate 64 0
theorem hash_built (S : List (BitVec 32)) (hS : S.length = 8) : Tryd.prog.built 55 [(0, .agg (S.map uv).toArray)] = some (hashV S 0 zero64B 0).toArray := by
  have h : ∀ parts, Tryd.prog.built 55 parts = Instr.fill (#[(0, 8), (8, 1), (9, 64), (73, 1)][·]?) (hashV (List.replicate 8 0#32) 0 zero64B 0).toArray parts := fun parts => by kernel_rfl
  obtain ⟨Z, hZ⟩ : ∃ Z, List.replicate 8 0#32 = Z := ⟨_, rfl⟩
  have hZl : Z.length = 8 := by rw [← hZ, List.length_replicate]
  rw [h, hZ, fill_part _ _ 0 0 (S.map uv) _ (by simp [hS]) (by simp [hashV, hZl, hS])]
  simp only [Instr.fill, List.take_zero, List.nil_append, List.length_map, hS, Nat.zero_add]
  congr 2
  simp [hashV, hZl]
theorem wpList_hash (S : List (BitVec 32)) (hS : S.length = 8) {ops : Array Oper} {rest : List Oper} {o : Oper} {a : Act} {w : World} {Q : Exit → Act → World → Prop} (hg : o.guard = none) (x : Operand) (ho : o.op = .build 55 #[(0, x)])
    (hx : a.eval x = .agg (S.map uv).toArray)
    (h : wpList Tryd.prog ops Q rest (a.put o.dst (.agg (hashV S 0 zero64B 0).toArray)) w) : wpList Tryd.prog ops Q (o :: rest) a w :=
  wpList_buildTo hg _ _ ho _ rfl (hashV S 0 zero64B 0).toArray (by simp [hx, hash_built S hS]) h

set_option maxHeartbeats 1000000 in
set_option maxRecDepth 100000 in
theorem bnew_any (w : World) (htab : Tab w) :
    Calls Tryd.prog 20 #[] w fun e w' => ∃ g, e = .returned (.pointer (some ⟨g, 0, none⟩)) ∧ w.heap.size ≤ g ∧ HashIs w' g [] ∧ Below w.heap.size w w' := by
  obtain ⟨I, hI⟩ : ∃ I, ivB = I := ⟨_, rfl⟩
  have hIl : I.length = 8 := by rw [← hI]; rfl
  obtain ⟨S, hS⟩ : ∃ S, bstart = S := ⟨_, rfl⟩
  have hSl : S.length = 8 := by rw [← hS]; rfl
  have HSI : Hid (S = I.set 0 0x6b08e647#32) := by rw [← hS, ← hI]; exact rfl
  have HS : Hid (bstart = S) := hS
  have HTab : Hid (∃ t fr, w.heap[0]? = some (.cells (I.map uv).toArray t fr)) := by rw [← hI]; exact htab.iv
  clear hI hS htab
  obtain ⟨t, fr, hrow⟩ := HTab.out
  have HRow : Hid (w.heap[0]? = some (.cells (I.map uv).toArray t fr)) := hrow
  have II : Hid ((Tryd.prog.info? 51).map (·.size) = some (I.map uv).toArray.size) := info_words (n := 8) (by kernel_rfl) I hIl
  have IS : Hid ((Tryd.prog.info? 52).map (·.size) = some (S.map uv).toArray.size) := info_words (n := 8) (by kernel_rfl) S hSl
  have hst := run_store_new w 52 (I.map uv) 8 (by simp [hIl]) (by kernel_rfl) (uv_oneCell I)
  have hw1 := (Wd.new w 52 I).word 0 (by omega)
  have hMS : (I.map uv).set 0 (.int .u32 1795745351) = S.map uv := by
    have h := HSI.out
    rw [h, List.map_set]
    rfl
  obtain ⟨c1, f1⟩ := hw1
  have HW2 : Hid (Wd (w.alloc (.cells ((I.map uv).set 0 (.int .u32 1795745351)).toArray 52)) w.heap.size 52 S) := by rw [hMS]; exact Wd.new w _ S
  have HMS : Hid ((I.map uv).set 0 (.int .u32 1795745351) = S.map uv) := hMS
  clear hrow HTab hMS
  go_enter Tryd.func20, Tryd.ntmps20
  go_wp2_with (first | refine wpList_load_row rfl 51 _ rfl 0 rfl t _ fr _ HRow.out Tryd.underlying51 rfl II.out ?_ | refine wpList_load_row rfl 52 _ rfl w.heap.size rfl 52 _ (0, 0) _ HW2.out Tryd.underlying52 rfl IS.out ?_ | refine wpList_hash S hSl rfl _ rfl rfl ?_)
  go_ret
  refine ⟨w.heap.size + 1, rfl, by omega, ⟨0, zero64B, rfl, ?_, Nat.le_refl _, by simp, by simp⟩, ((Below.refl _ _).alloc (Nat.le_refl _) _).alloc (by simp) _⟩
  refine ⟨?_, by have e : bparts [] 0 = S := HS.out; rw [e]; exact hSl, by simp [zero64B]⟩
  have h2 := heap_alloc_new (w.alloc (.cells ((I.map uv).set 0 (.int .u32 1795745351)).toArray 52)) (.cells (hashV S 0 zero64B 0).toArray 55)
  rw [World.size_alloc] at h2
  have e : bparts [] 0 = S := HS.out
  rw [e]
  exact h2
end Go.Proofs.YthjkjfoelekeeaaDoor
