/- What the laws of stage 12 share. -/
import Derived.Test.YtejbhjcopldekaaStuShown
import Derived.Test.YtejbhjcopldekaaFrameM
import Derived.Test.YtejbhjcopldekaaArrB
namespace Go.Proofs.Ytejbhjcopldekaa
set_option linter.unusedVariables false
set_option maxRecDepth 100000
open Go.RowKit

theorem map_idL (l : List UInt8) (h : l.length = 12) : l.map bv = idL l := by
  match l, h with
  | [_, _, _, _, _, _, _, _, _, _, _, _], _ => rfl
theorem id_letters (l : List UInt8) : ∃ v0 v1 v2 v3 v4 v5 v6 v7 v8 v9 v10 v11, idL l = [v0, v1, v2, v3, v4, v5, v6, v7, v8, v9, v10, v11] := ⟨_, _, _, _, _, _, _, _, _, _, _, _, rfl⟩
theorem mload_part_if {P : Program} {ops : Array Oper} {rest : List Oper} {o : Oper} {a : Act} {w : World} {Q : Exit → Act → World → Prop} (hw : Region.wanted o (yielded ops a.tmps) = true) (ty : TypeId) (x : Operand) (ho : o.op = .load ty x) (b off : Nat) (hx : a.eval x = .pointer (some ⟨b, off, none⟩)) (vs : List Value) (d : TypeDesc)
    (hc : ∀ j v, vs[j]? = some v → w.cell? ⟨b, off + j, none⟩ = some v) (hu : P.underlying ty = some d) (hd : (match d with | .struct _ | .array _ _ => true | _ => false) = true) (hi : (P.info? ty).map (·.size) = some vs.length)
    (h : wpList P ops Q rest (a.put o.dst (.agg vs.toArray)) w) : wpList P ops Q (o :: rest) a w :=
  wpList_step fun _ hK => by
    simp only [hw, if_true]
    unfold Oper.wp
    rw [exec_load_part ty x ho b off hx vs d hc hu hd hi]
    exact hK _ _ h
theorem row_cells {w : World} {g t : Nat} {cs : List Value} (h : w.heap[g]? = some (.cells cs.toArray t (0, 0))) : ∀ j v, cs[j]? = some v → w.cell? ⟨g, 0 + j, none⟩ = some v := by
  intro j v hj
  rw [Nat.zero_add, cell_of_row w g j _ _ (0, 0) h]
  simpa using hj
theorem MBox.idC {w : World} {b : Nat} {m : SM} {ua : Option Addr} {uc : Nat} (h : MBox w b m ua uc) (hid : m.id.length = 12) : ∀ j v, (m.id.map bv)[j]? = some v → w.cell? ⟨b, 1 + j, none⟩ = some v := by
  intro j v hj
  have hj12 : j < 12 := by
    have := (List.getElem?_eq_some_iff.1 hj).1
    rw [List.length_map] at this
    omega
  rcases (h.idB hid).2 with h0 | ⟨b', off', e, hc⟩
  · cases h0
  cases e
  rw [hc j hj12]
  rw [List.getElem?_map, List.getElem?_eq_getElem (by omega)] at hj
  cases hj
  rw [at8_get m.id j (by omega)]
  rfl
end Go.Proofs.Ytejbhjcopldekaa
