/- How a struct of two arrays is built. -/
import Derived.Test.YthgeknfhgdomoaaAeadB
import Derived.Great.BuildSlice
namespace Go.Proofs.Ythgeknfhgdomoaa
set_option linter.unusedVariables false
open Go.RowKit

theorem id_info (l : List UInt8) (hl : l.length = 12) : (Try.prog.info? 25).map (·.size) = some (l.map bv).toArray.size := by
  have e1 : (Try.prog.info? 25).map (·.size) = some 12 := by kernel_rfl
  rw [e1]; simp [hl]
/-- A part of a struct, laid into its place. -/
theorem fold_put (off : Nat) : ∀ (vs : List Value) (k : Nat) (cells : Array Value), off + k + vs.length ≤ cells.size →
    (vs.zipIdx k).foldl (fun cs (x : Value × Nat) => cs.setIfInBounds (off + x.2) x.1) cells = (cells.toList.take (off + k) ++ vs ++ cells.toList.drop (off + k + vs.length)).toArray
  | [], k, cells, h => by simp
  | v :: vs, k, cells, h => by
    rw [List.zipIdx_cons, List.foldl_cons, fold_put off vs (k + 1) _ (by simp at h ⊢; omega)]
    have hlt : off + k < cells.toList.length := by simp at h ⊢; omega
    have e1 : (cells.setIfInBounds (off + k) v).toList = cells.toList.set (off + k) v := by simp
    rw [e1, show off + (k + 1) = off + k + 1 by omega, List.take_set, List.drop_set, if_pos (by omega)]
    have e2 : (cells.toList.take (off + k + 1)).set (off + k) v = cells.toList.take (off + k) ++ [v] := by
      have hm : min (off + k) cells.size = off + k := by simp at h; omega
      rw [List.take_succ_eq_append_getElem hlt, List.set_append_right _ _ (by simp; omega)]
      simp [hm]
    rw [e2, List.length_cons, show off + k + 1 + vs.length = off + k + (vs.length + 1) by omega]
    simp
theorem fill_part (place : Nat → Option (Nat × Nat)) (cells : Array Value) (i off : Nat) (vs : List Value) (rest : List (Nat × Value)) (hp : place i = some (off, vs.length)) (h : off + vs.length ≤ cells.size) :
    Instr.fill place cells ((i, .agg vs.toArray) :: rest) = Instr.fill place (cells.toList.take off ++ vs ++ cells.toList.drop (off + vs.length)).toArray rest := by
  have f := fold_put off vs 0 cells (by omega)
  rw [Nat.add_zero] at f
  rw [← f]
  have hc : (Value.agg vs.toArray).cells = vs.toArray := rfl
  rw [Instr.fill, hp]
  simp only [hc]
  simp
  intro h'
  omega
theorem sealer_built (s key nonce : List UInt8) (hs : IsSealer s key nonce) : Try.prog.built 39 [(0, .agg (key.map bv).toArray), (1, .agg (nonce.map bv).toArray)] = some (s.map bv).toArray := by
  have h : ∀ parts, Try.prog.built 39 parts = Instr.fill (#[(0, 32), (32, 12)][·]?) (List.replicate 44 (Value.int .u8 0)).toArray parts := fun parts => by kernel_rfl
  have hk := hs.k
  have hn := hs.n
  obtain ⟨Z, hZ⟩ : ∃ Z, List.replicate 44 (Value.int .u8 0) = Z := ⟨_, rfl⟩
  have hZl : Z.length = 44 := by rw [← hZ, List.length_replicate]
  rw [h, hZ, fill_part _ _ 0 0 (key.map bv) _ (by simp [hk]) (by simp; omega), fill_part _ _ 1 32 (nonce.map bv) _ (by simp [hn]) (by simp; omega), hs.eq]
  simp only [Instr.fill, List.take_zero, List.nil_append, List.length_map, hk, hn, Nat.zero_add]
  rw [List.take_left' (by simp [hk]), List.drop_eq_nil_of_le (by simp; omega), List.append_nil, List.map_append]

theorem wpList_sealer (key nonce s : List UInt8) (hs : IsSealer s key nonce) {ops : Array Oper} {rest : List Oper} {o : Oper} {a : Act} {w : World} {Q : Exit → Act → World → Prop} (hg : o.guard = none) (x y : Operand) (ho : o.op = .build 39 #[(0, x), (1, y)])
    (hx : a.eval x = .agg (key.map bv).toArray) (hy : a.eval y = .agg (nonce.map bv).toArray)
    (h : wpList Try.prog ops Q rest (a.put o.dst (.agg (s.map bv).toArray)) w) : wpList Try.prog ops Q (o :: rest) a w :=
  wpList_buildTo hg _ _ ho _ rfl (s.map bv).toArray (by simp [hx, hy, sealer_built s key nonce hs]) h
end Go.Proofs.Ythgeknfhgdomoaa
