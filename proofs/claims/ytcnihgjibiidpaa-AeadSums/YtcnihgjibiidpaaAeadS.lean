/- How a struct of two arrays is built. -/
import Derived.Test.YtcnihgjibiidpaaAeadB
import Derived.Test.YtcnihgjibiidpaaFillW
import Derived.Great.BuildSlice
namespace Go.Proofs.Ytcnihgjibiidpaa
set_option linter.unusedVariables false
open Go.RowKit

theorem id_info (l : List UInt8) (hl : l.length = 12) : (Try.prog.info? 40).map (·.size) = some (l.map bv).toArray.size := by
  have e1 : (Try.prog.info? 40).map (·.size) = some 12 := by kernel_rfl
  rw [e1]; simp [hl]
theorem sealer_built (s key nonce : List UInt8) (hs : IsSealer s key nonce) : Try.prog.built 64 [(0, .agg (key.map bv).toArray), (1, .agg (nonce.map bv).toArray)] = some (s.map bv).toArray := by
  have h : ∀ parts, Try.prog.built 64 parts = Instr.fill (#[(0, 32), (32, 12)][·]?) (List.replicate 44 (Value.int .u8 0)).toArray parts := fun parts => by kernel_rfl
  have hk := hs.k
  have hn := hs.n
  obtain ⟨Z, hZ⟩ : ∃ Z, List.replicate 44 (Value.int .u8 0) = Z := ⟨_, rfl⟩
  have hZl : Z.length = 44 := by rw [← hZ, List.length_replicate]
  rw [h, hZ, fill_part _ _ 0 0 (key.map bv) _ (by simp [hk]) (by simp; omega), fill_part _ _ 1 32 (nonce.map bv) _ (by simp [hn]) (by simp; omega), hs.eq]
  simp only [Instr.fill, List.take_zero, List.nil_append, List.length_map, hk, hn, Nat.zero_add]
  rw [List.take_left' (by simp [hk]), List.drop_eq_nil_of_le (by simp; omega), List.append_nil, List.map_append]

theorem wpList_sealer (key nonce s : List UInt8) (hs : IsSealer s key nonce) {ops : Array Oper} {rest : List Oper} {o : Oper} {a : Act} {w : World} {Q : Exit → Act → World → Prop} (hg : o.guard = none) (x y : Operand) (ho : o.op = .build 64 #[(0, x), (1, y)])
    (hx : a.eval x = .agg (key.map bv).toArray) (hy : a.eval y = .agg (nonce.map bv).toArray)
    (h : wpList Try.prog ops Q rest (a.put o.dst (.agg (s.map bv).toArray)) w) : wpList Try.prog ops Q (o :: rest) a w :=
  wpList_buildTo hg _ _ ho _ rfl (s.map bv).toArray (by simp [hx, hy, sealer_built s key nonce hs]) h
end Go.Proofs.Ytcnihgjibiidpaa
