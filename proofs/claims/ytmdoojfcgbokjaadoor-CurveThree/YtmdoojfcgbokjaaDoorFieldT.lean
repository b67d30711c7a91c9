/- What the laws of field share: elements in blocks of their own, and their bytes held against each other. -/
import Derived.Test.YtmdoojfcgbokjaaDoorFldF
import Derived.Test.YtmdoojfcgbokjaaDoorFillW
import Derived.Test.YtmdoojfcgbokjaaDoorSchedE
import Derived.Test.YtmdoojfcgbokjaaDoorPartW
import Derived.Test.YtmdoojfcgbokjaaDoorBase
namespace Go.Proofs.YtmdoojfcgbokjaaDoor
set_option linter.unusedVariables false
open Go.RowKit
theorem hidup {p : Prop} (h : p) : Hid p := h
/-- A load of a whole array whose guard is met. -/
theorem wpList_load_met {P : Program} {ops : Array Oper} {rest : List Oper} {o : Oper} {a : Act} {w : World} {Q : Exit → Act → World → Prop} (hw : Region.wanted o (yielded ops a.tmps) = true) (ty : TypeId) (x : Operand) (ho : o.op = .load ty x)
    (g : Nat) (hx : a.eval x = .pointer (some ⟨g, 0, none⟩)) (t : TypeId) (cs : Array Value) (fr : Nat × Nat) (d : TypeDesc) (hg : w.heap[g]? = some (.cells cs t fr))
    (hu : P.underlying ty = some d) (hd : (match d with | .struct _ | .array _ _ => true | _ => false) = true) (hi : (P.info? ty).map (·.size) = some cs.size)
    (h : wpList P ops Q rest (a.put o.dst (.agg cs)) w) : wpList P ops Q (o :: rest) a w := by
  unfold wpList
  rw [if_pos hw]
  exact .inl (wp_load_row ty x ho g hx t cs fr d hg hu hd hi h)
/-- Keys that came in, in blocks of their own. -/
theorem keys1 (w : World) (a : List UInt8) : Arr (w.alloc (.cells (a.map bv).toArray 23)) w.heap.size 23 a ∧ Below w.heap.size w (w.alloc (.cells (a.map bv).toArray 23)) :=
  ⟨Arr.new w _ a, (Below.refl _ _).alloc (Nat.le_refl _) _⟩
theorem keys2 (w : World) (a b : List UInt8) : Arr ((w.alloc (.cells (a.map bv).toArray 23)).alloc (.cells (b.map bv).toArray 23)) w.heap.size 23 a ∧ Arr ((w.alloc (.cells (a.map bv).toArray 23)).alloc (.cells (b.map bv).toArray 23)) (w.heap.size + 1) 23 b ∧
    Below w.heap.size w ((w.alloc (.cells (a.map bv).toArray 23)).alloc (.cells (b.map bv).toArray 23)) := by
  have h2 := Arr.new (w.alloc (.cells (a.map bv).toArray 23)) 23 b
  rw [World.size_alloc] at h2
  exact ⟨(Arr.new w _ a).later ((Below.refl _ _).alloc (Nat.le_refl _) _), h2, ((Below.refl _ _).alloc (Nat.le_refl _) _).alloc (by simp) _⟩
theorem keys3 (w : World) (a b c : List UInt8) : Arr (((w.alloc (.cells (a.map bv).toArray 23)).alloc (.cells (b.map bv).toArray 23)).alloc (.cells (c.map bv).toArray 23)) w.heap.size 23 a ∧ Arr (((w.alloc (.cells (a.map bv).toArray 23)).alloc (.cells (b.map bv).toArray 23)).alloc (.cells (c.map bv).toArray 23)) (w.heap.size + 1) 23 b ∧
    Arr (((w.alloc (.cells (a.map bv).toArray 23)).alloc (.cells (b.map bv).toArray 23)).alloc (.cells (c.map bv).toArray 23)) (w.heap.size + 1 + 1) 23 c ∧ Below w.heap.size w (((w.alloc (.cells (a.map bv).toArray 23)).alloc (.cells (b.map bv).toArray 23)).alloc (.cells (c.map bv).toArray 23)) := by
  obtain ⟨h1, h2, h3⟩ := keys2 w a b
  have h4 := Arr.new ((w.alloc (.cells (a.map bv).toArray 23)).alloc (.cells (b.map bv).toArray 23)) 23 c
  rw [World.size_alloc, World.size_alloc] at h4
  exact ⟨h1.later ((Below.refl _ _).alloc (Nat.le_refl _) _), h2.later ((Below.refl _ _).alloc (Nat.le_refl _) _), h4, h3.alloc (by simp; omega) _⟩
/-- An element in a block. -/
def Cel (W : World) (g : Nat) (vs : List Value) : Prop := W.heap[g]? = some (.cells vs.toArray 41 (0, 0))
theorem Cel.lt {w : World} {g : Nat} {l : List Value} (h : Cel w g l) : g < w.heap.size := (Array.getElem?_eq_some_iff.1 h).1
theorem Cel.later {w w' : World} {g : Nat} {l : List Value} (h : Cel w g l) (hb : Below w.heap.size w w') : Cel w' g l := by
  unfold Cel
  rw [hb.block g h.lt]
  exact h
theorem Cel.below {B : Nat} {w w' : World} {g : Nat} {l : List Value} (h : Cel w g l) (hb : Below B w w') (hg : g < B) : Cel w' g l := by
  unfold Cel
  rw [hb.block g hg]
  exact h
theorem Cel.put_other {w : World} {g g' : Nat} {l : List Value} (h : Cel w g l) (hne : g ≠ g') (cs : Array Value) : Cel (w.setRow g' cs) g l := by
  unfold Cel
  rw [setRow_other _ _ _ _ hne]
  exact h
theorem Arr.put_other {w : World} {g g' : Nat} {t : TypeId} {l : List UInt8} (h : Arr w g t l) (hne : g ≠ g') (cs : Array Value) : Arr (w.setRow g' cs) g t l := by
  unfold Arr
  rw [setRow_other _ _ _ _ hne]
  exact h
theorem zeroE_len : zeroE.length = 5 := by decide
theorem Cel.new (w : World) (l : List Value) : Cel (w.alloc (.cells l.toArray 41)) w.heap.size l := heap_alloc_new w _
theorem elm_info {cs : List Value} {x : Nat} (h : Elm cs x) : (Tryd.prog.info? 41).map (·.size) = some cs.toArray.size := by
  have e1 : (Tryd.prog.info? 41).map (·.size) = some 5 := by kernel_rfl
  rw [e1]; simp [h.len]
theorem elm_store (w : World) {cs : List Value} {x : Nat} (h : Elm cs x) (c : Array Value) (hc : c.size = 5) :
    (storeCells ⟨w.heap.size, 0, none⟩ cs).run Tryd.prog (w.alloc (.cells c 41)) = .ok () (w.alloc (.cells cs.toArray 41)) :=
  run_store_new w 41 cs 5 h.len (by kernel_rfl) h.one c hc
/-- Bytes of two numbers that are the same. -/
theorem key_same (w : World) (n m : Nat) (h : n = m) : (Op.equalIn 10000 23 (.agg ((leB 32 n).map bv).toArray) (.agg ((leB 32 m).map bv).toArray)).run Tryd.prog w = .ok true w := by
  have := arr_eq w 23 32 (leB 32 n) (leB 32 m) (leB_length _ _) (leB_length _ _) Tryd.underlying23
  rw [h, decide_eq_true rfl] at this
  rw [h]
  exact this
theorem leB_zero : ∀ k, leB k 0 = List.replicate k 0
  | 0 => rfl
  | k + 1 => by rw [leB, Nat.zero_div, leB_zero k, List.replicate_succ]; rfl
/-- Bytes of 0, held against a key of 0s. -/
theorem key_null (w : World) (n : Nat) (h : n = 0) : (Op.equalIn 10000 23 (.agg ((leB 32 n).map bv).toArray) (.agg #[.int .u8 0, .int .u8 0, .int .u8 0, .int .u8 0, .int .u8 0, .int .u8 0, .int .u8 0, .int .u8 0, .int .u8 0, .int .u8 0, .int .u8 0, .int .u8 0, .int .u8 0, .int .u8 0, .int .u8 0, .int .u8 0, .int .u8 0, .int .u8 0, .int .u8 0, .int .u8 0, .int .u8 0, .int .u8 0, .int .u8 0, .int .u8 0, .int .u8 0, .int .u8 0, .int .u8 0, .int .u8 0, .int .u8 0, .int .u8 0, .int .u8 0, .int .u8 0])).run Tryd.prog w = .ok true w := by
  have := arr_eq w 23 32 (leB 32 n) (List.replicate 32 0) (leB_length _ _) rfl Tryd.underlying23
  rw [h, leB_zero, decide_eq_true rfl] at this
  rw [h, leB_zero]
  exact this
theorem key_byte1 (w : World) (n : Nat) (h : n = 1) : (Op.equalIn 10000 23 (.agg ((leB 32 n).map bv).toArray) (.agg #[.int .u8 1, .int .u8 0, .int .u8 0, .int .u8 0, .int .u8 0, .int .u8 0, .int .u8 0, .int .u8 0, .int .u8 0, .int .u8 0, .int .u8 0, .int .u8 0, .int .u8 0, .int .u8 0, .int .u8 0, .int .u8 0, .int .u8 0, .int .u8 0, .int .u8 0, .int .u8 0, .int .u8 0, .int .u8 0, .int .u8 0, .int .u8 0, .int .u8 0, .int .u8 0, .int .u8 0, .int .u8 0, .int .u8 0, .int .u8 0, .int .u8 0, .int .u8 0])).run Tryd.prog w = .ok true w := by
  have e : leB 32 n = 1 :: List.replicate 31 0 := by rw [h]; decide
  have := arr_eq w 23 32 (leB 32 n) (1 :: List.replicate 31 0) (leB_length _ _) rfl Tryd.underlying23
  rw [e, decide_eq_true rfl] at this
  rw [e]
  exact this
theorem key_byte2 (w : World) (n : Nat) (h : n = 2) : (Op.equalIn 10000 23 (.agg ((leB 32 n).map bv).toArray) (.agg #[.int .u8 2, .int .u8 0, .int .u8 0, .int .u8 0, .int .u8 0, .int .u8 0, .int .u8 0, .int .u8 0, .int .u8 0, .int .u8 0, .int .u8 0, .int .u8 0, .int .u8 0, .int .u8 0, .int .u8 0, .int .u8 0, .int .u8 0, .int .u8 0, .int .u8 0, .int .u8 0, .int .u8 0, .int .u8 0, .int .u8 0, .int .u8 0, .int .u8 0, .int .u8 0, .int .u8 0, .int .u8 0, .int .u8 0, .int .u8 0, .int .u8 0, .int .u8 0])).run Tryd.prog w = .ok true w := by
  have e : leB 32 n = 2 :: List.replicate 31 0 := by rw [h]; decide
  have := arr_eq w 23 32 (leB 32 n) (2 :: List.replicate 31 0) (leB_length _ _) rfl Tryd.underlying23
  rw [e, decide_eq_true rfl] at this
  rw [e]
  exact this
end Go.Proofs.YtmdoojfcgbokjaaDoor
