/- A cipher, and a mixer, as they lie in memory (stage 9). -/
import Derived.Test.YtdancpcnjklifaaDoorMathX
import Derived.Test.YtdancpcnjklifaaDoorArrB
import Derived.Test.YtdancpcnjklifaaDoorAppW
import Derived.Test.YtdancpcnjklifaaDoorPartW
import Derived.Test.YtdancpcnjklifaaDoorFillW
import Derived.Test.YtdancpcnjklifaaDoorBytB
import Derived.DeepKeys
namespace Go.Proofs.YtdancpcnjklifaaDoor
set_option linter.unusedVariables false
set_option maxRecDepth 100000
open Go.RowKit

theorem cipup {p : Prop} (h : p) : Hid p := h
/-- The cells of a cipher. -/
def CiV (key : List UInt8) (has : Bool) (n : Nat) : List Value := key.map bv ++ [.bool has, .int .u64 (n : Int)]
theorem CiV_length (key : List UInt8) (has : Bool) (n : Nat) : (CiV key has n).length = key.length + 2 := by simp [CiV]
theorem CiV_one (key : List UInt8) (has : Bool) (n : Nat) : ∀ v ∈ CiV key has n, v.oneCell' = true := by
  intro v hv
  unfold CiV at hv
  rcases List.mem_append.1 hv with h | h
  · exact bv_oneCell key v h
  · simp only [List.mem_cons, List.not_mem_nil, or_false] at h
    rcases h with rfl | rfl <;> rfl
theorem ci_info (key : List UInt8) (has : Bool) (n : Nat) (hk : key.length = 32) : (Tryd.prog.info? 26).map (·.size) = some (CiV key has n).toArray.size := by
  have e1 : (Tryd.prog.info? 26).map (·.size) = some 34 := by kernel_rfl
  rw [e1]; simp [CiV, hk]
/-- A cipher in its block. -/
structure CiIs (W : World) (g : Nat) (key : List UInt8) (has : Bool) (n : Nat) : Prop where
  row : W.heap[g]? = some (.cells (CiV key has n).toArray 26 (0, 0))
  k : key.length = 32
section
variable {W W' : World} {g : Nat} {key : List UInt8} {has : Bool} {n : Nat}
theorem CiIs.lt (h : CiIs W g key has n) : g < W.heap.size := (Array.getElem?_eq_some_iff.1 h.row).1
theorem CiIs.later (h : CiIs W g key has n) (hb : Below W.heap.size W W') : CiIs W' g key has n := ⟨by rw [hb.block g h.lt]; exact h.row, h.k⟩
theorem CiIs.but {g' : Nat} (h : CiIs W g key has n) (hG : W.grownBy W' (some g')) (hne : g ≠ g') : CiIs W' g key has n := ⟨by rw [hG.block g h.lt (fun e => hne (by cases e; rfl))]; exact h.row, h.k⟩
theorem CiIs.num (h : CiIs W g key has n) : W.cell? ⟨g, 33, none⟩ = some (.int .u64 (n : Int)) ∧ W.frozen? ⟨g, 33, none⟩ = false := by
  refine ⟨?_, frozen_of_row W g 33 _ _ h.row⟩
  rw [cell_of_row W g 33 _ _ (0, 0) h.row]
  simp [CiV, h.k]
theorem CiIs.had (h : CiIs W g key has n) : W.cell? ⟨g, 32, none⟩ = some (.bool has) ∧ W.frozen? ⟨g, 32, none⟩ = false := by
  refine ⟨?_, frozen_of_row W g 32 _ _ h.row⟩
  rw [cell_of_row W g 32 _ _ (0, 0) h.row]
  simp [CiV, h.k]
theorem CiIs.setN (h : CiIs W g key has n) (m : Nat) : CiIs (W.setCell ⟨g, 33, none⟩ (.int .u64 (m : Int))) g key has m := by
  refine ⟨?_, h.k⟩
  rw [heap_setCell_same W g 33 _ _ _ h.row]
  congr 2
  simp [CiV, h.k]
theorem CiIs.new (w : World) (key : List UInt8) (has : Bool) (n : Nat) (hk : key.length = 32) : CiIs (w.alloc (.cells (CiV key has n).toArray 26)) w.heap.size key has n := ⟨heap_alloc_new w _, hk⟩
/-- Its key, as a row of bytes. -/
theorem CiIs.keyB (h : CiIs W g key has n) : Byt W (some ⟨g, 0, none⟩) 32 key := by
  refine ⟨h.k, .inr ⟨g, 0, rfl, fun i hi => ?_⟩⟩
  have hk := h.k
  rw [cell_of_row W g (0 + i) _ _ (0, 0) h.row, Nat.zero_add]
  have e : at8 key i = key[i]'(by omega) := at8_get key i (by omega)
  rw [e]
  simp [CiV, List.getElem?_append_left, hk, hi, bv]
/-- 'var := cipher', a new place. -/
theorem ci_store (w : World) (key : List UInt8) (has : Bool) (n : Nat) (hk : key.length = 32) (c : Array Value) (hc : c.size = 34) : (storeCells ⟨w.heap.size, 0, none⟩ (CiV key has n)).run Tryd.prog (w.alloc (.cells c 26)) = .ok () (w.alloc (.cells (CiV key has n).toArray 26)) :=
  run_store_new w _ _ 34 (by simp [CiV, hk]) (by kernel_rfl) (CiV_one key has n) c hc
end
/-- How a cipher is built of its parts. -/
def zeroCi : List Value := CiV (List.replicate 32 0) false 0
theorem ci_fill : ∀ parts, Tryd.prog.built 26 parts = Instr.fill (#[(0, 32), (32, 1), (33, 1)][·]?) zeroCi.toArray parts := fun parts => by kernel_rfl
theorem ci_built3 (key : List UInt8) (has : Bool) (n : Nat) (hk : key.length = 32) : Tryd.prog.built 26 [(0, .agg (key.map bv).toArray), (1, .bool has), (2, .int .u64 (n : Int))] = some (CiV key has n).toArray := by
  obtain ⟨Z, hZ⟩ : ∃ Z, (List.replicate 32 (0 : UInt8)).map bv = Z := ⟨_, rfl⟩
  have hZl : Z.length = 32 := by rw [← hZ]; rfl
  rw [ci_fill, zeroCi, CiV, hZ, fill_part _ _ 0 0 (key.map bv) _ (by simp [hk]) (by simp; omega)]
  simp only [List.take_zero, List.nil_append, List.length_map, hk, Nat.zero_add]
  rw [List.drop_left' hZl]
  simp [Instr.fill, Value.cells, CiV, hk, List.set_append_right]
theorem ci_built2 (key : List UInt8) (has : Bool) (hk : key.length = 32) : Tryd.prog.built 26 [(0, .agg (key.map bv).toArray), (1, .bool has)] = some (CiV key has 0).toArray := by
  obtain ⟨Z, hZ⟩ : ∃ Z, (List.replicate 32 (0 : UInt8)).map bv = Z := ⟨_, rfl⟩
  have hZl : Z.length = 32 := by rw [← hZ]; rfl
  rw [ci_fill, zeroCi, CiV, hZ, fill_part _ _ 0 0 (key.map bv) _ (by simp [hk]) (by simp; omega)]
  simp only [List.take_zero, List.nil_append, List.length_map, hk, Nat.zero_add]
  rw [List.drop_left' hZl]
  simp [Instr.fill, Value.cells, CiV, hk, List.set_append_right]
/-- Arrays of bytes within a struct, held against each other. -/
theorem arr_items9 (w : World) (A B : List UInt8) (n : Nat) (hA : A.length = n) (hB : B.length = n) : ∀ is : List Nat, (∀ i ∈ is, i < n) →
    (Op.eqItems 9998 5 1 (A.map bv).toArray (B.map bv).toArray is).run Tryd.prog w = .ok (decide (∀ i ∈ is, at8 A i = at8 B i)) w
  | [], _ => by simp [Op.eqItems]
  | i :: is, h => by
    have hi : i < n := h i (by simp)
    have he : Tryd.prog.plainKey 5 = true := by kernel_rfl
    have p1 := run_part_plain (P := Tryd.prog) w he (xs := (A.map bv).toArray) (off := i * 1) (v := bv (at8 A i)) (by simp [at8_get A i (by omega), show i < A.length by omega])
    have p2 := run_part_plain (P := Tryd.prog) w he (xs := (B.map bv).toArray) (off := i * 1) (v := bv (at8 B i)) (by simp [at8_get B i (by omega), show i < B.length by omega])
    have p3 := run_equalIn_int (P := Tryd.prog) w 9997 5 .u8 .u8 ((at8 A i).toNat : Int) ((at8 B i).toNat : Int) Tryd.underlying5
    have ih := arr_items9 w A B n hA hB is (fun j hj => h j (by simp [hj]))
    simp only [Op.eqItems, Sem.run_bind, p1, p2, bv, p3, Result.andThen_ok]
    by_cases e : at8 A i = at8 B i
    · simp [e, ih]
    · have e' : ¬ ((at8 A i).toNat : Int) = ((at8 B i).toNat : Int) := fun h => e (UInt8.toNat_inj.1 (by omega))
      simp [e, e']
theorem arr_eq9 (w : World) (t : TypeId) (n : Nat) (A B : List UInt8) (hA : A.length = n) (hB : B.length = n) (hu : Tryd.prog.underlying t = some (.array n 5)) :
    (Op.equalIn 9999 t (.agg (A.map bv).toArray) (.agg (B.map bv).toArray)).run Tryd.prog w = .ok (decide (A = B)) w := by
  obtain ⟨i0, hi, _, _, _⟩ := info_parts Tryd.infoU8
  have hc : Tryd.prog.cellsOf 5 = 1 := by kernel_rfl
  rw [run_equalIn_array (P := Tryd.prog) w 9998 _ _ hu hi, hc, arr_items9 w A B n hA hB (List.range n) (by simp)]
  congr 1
  rw [decide_eq_decide]
  constructor
  · intro h
    apply List.ext_getElem
    · omega
    · intro i h1 h2
      rw [← at8_get A i h1, ← at8_get B i h2]
      exact h i (by simp; omega)
  · intro h; rw [h]; simp
/-- Two ciphers, held against each other. -/
theorem ci_part (w : World) (key : List UInt8) (has : Bool) (n : Nat) (hk : key.length = 32) : (part 23 (CiV key has n).toArray 0).run Tryd.prog w = .ok (.agg (key.map bv).toArray) w := by
  obtain ⟨i, hi⟩ := info_of_underlying Tryd.underlying23
  have hc : Tryd.prog.cellsOf 23 = 32 := by kernel_rfl
  have he : (CiV key has n).toArray.extract 0 (0 + 32) = (key.map bv).toArray := by
    rw [← Array.toList_inj, Array.toList_extract]
    simp [CiV, List.extract, hk]
  simp only [part, isAgg, Sem.run_bind, run_underlying Tryd.underlying23, Result.andThen_ok, Sem.run_pure, if_true, run_sizeOf w hi, hc, he]
theorem ci_eqF (w : World) (A B : List UInt8) (ha hb : Bool) (n m : Nat) (xs ys : Array Value) (ka kb : Value)
  (pa : (part 23 xs 0).run Tryd.prog w = .ok ka w) (pb : (part 23 ys 0).run Tryd.prog w = .ok kb w)
  (q0 : (Op.equalIn 9999 23 ka kb).run Tryd.prog w = .ok (decide (A = B)) w)
  (a1 : (part 4 xs 32).run Tryd.prog w = .ok (.bool ha) w) (b1 : (part 4 ys 32).run Tryd.prog w = .ok (.bool hb) w)
  (a2 : (part 24 xs 33).run Tryd.prog w = .ok (.int .u64 n) w) (b2 : (part 24 ys 33).run Tryd.prog w = .ok (.int .u64 m) w)
  (q1 : (Op.equalIn 9999 4 (.bool ha) (.bool hb)).run Tryd.prog w = .ok (ha == hb) w)
  (q2 : (Op.equalIn 9999 24 (.int .u64 n) (.int .u64 m)).run Tryd.prog w = .ok ((n : Int) == (m : Int)) w) :
  (Op.equalIn 10000 26 (.agg xs) (.agg ys)).run Tryd.prog w = .ok (decide (A = B ∧ ha = hb ∧ n = m)) w := by
  have h := run_equalIn_struct (P := Tryd.prog) w 9999 26 xs ys (by simp only [Program.fieldsOf, Tryd.underlying26]) Tryd.stoodInHeld26
  refine h.trans ?_
  clear h
  have n1 : ¬ "Key" = "_" := by decide
  have n2 : ¬ "Has" = "_" := by decide
  have n3 : ¬ "N" = "_" := by decide
  simp only [Program.fieldsOf, Tryd.underlying26, Op.eqFields, ne_eq, n1, n2, n3, not_false_eq_true, if_true, Sem.run_bind, pa, pb, Result.andThen_ok, q0]
  by_cases h1 : A = B
  · simp only [h1, decide_true, Bool.not_true, Bool.false_eq_true, if_false, Sem.run_bind, a1, b1, Result.andThen_ok, q1, true_and]
    by_cases h2 : ha = hb
    · subst h2
      simp only [beq_self_eq_true, Bool.not_true, Bool.false_eq_true, if_false, Sem.run_bind, a2, b2, Result.andThen_ok, q2, true_and]
      by_cases h3 : n = m
      · subst h3
        simp
      · have h4 : ((n : Int) == (m : Int)) = false := by simp; omega
        simp [h3, h4]
    · simp [h2]
  · simp [h1]
theorem ci_eq (w : World) (A B : List UInt8) (ha hb : Bool) (n m : Nat) (hA : A.length = 32) (hB : B.length = 32) :
    (Op.equalIn 10000 26 (.agg (CiV A ha n).toArray) (.agg (CiV B hb m).toArray)).run Tryd.prog w = .ok (decide (A = B ∧ ha = hb ∧ n = m)) w :=
  ci_eqF w A B ha hb n m _ _ _ _ (ci_part w A ha n hA) (ci_part w B hb m hB) (arr_eq9 w 23 32 A B hA hB Tryd.underlying23)
    (run_part_plain w (by kernel_rfl) (by simp [CiV, hA])) (run_part_plain w (by kernel_rfl) (by simp [CiV, hB])) (run_part_plain w (by kernel_rfl) (by simp [CiV, hA])) (run_part_plain w (by kernel_rfl) (by simp [CiV, hB]))
    (run_equalIn_bool' w 9998 _ ha hb Tryd.underlying4) (run_equalIn_int w 9998 _ .u64 .u64 _ _ Tryd.underlying24)
theorem ci_built1 (n : Nat) : Tryd.prog.built 26 [(2, .int .u64 (n : Int))] = some (CiV (List.replicate 32 0) false n).toArray := by
  obtain ⟨Z, hZ⟩ : ∃ Z, (List.replicate 32 (0 : UInt8)).map bv = Z := ⟨_, rfl⟩
  have hZl : Z.length = 32 := by rw [← hZ]; rfl
  rw [ci_fill, zeroCi, CiV, CiV, hZ]
  simp [Instr.fill, Value.cells, hZl, List.set_append_right]
section
variable {ops : Array Oper} {rest : List Oper} {o : Oper} {a : Act} {w : World} {Q : Exit → Act → World → Prop}
theorem wpList_ci2 (key : List UInt8) (has : Bool) (hk : key.length = 32) (hg : o.guard = none) (x y : Operand) (ho : o.op = .build 26 #[(0, x), (1, y)])
    (hx : a.eval x = .agg (key.map bv).toArray) (hy : a.eval y = .bool has) (h : wpList Tryd.prog ops Q rest (a.put o.dst (.agg (CiV key has 0).toArray)) w) : wpList Tryd.prog ops Q (o :: rest) a w :=
  wpList_buildTo hg _ _ ho _ rfl _ (by simp [hx, hy, ci_built2 key has hk]) h
theorem wpList_ci3 (key : List UInt8) (has : Bool) (n : Nat) (hk : key.length = 32) (hg : o.guard = none) (x y z : Operand) (ho : o.op = .build 26 #[(0, x), (1, y), (2, z)])
    (hx : a.eval x = .agg (key.map bv).toArray) (hy : a.eval y = .bool has) (hz : a.eval z = .int .u64 (n : Int)) (h : wpList Tryd.prog ops Q rest (a.put o.dst (.agg (CiV key has n).toArray)) w) : wpList Tryd.prog ops Q (o :: rest) a w :=
  wpList_buildTo hg _ _ ho _ rfl _ (by simp [hx, hy, hz, ci_built3 key has n hk]) h
theorem wpList_ci1 (n : Nat) (hg : o.guard = none) (x : Operand) (ho : o.op = .build 26 #[(2, x)])
    (hx : a.eval x = .int .u64 (n : Int)) (h : wpList Tryd.prog ops Q rest (a.put o.dst (.agg (CiV (List.replicate 32 0) false n).toArray)) w) : wpList Tryd.prog ops Q (o :: rest) a w :=
  wpList_buildTo hg _ _ ho _ rfl _ (by simp [hx, ci_built1 n]) h
theorem wpList_key1 (c : UInt8) (l : List UInt8) (hl : l = c :: List.replicate 31 0) (hg : o.guard = none) (x : Operand) (ho : o.op = .build 23 #[(0, x)])
    (hx : a.eval x = .int .u8 (c.toNat : Int)) (h : wpList Tryd.prog ops Q rest (a.put o.dst (.agg (l.map bv).toArray)) w) : wpList Tryd.prog ops Q (o :: rest) a w :=
  wpList_buildTo hg _ _ ho _ rfl _ (by rw [hl]; simp only [List.map_cons, List.map_nil, List.map_toArray, hx]; kernel_rfl) h
end
theorem wpList_ci1m {ops : Array Oper} {rest : List Oper} {o : Oper} {a : Act} {w : World} {Q : Exit → Act → World → Prop} (n : Nat) (hg : Region.wanted o (yielded ops a.tmps) = true) (x : Operand) (ho : o.op = .build 26 #[(2, x)])
    (hx : a.eval x = .int .u64 (n : Int)) (h : wpList Tryd.prog ops Q rest (a.put o.dst (.agg (CiV (List.replicate 32 0) false n).toArray)) w) : wpList Tryd.prog ops Q (o :: rest) a w := by
  unfold wpList
  rw [if_pos hg]
  refine .inl ?_
  have hb := ci_built1 n
  have hr : (execOp a.eval o).run Tryd.prog w = .ok (.value (.agg (CiV (List.replicate 32 0) false n).toArray)) w := by
    unfold execOp
    simp only [ho, Sem.run_bind, run_build (P := Tryd.prog) w 26 (#[(2, x)].map fun y => (y.fst, a.eval y.snd)) (CiV (List.replicate 32 0) false n).toArray (by simp only [List.map_toArray, List.map_cons, List.map_nil, hx]; exact hb), Result.andThen_ok, Sem.run_pure]
  unfold Oper.wp
  rw [hr]
  exact h
theorem wpList_load_metC {P : Program} {ops : Array Oper} {rest : List Oper} {o : Oper} {a : Act} {w : World} {Q : Exit → Act → World → Prop} (hw : Region.wanted o (yielded ops a.tmps) = true) (ty : TypeId) (x : Operand) (ho : o.op = .load ty x)
    (g : Nat) (hx : a.eval x = .pointer (some ⟨g, 0, none⟩)) (t : TypeId) (cs : Array Value) (fr : Nat × Nat) (d : TypeDesc) (hg : w.heap[g]? = some (.cells cs t fr))
    (hu : P.underlying ty = some d) (hd : (match d with | .struct _ | .array _ _ => true | _ => false) = true) (hi : (P.info? ty).map (·.size) = some cs.size)
    (h : wpList P ops Q rest (a.put o.dst (.agg cs)) w) : wpList P ops Q (o :: rest) a w := by
  unfold wpList
  rw [if_pos hw]
  exact .inl (wp_load_row ty x ho g hx t cs fr d hg hu hd hi h)
/-- Two structs, held against each other: by what is known of it. -/
theorem exec_cmp {ev : Operand → Value} {o : Oper} {w : World} {x y : Operand} {ty ty' : TypeId} {X Y : Array Value} {b : Bool} (neq : Bool) (ho : o.op = .binOp (if neq = true then .neq else .eql) ty x y ty') (hx : ev x = .agg X) (hy : ev y = .agg Y) (hm : Tryd.prog.eqGuardType Tryd.prog.depth ty = false)
    (hq : (Op.equalIn 10000 ty (.agg X) (.agg Y)).run Tryd.prog w = .ok b w) : (execOp ev o).run Tryd.prog w = .ok (.value (.bool (if neq = true then !b else b))) w := by
  unfold execOp
  cases neq
  · simp only [Bool.false_eq_true, if_false] at ho ⊢
    simp only [ho, hx, hy, Sem.run_bind, run_eqGuard_agg w _ _ _ _ _ _ hm, Result.andThen_ok, run_eql_struct, hq, Sem.run_pure]
  · simp only [if_true] at ho ⊢
    simp only [ho, hx, hy, Sem.run_bind, run_eqGuard_agg w _ _ _ _ _ _ hm, Result.andThen_ok, run_neq_struct, hq, Sem.run_pure]
theorem wpList_cmp {ops : Array Oper} {rest : List Oper} {o : Oper} {a : Act} {w : World} {Q : Exit → Act → World → Prop} (neq : Bool) (hg : Region.wanted o (yielded ops a.tmps) = true) (x y : Operand) (ty ty' : TypeId) (ho : o.op = .binOp (if neq = true then .neq else .eql) ty x y ty') (X Y : Array Value) (hx : a.eval x = .agg X) (hy : a.eval y = .agg Y) (hm : Tryd.prog.eqGuardType Tryd.prog.depth ty = false) (b : Bool)
    (hq : (Op.equalIn 10000 ty (.agg X) (.agg Y)).run Tryd.prog w = .ok b w) (h : wpList Tryd.prog ops Q rest (a.put o.dst (.bool (if neq = true then !b else b))) w) : wpList Tryd.prog ops Q (o :: rest) a w := by
  unfold wpList
  rw [if_pos hg]
  refine .inl ?_
  unfold Oper.wp
  rw [exec_cmp neq ho hx hy hm hq]
  exact h
/-- What a new place for a cipher holds first. -/
def ciZ : Array Value := #[.int .u8 0, .int .u8 0, .int .u8 0, .int .u8 0, .int .u8 0, .int .u8 0, .int .u8 0, .int .u8 0, .int .u8 0, .int .u8 0, .int .u8 0, .int .u8 0, .int .u8 0, .int .u8 0, .int .u8 0, .int .u8 0, .int .u8 0, .int .u8 0, .int .u8 0, .int .u8 0, .int .u8 0, .int .u8 0, .int .u8 0, .int .u8 0, .int .u8 0, .int .u8 0, .int .u8 0, .int .u8 0, .int .u8 0, .int .u8 0, .int .u8 0, .int .u8 0, .bool false, .int .u64 0]
end Go.Proofs.YtdancpcnjklifaaDoor
