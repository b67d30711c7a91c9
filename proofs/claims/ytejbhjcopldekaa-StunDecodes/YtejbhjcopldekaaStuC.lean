/- The program's maps of types; its Right (stage 12). -/
import Derived.Test.YtejbhjcopldekaaStuB
import Derived.Maps.OwnSet
import Derived.Maps.RangeWalk
namespace Go.Proofs.Ytejbhjcopldekaa
set_option linter.unusedVariables false
set_option maxRecDepth 100000
open Go.RowKit
open Go.Maps (Keyed IsMap Tidy)

/-- A map's literal puts its entries in one by one. -/
theorem wpList_insert_own {H : Type} {P : Program} (w : World) {ops : Array Oper} {rest : List Oper} {o : Oper} {a : Act} {Q : Exit → Act → World → Prop}
    (hg : o.guard = none) (m x v : Operand) (t : TypeId) (hop : o.op = Op.insert t m x v)
    (k e : TypeId) (K : Keyed P k) (ht : P.underlying t = some (.map k e)) (R : Value → Option (DataW H × List MemPlace)) (b n : Nat) (D : DataW H)
    (hm : a.eval m = .map (some b)) (hown : w.ownsMap P k R b n D) (hn : n < maxLen) (key val : Value) (kl : Lit) (hx : a.eval x = key) (hv : a.eval v = val) (hkey : keyOf P k key = some kl)
    (d : DataW H) (ps : List MemPlace) (hval : R val = some (d, ps))
    (hK : ∀ w', w'.ownsMap P k R b (n + 1) (D.put kl d) → w.grownBy w' (some b) → wpList P ops Q rest (a.put o.dst undef) w') :
    wpList P ops Q (o :: rest) a w := by
  refine wpList_plain hg fun K' hK' => ?_
  obtain ⟨w', hrun, r1, r2⟩ := hown.update K ht hn hkey hval
  unfold Oper.wp
  simp [execOp, hop, hm, hx, hv, hrun, Result.andThen]
  exact hK' _ _ (hK w' r1 r2)
theorem keyedI : Keyed Try.prog 3 := Maps.int_keyed Try.underlying3
theorem zeroI (w : World) : (zeroValue 3).run Try.prog w = .ok (.int .i64 0) w := by kernel_rfl
theorem zeroN (w : World) : (zeroValue 75).run Try.prog w = .ok (.agg #[]) w := by kernel_rfl
/-- What the types' map holds; what the map of those that are known holds. -/
def TyD : DataW Unit := (((DataW.map []).put (.int .i64 0) (.lit (.int .i64 1))).put (.int .i64 2) (.lit (.int .i64 257))).put (.int .i64 3) (.lit (.int .i64 273))
def KnD : DataW Unit := ((((((((DataW.map []).put (.int .i64 1) (.agg [])).put (.int .i64 6) (.agg [])).put (.int .i64 8) (.agg [])).put (.int .i64 9) (.agg [])).put (.int .i64 10) (.agg [])).put (.int .i64 20) (.agg [])).put (.int .i64 21) (.agg [])).put (.int .i64 32) (.agg [])
theorem tyD_has (c : Int) : Maps.has TyD (.int .i64 c) = decide (c = 0 ∨ c = 2 ∨ c = 3) := by
  have h : TyD = .map [(.int .i64 0, .lit (.int .i64 1)), (.int .i64 2, .lit (.int .i64 257)), (.int .i64 3, .lit (.int .i64 273))] := by rfl
  rw [h]
  simp only [Maps.has, List.any_cons, List.any_nil, Lit.sameKey]
  by_cases h0 : c = 0
  · simp [h0]
  · by_cases h2 : c = 2
    · simp [h2]
    · by_cases h3 : c = 3
      · simp [h3]
      · simp [h0, h2, h3, Ne.symm h0, Ne.symm h2, Ne.symm h3]
theorem tyD_at (c : Int) (hc : c = 0 ∨ c = 2 ∨ c = 3) : TyD.atKey (.int .i64 c) (.lit (.int .i64 0)) = .lit (.int .i64 (sKind c : Int)) := by
  rcases hc with rfl | rfl | rfl <;> rfl
theorem knD_has (c : Int) : Maps.has KnD (.int .i64 c) = sKnown c := by
  have h : KnD = .map [(.int .i64 1, .agg []), (.int .i64 6, .agg []), (.int .i64 8, .agg []), (.int .i64 9, .agg []), (.int .i64 10, .agg []), (.int .i64 20, .agg []), (.int .i64 21, .agg []), (.int .i64 32, .agg [])] := by rfl
  rw [h]
  simp only [Maps.has, List.any_cons, List.any_nil, Lit.sameKey, sKnown, true_and, Bool.or_false]
  rw [← Bool.decide_or, ← Bool.decide_or, ← Bool.decide_or, ← Bool.decide_or, ← Bool.decide_or, ← Bool.decide_or, ← Bool.decide_or]
  apply decide_eq_decide.2
  omega
theorem types_any (w : World) : Calls Try.prog 25 #[] w fun e w' => e = .returned (.map (some w.heap.size)) ∧ Below w.heap.size w w' ∧ w'.ownsMap (H := Unit) Try.prog 3 (plainElem Try.prog 3) w.heap.size 3 TyD := by
  have hmm := @run_makeMap Try.prog
  have hw1 : (Lit.int .i64 1).wf = true := by decide
  have hw2 : (Lit.int .i64 257).wf = true := by decide
  have hw3 : (Lit.int .i64 273).wf = true := by decide
  have k1 : keyOf Try.prog 3 (.int .i64 0) = some (.int .i64 0) := Maps.keyOf_int_mk Try.underlying3 (by decide)
  have k2 : keyOf Try.prog 3 (.int .i64 2) = some (.int .i64 2) := Maps.keyOf_int_mk Try.underlying3 (by decide)
  have k3 : keyOf Try.prog 3 (.int .i64 3) = some (.int .i64 3) := Maps.keyOf_int_mk Try.underlying3 (by decide)
  have h0 := World.ownsMap_made (H := Unit) w Try.prog 3 (plainElem Try.prog 3)
  have hb0 : Below w.heap.size w (w.alloc (.map #[] 0)) := (Below.refl _ _).alloc (Nat.le_refl _) _
  go_enter Try.func25, Try.ntmps25
  go_wp2_with (first
    | (refine wpList_insert_own _ rfl _ _ _ 59 rfl 3 3 keyedI Try.underlying59 _ w.heap.size 0 (DataW.map []) rfl h0 (by unfold maxLen; omega) _ _ (.int .i64 0) rfl rfl k1 _ [] (plainElem_int Try.underlying3 hw1) ?_; intro w1 o1 g1)
    | (refine wpList_insert_own _ rfl _ _ _ 59 rfl 3 3 keyedI Try.underlying59 _ w.heap.size 1 _ rfl o1 (by unfold maxLen; omega) _ _ (.int .i64 2) rfl rfl k2 _ [] (plainElem_int Try.underlying3 hw2) ?_; intro w2 o2 g2)
    | (refine wpList_insert_own _ rfl _ _ _ 59 rfl 3 3 keyedI Try.underlying59 _ w.heap.size 2 _ rfl o2 (by unfold maxLen; omega) _ _ (.int .i64 3) rfl rfl k3 _ [] (plainElem_int Try.underlying3 hw3) ?_; intro w3 o3 g3))
  go_ret
  have b1 := hb0.grown g1 (by simp) (fun k hk => by cases hk; exact Nat.le_refl _)
  have b2 := b1.grown g2 b1.size (fun k hk => by cases hk; exact Nat.le_refl _)
  have b3 := b2.grown g3 b2.size (fun k hk => by cases hk; exact Nat.le_refl _)
  exact ⟨rfl, b3, o3⟩
theorem sknown_any (w : World) : Calls Try.prog 44 #[] w fun e w' => e = .returned (.map (some w.heap.size)) ∧ Below w.heap.size w w' ∧ w'.ownsMap (H := Unit) Try.prog 3 unitElem w.heap.size 8 KnD := by
  have hmm := @run_makeMap Try.prog
  have k1 : keyOf Try.prog 3 (.int .i64 1) = some (.int .i64 1) := Maps.keyOf_int_mk Try.underlying3 (by decide)
  have k6 : keyOf Try.prog 3 (.int .i64 6) = some (.int .i64 6) := Maps.keyOf_int_mk Try.underlying3 (by decide)
  have k8 : keyOf Try.prog 3 (.int .i64 8) = some (.int .i64 8) := Maps.keyOf_int_mk Try.underlying3 (by decide)
  have k9 : keyOf Try.prog 3 (.int .i64 9) = some (.int .i64 9) := Maps.keyOf_int_mk Try.underlying3 (by decide)
  have k10 : keyOf Try.prog 3 (.int .i64 10) = some (.int .i64 10) := Maps.keyOf_int_mk Try.underlying3 (by decide)
  have k20 : keyOf Try.prog 3 (.int .i64 20) = some (.int .i64 20) := Maps.keyOf_int_mk Try.underlying3 (by decide)
  have k21 : keyOf Try.prog 3 (.int .i64 21) = some (.int .i64 21) := Maps.keyOf_int_mk Try.underlying3 (by decide)
  have k32 : keyOf Try.prog 3 (.int .i64 32) = some (.int .i64 32) := Maps.keyOf_int_mk Try.underlying3 (by decide)
  have h0 := World.ownsMap_made (H := Unit) w Try.prog 3 unitElem
  have hb0 : Below w.heap.size w (w.alloc (.map #[] 0)) := (Below.refl _ _).alloc (Nat.le_refl _) _
  go_enter Try.func44, Try.ntmps44
  go_wp2_with (first
    | (refine wpList_insert_own _ rfl _ _ _ 73 rfl 3 75 keyedI Try.underlying73 _ w.heap.size 0 (DataW.map []) rfl h0 (by unfold maxLen; omega) _ _ (.int .i64 1) rfl rfl k1 (.agg []) [] unitElem_mk ?_; intro w1 o1 g1)
    | (refine wpList_insert_own _ rfl _ _ _ 73 rfl 3 75 keyedI Try.underlying73 _ w.heap.size 1 _ rfl o1 (by unfold maxLen; omega) _ _ (.int .i64 6) rfl rfl k6 (.agg []) [] unitElem_mk ?_; intro w2 o2 g2)
    | (refine wpList_insert_own _ rfl _ _ _ 73 rfl 3 75 keyedI Try.underlying73 _ w.heap.size 2 _ rfl o2 (by unfold maxLen; omega) _ _ (.int .i64 8) rfl rfl k8 (.agg []) [] unitElem_mk ?_; intro w3 o3 g3)
    | (refine wpList_insert_own _ rfl _ _ _ 73 rfl 3 75 keyedI Try.underlying73 _ w.heap.size 3 _ rfl o3 (by unfold maxLen; omega) _ _ (.int .i64 9) rfl rfl k9 (.agg []) [] unitElem_mk ?_; intro w4 o4 g4)
    | (refine wpList_insert_own _ rfl _ _ _ 73 rfl 3 75 keyedI Try.underlying73 _ w.heap.size 4 _ rfl o4 (by unfold maxLen; omega) _ _ (.int .i64 10) rfl rfl k10 (.agg []) [] unitElem_mk ?_; intro w5 o5 g5)
    | (refine wpList_insert_own _ rfl _ _ _ 73 rfl 3 75 keyedI Try.underlying73 _ w.heap.size 5 _ rfl o5 (by unfold maxLen; omega) _ _ (.int .i64 20) rfl rfl k20 (.agg []) [] unitElem_mk ?_; intro w6 o6 g6)
    | (refine wpList_insert_own _ rfl _ _ _ 73 rfl 3 75 keyedI Try.underlying73 _ w.heap.size 6 _ rfl o6 (by unfold maxLen; omega) _ _ (.int .i64 21) rfl rfl k21 (.agg []) [] unitElem_mk ?_; intro w7 o7 g7)
    | (refine wpList_insert_own _ rfl _ _ _ 73 rfl 3 75 keyedI Try.underlying73 _ w.heap.size 7 _ rfl o7 (by unfold maxLen; omega) _ _ (.int .i64 32) rfl rfl k32 (.agg []) [] unitElem_mk ?_; intro w8 o8 g8))
  go_ret
  have b1 := hb0.grown g1 (by simp) (fun k hk => by cases hk; exact Nat.le_refl _)
  have b2 := b1.grown g2 b1.size (fun k hk => by cases hk; exact Nat.le_refl _)
  have b3 := b2.grown g3 b2.size (fun k hk => by cases hk; exact Nat.le_refl _)
  have b4 := b3.grown g4 b3.size (fun k hk => by cases hk; exact Nat.le_refl _)
  have b5 := b4.grown g5 b4.size (fun k hk => by cases hk; exact Nat.le_refl _)
  have b6 := b5.grown g6 b5.size (fun k hk => by cases hk; exact Nat.le_refl _)
  have b7 := b6.grown g7 b6.size (fun k hk => by cases hk; exact Nat.le_refl _)
  have b8 := b7.grown g8 b7.size (fun k hk => by cases hk; exact Nat.le_refl _)
  exact ⟨rfl, b8, o8⟩
end Go.Proofs.Ytejbhjcopldekaa
