/- 'append(b, make([]byte, k)...)' onto a row of one's own. -/
import Derived.Test.YtejbhjcopldekaaTools
import Derived.Lib.AppendZerosOnto
namespace Go.Proofs.Ytejbhjcopldekaa
set_option linter.unusedVariables false
set_option maxRecDepth 100000
open Go.RowKit

theorem zero_bytes (k : Nat) : (Builtin.zeroCells (Value.int .u8 0).cells k).toList = (List.replicate k (0 : UInt8)).map bv := by
  apply List.ext_getElem
  · simp [Builtin.zeroCells, Value.cells]
  · intro i h1 h2
    have e : bv (0 : UInt8) = .int .u8 0 := rfl
    simp [Builtin.zeroCells, Value.cells, e, Nat.mod_one]
theorem append_zeros (w : World) (base g n cap : Nat) (xs : List UInt8) (k : Nat) (hown : w.ownsRow base 5 1 (.slice (some ⟨g, 0, none⟩) n cap) n (xs.map bv)) (hk : 0 < k) (hsm : n + k ≤ 1000000) (hb : base ≤ w.heap.size) :
    ∃ v' w', (Builtin.append_ #[32, 3] 32 #[.slice (some ⟨g, 0, none⟩) n cap, .int .i64 (k : Int)]).run Try.prog w = .ok v' w' ∧ w'.ownsRow base 5 1 v' (n + k) ((xs ++ List.replicate k 0).map bv) ∧ w.grownBy w' (some g) := by
  obtain ⟨i0, hi, hz0, hz1, hz2⟩ := info_parts Try.infoU8
  have hl : xs.length = n := by have := hown.1; simpa using this
  have hzl := zero_bytes k
  obtain ⟨zs, hzs⟩ : ∃ zs, (List.replicate k (0 : UInt8)).map bv = zs := ⟨_, rfl⟩
  have hzlen : zs.length = k := by rw [← hzs]; simp
  have hz1c : ∀ u ∈ zs, u.oneCell' = true := by rw [← hzs]; exact bv_oneCell _
  rw [hzs] at hzl
  rw [List.map_append, hzs]
  rcases hown.2 with ⟨e, _⟩ | ⟨g', cap', cur, e, hbg, hg, hnc, hcm, hcs, htake⟩
  · cases e
  · cases e
    rw [Nat.mul_one] at htake hcs
    have hw : IntKind.i64.wrap (k : Int) = k := by rw [IntKind.wrap_i64]; omega
    have hneg : ¬ ((k : Int) < 0) := by omega
    have hk0 : ¬ k = 0 := by omega
    have h48i : ¬ (281474976710656 < (k : Int)) := by omega
    by_cases hroom : n + k ≤ cap
    · have hst := run_storeCells_at Try.prog g n 5 zs 0 cur w hg (by omega) hz1c
      simp only [Nat.add_zero] at hst
      have hr : (Builtin.append_ #[32, 3] 32 #[.slice (some ⟨g, 0, none⟩) n cap, .int .i64 (k : Int)]).run Try.prog w = .ok (.slice (some ⟨g, 0, none⟩) (n + k) cap) (w.setRow g (cur.toList.take n ++ zs ++ cur.toList.drop (n + zs.length)).toArray) := by
        simp [Builtin.append_, run_underlying Try.underlying32, run_underlying Try.underlying3, sizeOf, typeInfo, zeroValue, hi, hz0, hz1, hz2, asInt, asIntOf, hw, hneg, hk0, h48i, hroom, Addr.add_lit, hzl, hst]
      refine ⟨_, _, hr, ⟨by simp [hl, hzlen], .inr ⟨g, cap, _, rfl, hbg, setRow_heap w g cur _ _ _ hg, hroom, hcm, ?_, ?_⟩⟩, ⟨rfl, rfl, rfl, by simp, fun j _ hj => setRow_other w g j _ (fun e => hj (by simp [e]))⟩⟩
      · simp only [List.size_toArray, List.length_append, List.length_take, List.length_drop, Array.length_toList]
        omega
      · rw [htake, Nat.mul_one]
        have : (xs.map bv ++ zs).length = n + k := by simp [hl, hzlen]
        rw [← this]
        exact List.take_left
    · have hold : (Builtin.firstCells i0.size n (.slice (some ⟨g, 0, none⟩) n cap)).run Try.prog w.drew = .ok (xs.map bv).toArray w.drew := by
        rw [hz1]
        have := run_firstCells_some (P := Try.prog) w.drew 1 n ⟨g, 0, none⟩ n cap (xs.map bv) (by simp [hl]) (hown.cells (g := g) rfl)
        exact this
      have hr := Lib.run_append_grow_zeros (P := Try.prog) w 32 3 32 5 i0 (.int .u8 0) .i64 .i64 Try.underlying32 Try.underlying3 hi hz0 (some ⟨g, 0, none⟩) n cap (xs.map bv) hold k hk (by omega) (by omega) (by omega) (by rw [hz2]; omega) (by rw [hz2]; exact growslice_fits (by omega) (by omega))
      refine ⟨_, _, hr, ⟨by simp [hl, hzlen], .inr ⟨w.heap.size, _, _, rfl, hb, heap_alloc_new w.drew _, grownCap_ge w _ _ _, grownCap_le_maxLen w _ _ _ (by unfold maxLen; omega), ?_, ?_⟩⟩, ⟨rfl, rfl, rfl, by simp, fun j hj _ => Below.heap_alloc w.drew _ j hj⟩⟩
      · have := grownCap_ge w (n + k) cap 5
        simp [size_zeroCells, hl, Value.cells]
        omega
      · rw [Nat.mul_one]
        have e1 : (xs.map bv ++ zs).length = n + k := by simp [hl, hzlen]
        rw [← e1]
        simp only [Array.toList_append, hzl]
        exact List.take_left
/-- Such an append, for the walk. -/
theorem wpList_append_run2 {P : Program} {w : World} {ops : Array Oper} {rest : List Oper} {o : Oper} {a : Act} {Q : Exit → Act → World → Prop} (hgd : o.guard = none) (s x : Operand) (t u : TypeId)
    (ho : o.op = .call { callee := .builtin .append, args := #[s, x], argTypes := #[t, u] }) (vs vx v' : Value) (w2 : World) (hs : a.eval s = vs) (hx : a.eval x = vx)
    (hr : (Builtin.append_ #[t, u] o.type #[vs, vx]).run P w = .ok v' w2) (h : wpList P ops Q rest (a.put o.dst v') w2) : wpList P ops Q (o :: rest) a w := by
  refine wpList_plain hgd fun K hK => ?_
  unfold Oper.wp execOp
  simp only [ho, resolve, invoke, builtin, Sem.run_bind, Sem.run_pure, Result.andThen_ok, List.map_toArray, List.map_cons, List.map_nil, hs, hx, hr]
  exact hK _ _ h
end Go.Proofs.Ytejbhjcopldekaa
