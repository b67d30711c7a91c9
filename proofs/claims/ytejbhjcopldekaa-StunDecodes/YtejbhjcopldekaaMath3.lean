/- Slices of one-cell things that lie anywhere within a row of the call's own: what an append makes of them. No program is named here. -/
import Derived.WalkKit
import Derived.ArgAppend
import Derived.WalkSpells
namespace Go.Proofs.Ytejbhjcopldekaa
set_option maxRecDepth 100000
open Go.RowKit

/-- The things that a slice leads to, which may lie anywhere within a row. -/
def Seg (w : World) (e : TypeId) (a : Option Addr) (n cap : Nat) (vs : List Value) : Prop :=
  vs.length = n ∧ ((a = none ∧ n = 0 ∧ cap = 0) ∨ ∃ g off cur, a = some ⟨g, off, none⟩ ∧ w.heap[g]? = some (.cells cur e (0, 0)) ∧ off + cap ≤ cur.size ∧ n ≤ cap ∧ ∀ i, i < n → cur[off + i]? = vs[i]?)
def blockOf (a : Option Addr) : Option Nat := a.map (·.block)

theorem Seg.nil (w : World) (e : TypeId) : Seg w e none 0 0 [] := ⟨rfl, .inl ⟨rfl, rfl, rfl⟩⟩
theorem Seg.kept {w w' : World} {e : TypeId} {a : Option Addr} {n cap : Nat} {vs : List Value} (h : Seg w e a n cap vs) (hk : ∀ g, blockOf a = some g → w'.heap[g]? = w.heap[g]?) : Seg w' e a n cap vs := by
  refine ⟨h.1, ?_⟩
  rcases h.2 with h0 | ⟨g, off, cur, rfl, hg, h1, h2, h3⟩
  · exact .inl h0
  · exact .inr ⟨g, off, cur, rfl, by rw [hk g rfl]; exact hg, h1, h2, h3⟩
theorem Seg.lt {w : World} {e : TypeId} {a : Option Addr} {n cap : Nat} {vs : List Value} (h : Seg w e a n cap vs) : ∀ g, blockOf a = some g → g < w.heap.size := by
  intro g hg
  rcases h.2 with ⟨rfl, _⟩ | ⟨g', off, cur, rfl, hh, _⟩
  · simp [blockOf] at hg
  · simp [blockOf] at hg
    subst hg
    exact (Array.getElem?_eq_some_iff.1 hh).1
theorem Seg.cell {w : World} {e : TypeId} {a : Option Addr} {n cap : Nat} {vs : List Value} (h : Seg w e a n cap vs) (i : Nat) (hi : i < n) : ∃ g off, a = some ⟨g, off, none⟩ ∧ w.cell? ⟨g, off + i, none⟩ = vs[i]? ∧ w.frozen? ⟨g, off + i, none⟩ = false := by
  rcases h.2 with ⟨_, h0, _⟩ | ⟨g, off, cur, rfl, hg, h1, h2, h3⟩
  · omega
  · exact ⟨g, off, rfl, by rw [cell_of_row w g (off + i) cur e (0, 0) hg]; exact h3 i hi, frozen_of_row w g (off + i) cur e hg⟩
theorem Seg.ofOwn {w : World} {base : Nat} {e : TypeId} {v : Value} {n : Nat} {xs : List Value} (h : w.ownsRow base e 1 v n xs) (hn : 0 < n) :
    ∃ g cap, v = .slice (some ⟨g, 0, none⟩) n cap ∧ base ≤ g ∧ Seg w e (some ⟨g, 0, none⟩) n cap xs := by
  rcases h.2 with ⟨_, h0⟩ | ⟨g, cap, cur, rfl, hb, hg, hnc, hcm, hcs, htake⟩
  · omega
  · refine ⟨g, cap, rfl, hb, by have := h.1; omega, .inr ⟨g, 0, cur, rfl, hg, by omega, hnc, fun i hi => ?_⟩⟩
    rw [← htake, List.getElem?_take, if_pos (by omega)]
    simp

theorem addr_add (g off j : Nat) : (⟨g, off, none⟩ : Addr).add j = ⟨g, off + j, none⟩ := by unfold Addr.add; split <;> simp_all

/-- One thing behind the others: it goes where there is room, or all go to a new row. -/
theorem append_seg {P : Program} (t ty e : TypeId) (i : TypeInfo) (z : Value) (bytes : Nat) (ht : P.underlying t = some (.slice e)) (hi : P.info? e = some i) (hz : i.zero = some z) (hsize : i.size = 1) (hby : i.bytes = bytes) (hzs : z.cells.size = 1)
    (w : World) (a : Option Addr) (n cap : Nat) (vs : List Value) (h : Seg w e a n cap vs) (x : Value) (hx : x.oneCell' = true) (hn : n + 1 ≤ maxLen) (hb : (n + 1) * bytes ≤ 140737488355328) :
    ∃ a' cap' w2, (Builtin.append_ #[t, t] ty #[.slice a n cap, .slice (some ⟨w.heap.size, 0, none⟩) 1 1]).run P (w.alloc (.cells #[x] e)) = .ok (.slice a' (n + 1) cap') w2 ∧
      Seg w2 e a' (n + 1) cap' (vs ++ [x]) ∧ w.grownBy w2 (blockOf a) ∧ (blockOf a' = blockOf a ∨ ∀ j, blockOf a' = some j → w.heap.size ≤ j) ∧ w.heap.size + 1 ≤ w2.heap.size := by
  have hnew : ∀ j u, [x][j]? = some u → (w.alloc (.cells #[x] e)).cell? ((⟨w.heap.size, 0, none⟩ : Addr).add j) = some u := cell_one_new _ _ _
  have h1c : ∀ u ∈ [x], u.oneCell' = true := by intro u hu; simp at hu; subst hu; exact hx
  have hv := h.1
  have hal : ∀ g, blockOf a = some g → (w.alloc (.cells #[x] e)).heap[g]? = w.heap[g]? := fun g hg => Below.heap_alloc w _ g (h.lt g hg)
  have grown_of : ∀ w2 : World, (w.alloc (.cells #[x] e)).grownBy w2 none → w.grownBy w2 (blockOf a) := fun w2 hg =>
    ⟨hg.os, hg.tape, hg.output, by have := hg.size; simp at this; omega, fun k hk hne => by rw [hg.block k (by simp; omega) (by simp)]; exact Below.heap_alloc w _ k hk⟩
  rcases h.2 with ⟨rfl, rfl, rfl⟩ | ⟨g, off, cur, rfl, hg, hoc, hnc, hcells⟩
  · obtain rfl : vs = [] := List.eq_nil_of_length_eq_zero hv
    obtain ⟨v', w2, hr, hown, hgr, _⟩ := run_append_own (P := P) (w.alloc (.cells #[x] e)) w.heap.size t ty e i z 1 bytes ht hi hz hsize hby hzs (by decide) (.slice none 0 0) 0 [] (World.ownsRow_nil _ _ _ _) ⟨w.heap.size, 0, none⟩ 1 1 [x] rfl hnew h1c hn hb (by simp)
    obtain ⟨g, cap', rfl, hbg, hseg⟩ := Seg.ofOwn hown (by omega)
    exact ⟨_, _, w2, hr, by simpa using hseg, grown_of w2 hgr, .inr (fun j hj => by simp [blockOf] at hj; omega), by have := hgr.size; simpa using this⟩
  · have hold : ∀ j u, vs[j]? = some u → (w.alloc (.cells #[x] e)).cell? ((⟨g, off, none⟩ : Addr).add j) = some u := by
      intro j u hj
      have hjn : j < n := by
        rcases Nat.lt_or_ge j vs.length with hh | hh
        · omega
        · rw [List.getElem?_eq_none hh] at hj; cases hj
      rw [addr_add, cell_of_row _ g (off + j) cur e (0, 0) (by rw [hal g rfl]; exact hg), hcells j hjn]
      exact hj
    by_cases hroom : n + 1 ≤ cap
    · have hgA : (w.alloc (.cells #[x] e)).heap[g]? = some (.cells cur e (0, 0)) := by rw [hal g rfl]; exact hg
      have hr := run_append_room_cells (P := P) (w.alloc (.cells #[x] e)) t ty e i ht hi g off n cap ⟨w.heap.size, 0, none⟩ 1 1 [x] (by simp [hsize]) hnew h1c hroom
        (by intro j hj; simp at hj; subst hj
            rw [hsize, Nat.mul_one, cell_of_row _ g _ cur e (0, 0) hgA]; simp; omega)
        (by intro j hj; exact frozen_of_row _ g _ cur e hgA)
      rw [hsize, Nat.mul_one] at hr
      have hset : (w.alloc (.cells #[x] e)).setCells g (off + n) [x] = (w.alloc (.cells #[x] e)).setCell ⟨g, off + n, none⟩ x := rfl
      rw [hset] at hr
      refine ⟨_, _, _, hr, ⟨by simp [hv], .inr ⟨g, off, cur.setIfInBounds (off + n) x, rfl, heap_setCell_same _ g (off + n) cur e x hgA, by simpa using hoc, hroom, ?_⟩⟩, ?_, .inl rfl, by simp [World.setCell]⟩
      · intro j hj
        rw [Array.getElem?_setIfInBounds]
        by_cases hjn : j = n
        · subst hjn
          rw [if_pos rfl, if_pos (by omega)]
          simp [← hv]
        · rw [if_neg (by omega), hcells j (by omega), List.getElem?_append_left (by omega)]
      · refine ⟨rfl, rfl, rfl, by simp, fun k hk hne => ?_⟩
        rw [heap_setCell_other _ ⟨g, off + n, none⟩ k x (by intro e; apply hne; simp [blockOf, e])]
        exact Below.heap_alloc w _ k hk
    · obtain ⟨v', w2, hr, hown, hgr⟩ := run_append_arg_grows (P := P) (w.alloc (.cells #[x] e)) t ty e i z 1 bytes ht hi hz hsize hby hzs (by decide) ⟨g, off, none⟩ n cap vs (by omega) hold ⟨w.heap.size, 0, none⟩ 1 1 [x] rfl hnew (by omega) hn hb
      obtain ⟨g', cap', rfl, hbg, hseg⟩ := Seg.ofOwn hown (by omega)
      exact ⟨_, _, w2, hr, hseg, grown_of w2 hgr, .inr (fun j hj => by simp [blockOf] at hj; simp at hbg; omega), by have := hgr.size; simpa using this⟩
theorem below_append {B : Nat} {W w2 : World} {a : Option Addr} (hg : W.grownBy w2 (blockOf a)) (hs : W.heap.size + 1 ≤ w2.heap.size) (hB : B ≤ W.heap.size) (ha : ∀ j, blockOf a = some j → B ≤ j) (o : Obj) : Below B (W.alloc o) w2 :=
  ⟨hg.os, hg.tape, hg.output, by simpa using hs, fun j hj => by
    rw [hg.block j (by omega) (by intro e; have := ha j e.symm; omega)]
    exact (Below.heap_alloc W o j (by omega)).symm⟩
/-- An append whose run is known, for the walk. -/
theorem wpList_append_run {P : Program} {w : World} {ops : Array Oper} {rest : List Oper} {o : Oper} {a : Act} {Q : Exit → Act → World → Prop} (hgd : o.guard = none) (s x : Operand) (t : TypeId)
    (ho : o.op = .call { callee := .builtin .append, args := #[s, x], argTypes := #[t, t] }) (vs vx v' : Value) (w2 : World) (hs : a.eval s = vs) (hx : a.eval x = vx)
    (hr : (Builtin.append_ #[t, t] o.type #[vs, vx]).run P w = .ok v' w2) (h : wpList P ops Q rest (a.put o.dst v') w2) : wpList P ops Q (o :: rest) a w := by
  refine wpList_plain hgd fun K hK => ?_
  unfold Oper.wp execOp
  simp only [ho, resolve, invoke, builtin, Sem.run_bind, Sem.run_pure, Result.andThen_ok, List.map_toArray, List.map_cons, List.map_nil, hs, hx, hr]
  exact hK _ _ h
/-- Where the walk lays what is left when the first one is cut off. -/
def restAddr (g off cap : Nat) : Addr := if cap = 1 then ⟨g, off, none⟩ else ⟨g, off + 1, none⟩
theorem Seg.rest {w : World} {e : TypeId} {g off n cap : Nat} {v : Value} {vs : List Value} (h : Seg w e (some ⟨g, off, none⟩) (n + 1) cap (v :: vs)) :
    Seg w e (some (restAddr g off cap)) n (cap - 1) vs := by
  have hl := h.1
  rcases h.2 with ⟨e0, _⟩ | ⟨g', off', cur, e0, hg, hoc, hnc, hcs⟩
  · cases e0
  · cases e0
    simp at hl
    refine ⟨hl, .inr ?_⟩
    unfold restAddr
    by_cases hc : cap = 1
    · rw [if_pos hc]
      exact ⟨g, off, cur, rfl, hg, by omega, by omega, fun i hi => by omega⟩
    · rw [if_neg hc]
      refine ⟨g, off + 1, cur, rfl, hg, by omega, by omega, fun i hi => ?_⟩
      have := hcs (i + 1) (by omega)
      rw [show off + 1 + i = off + (i + 1) by omega, this]
      simp
/-- The first one overwritten: the others stay. -/
theorem Seg.over {w : World} {e : TypeId} {g off n cap : Nat} {v x : Value} {vs : List Value} (h : Seg w e (some ⟨g, off, none⟩) (n + 1) cap (v :: vs)) :
    Seg (w.setCell ⟨g, off, none⟩ x) e (some ⟨g, off, none⟩) (n + 1) cap (x :: vs) := by
  have hl := h.1
  rcases h.2 with ⟨e0, _⟩ | ⟨g', off', cur, e0, hg, hoc, hnc, hcs⟩
  · cases e0
  · cases e0
    refine ⟨by simpa using hl, .inr ⟨g, off, cur.setIfInBounds off x, rfl, heap_setCell_same w g off cur e x hg, by simpa using hoc, hnc, fun i hi => ?_⟩⟩
    rw [Array.getElem?_setIfInBounds]
    cases i with
    | zero => rw [Nat.add_zero, if_pos rfl, if_pos (by omega)]; simp
    | succ i =>
      rw [if_neg (by omega), hcs (i + 1) hi]
      simp
end Go.Proofs.Ytejbhjcopldekaa
