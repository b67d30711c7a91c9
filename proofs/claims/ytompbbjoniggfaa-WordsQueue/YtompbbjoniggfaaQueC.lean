/- What WordsQueue keeps from step to step: a queue, and a list of its own beside it. -/
import Derived.Test.YtompbbjoniggfaaQueB
namespace Go.Proofs.Ytompbbjoniggfaa
open Go.RowKit
set_option linter.unusedVariables false

structure St (w wr : World) (rb qb ob : Nat) (a ao : Option Addr) (capO : Nat) (room : Int) (lq lo : List Int) : Prop where
  que : Que wr qb a room lq
  box : wr.heap[ob]? = some (.cells #[.slice ao lo.length capO] 36 (0, 0))
  seg : Seg wr 3 ao lo.length capO (lo.map iv)
  res : wr.heap[rb]? = some (.cells #[.bool false] 4 (0, 0))
  bel : Below w.heap.size w wr
  b1 : w.heap.size ≤ rb
  b2 : w.heap.size ≤ qb
  b3 : w.heap.size ≤ ob
  n1 : rb ≠ qb
  n2 : rb ≠ ob
  n3 : qb ≠ ob
  a1 : blockOf a ≠ some ob
  a2 : blockOf a ≠ some rb
  o1 : blockOf ao ≠ some ob
  o2 : blockOf ao ≠ some rb
  o3 : blockOf ao ≠ some qb
  ap : ∀ j, blockOf a = some j → blockOf ao ≠ some j
  aw : ∀ j, blockOf a = some j → w.heap.size ≤ j
  ow : ∀ j, blockOf ao = some j → w.heap.size ≤ j

theorem lt_of_heap {w : World} {g : Nat} {o : Obj} (h : w.heap[g]? = some o) : g < w.heap.size := (Array.getElem?_eq_some_iff.1 h).1

section
variable {w wr w' w2 : World} {rb qb ob : Nat} {a a' ao a2 : Option Addr} {capO cap2 : Nat} {room v x : Int} {lq lq' lo : List Int}

theorem Que.lt (h : Que wr qb a room lq) : qb < wr.heap.size := by
  obtain ⟨n, cap, h1, _⟩ := h
  exact lt_of_heap h1
theorem Que.block (h : Que wr qb a room lq) : ∀ j, blockOf a = some j → j < wr.heap.size := by
  obtain ⟨n, cap, _, h2, _⟩ := h
  exact h2.lt
theorem Que.ne (h : Que wr qb a room lq) : blockOf a ≠ some qb := by
  obtain ⟨n, cap, _, _, h3⟩ := h
  exact h3
theorem Que.kept (h : Que wr qb a room lq) (hq : w'.heap[qb]? = wr.heap[qb]?) (ha : ∀ j, blockOf a = some j → w'.heap[j]? = wr.heap[j]?) : Que w' qb a room lq := by
  obtain ⟨n, cap, h1, h2, h3⟩ := h
  exact ⟨n, cap, by rw [hq]; exact h1, h2.kept ha, h3⟩

/-- A call on the queue. -/
theorem St.fr (h : St w wr rb qb ob a ao capO room lq lo) (hQ : Que w' qb a' room lq') (hF : Fr wr w' qb a a') : St w w' rb qb ob a' ao capO room lq' lo := by
  have hob := lt_of_heap h.box
  have hrb := lt_of_heap h.res
  have hfr : ∀ g, g < wr.heap.size → blockOf a ≠ some g → blockOf a' ≠ some g := by
    intro g hg hne e
    rcases hF.fresh with e' | e'
    · rw [e'] at e; exact hne e
    · have := e' g e; omega
  refine ⟨hQ, ?_, ?_, ?_, ?_, h.b1, h.b2, h.b3, h.n1, h.n2, h.n3, hfr _ hob h.a1, hfr _ hrb h.a2, h.o1, h.o2, h.o3, ?_, ?_, h.ow⟩
  · rw [hF.block ob hob (Ne.symm h.n3) (Ne.symm h.a1)]; exact h.box
  · refine h.seg.kept fun g hg => hF.block g (h.seg.lt g hg) (fun e => h.o3 (by rw [hg, e])) (fun e => h.ap g e.symm hg)
  · rw [hF.block rb hrb h.n1 (Ne.symm h.a2)]; exact h.res
  · exact h.bel.trans (hF.below h.bel.size h.b2 h.aw)
  · intro j hj ho
    have hjs := h.seg.lt j ho
    exact hfr j hjs (fun e => h.ap j e ho) hj
  · exact hF.from_ h.bel.size h.aw
/-- Memory only grows. -/
theorem St.grow (h : St w wr rb qb ob a ao capO room lq lo) (hb : Below wr.heap.size wr w') : St w w' rb qb ob a ao capO room lq lo :=
  ⟨h.que.kept (hb.block _ h.que.lt) (fun j hj => hb.block j (h.que.block j hj)), by rw [hb.block _ (lt_of_heap h.box)]; exact h.box, h.seg.kept fun g hg => hb.block g (h.seg.lt g hg), by rw [hb.block _ (lt_of_heap h.res)]; exact h.res,
    h.bel.trans (hb.mono h.bel.size), h.b1, h.b2, h.b3, h.n1, h.n2, h.n3, h.a1, h.a2, h.o1, h.o2, h.o3, h.ap, h.aw, h.ow⟩
theorem St.drewN (h : St w wr rb qb ob a ao capO room lq lo) (n : Nat) : St w (wr.drewN n) rb qb ob a ao capO room lq lo := h.grow (below_drewN (Below.refl _ _) n)
/-- One more in the list of its own. -/
theorem St.append (h : St w wr rb qb ob a ao capO room lq lo) (hgr : wr.grownBy w2 (blockOf ao)) (hs : Seg w2 3 a2 (lo.length + 1) cap2 (lo.map iv ++ [iv v]))
    (hf : blockOf a2 = blockOf ao ∨ ∀ j, blockOf a2 = some j → wr.heap.size ≤ j) : St w (w2.setCell ⟨ob, 0, none⟩ (.slice a2 (lo.length + 1) cap2)) rb qb ob a a2 cap2 room lq (lo ++ [v]) := by
  have hob := lt_of_heap h.box
  have hrb := lt_of_heap h.res
  have hfr : ∀ g, g < wr.heap.size → blockOf ao ≠ some g → blockOf a2 ≠ some g := by
    intro g hg hne e
    rcases hf with e' | e'
    · rw [e'] at e; exact hne e
    · have := e' g e; omega
  have o1 := hfr _ hob h.o1
  have hset : ∀ g, g ≠ ob → (w2.setCell ⟨ob, 0, none⟩ (.slice a2 (lo.length + 1) cap2)).heap[g]? = w2.heap[g]? := fun g hg => heap_setCell_other w2 ⟨ob, 0, none⟩ g _ hg
  have hold : ∀ g, g < wr.heap.size → g ≠ ob → blockOf ao ≠ some g → (w2.setCell ⟨ob, 0, none⟩ (.slice a2 (lo.length + 1) cap2)).heap[g]? = wr.heap[g]? := fun g hlt hg hne => by
    rw [hset g hg]; exact hgr.block g hlt (Ne.symm hne)
  have hbox2 : w2.heap[ob]? = some (.cells #[.slice ao lo.length capO] 36 (0, 0)) := by rw [hgr.block ob hob (Ne.symm h.o1)]; exact h.box
  refine ⟨h.que.kept (hold qb h.que.lt h.n3 h.o3) (fun j hj => hold j (h.que.block j hj) (fun e => h.a1 (by rw [hj, e])) (h.ap j hj)), ?_, ?_, ?_, ?_, h.b1, h.b2, h.b3, h.n1, h.n2, h.n3, h.a1, h.a2, o1, hfr _ hrb h.o2, hfr _ h.que.lt h.o3, ?_, h.aw, ?_⟩
  · rw [heap_setCell_same w2 ob 0 _ _ _ hbox2]; simp
  · have : (lo ++ [v]).map iv = lo.map iv ++ [iv v] := by simp
    rw [this, List.length_append]
    exact hs.kept fun g hg => hset g (fun e => o1 (by rw [hg, e]))
  · rw [hold rb hrb h.n2 h.o2]; exact h.res
  · refine (h.bel.grown hgr h.bel.size (fun j hj => h.ow j hj)).setCell (p := ⟨ob, 0, none⟩) h.b3 _
  · intro j hj
    exact hfr j (h.que.block j hj) (h.ap j hj)
  · intro j hj
    rcases hf with e | e
    · exact h.ow j (by rw [← e]; exact hj)
    · have := e j hj; have := h.bel.size; omega
/-- The first one off the list of its own. -/
theorem St.rest {g off : Nat} (h : St w wr rb qb ob a (some ⟨g, off, none⟩) capO room lq (x :: lo)) :
    St w (wr.setCell ⟨ob, 0, none⟩ (.slice (some (restAddr g off capO)) lo.length (capO - 1))) rb qb ob a (some (restAddr g off capO)) (capO - 1) room lq lo := by
  have hbl : blockOf (some (restAddr g off capO)) = blockOf (some (⟨g, off, none⟩ : Addr)) := by unfold restAddr blockOf; split <;> rfl
  have hset : ∀ j, j ≠ ob → (wr.setCell ⟨ob, 0, none⟩ (.slice (some (restAddr g off capO)) lo.length (capO - 1))).heap[j]? = wr.heap[j]? := fun j hj => heap_setCell_other wr ⟨ob, 0, none⟩ j _ hj
  refine ⟨h.que.kept (hset qb h.n3) (fun j hj => hset j (fun e => h.a1 (by rw [hj, e]))), ?_, ?_, ?_, ?_, h.b1, h.b2, h.b3, h.n1, h.n2, h.n3, h.a1, h.a2, by rw [hbl]; exact h.o1, by rw [hbl]; exact h.o2, by rw [hbl]; exact h.o3, by rw [hbl]; exact h.ap, h.aw, by rw [hbl]; exact h.ow⟩
  · rw [heap_setCell_same wr ob 0 _ _ _ h.box]; rfl
  · exact (Seg.rest h.seg).kept fun j hj => hset j (fun e => h.o1 (by rw [← hbl, hj, e]))
  · rw [hset rb h.n2]; exact h.res
  · exact h.bel.setCell (p := ⟨ob, 0, none⟩) h.b3 _
theorem St.cells (h : St w wr rb qb ob a ao capO room lq lo) : wr.cell? ⟨ob, 0, none⟩ = some (.slice ao lo.length capO) ∧ wr.frozen? ⟨ob, 0, none⟩ = false ∧ wr.cell? ⟨rb, 0, none⟩ = some (.bool false) ∧ wr.frozen? ⟨rb, 0, none⟩ = false :=
  ⟨cell_of_row wr ob 0 _ _ (0, 0) h.box, frozen_of_row wr ob 0 _ _ h.box, cell_of_row wr rb 0 _ _ (0, 0) h.res, frozen_of_row wr rb 0 _ _ h.res⟩
end
end Go.Proofs.Ytompbbjoniggfaa
