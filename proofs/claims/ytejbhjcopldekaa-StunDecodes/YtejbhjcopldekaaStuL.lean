/- The program's message on the way: what hear has told so far (stage 12). -/
import Derived.Test.YtejbhjcopldekaaStuK
namespace Go.Proofs.Ytejbhjcopldekaa
set_option linter.unusedVariables false
set_option maxRecDepth 100000
open Go.RowKit

def uq (n : Int) : Value := .int .i64 n
structure Lm (w0 : World) (g : Nat) (m : SM) (ua : Option Addr) (uc : Nat) (W : World) : Prop where
  row : W.heap[g]? = some (.cells (sMsg m ua uc) 29 (0, 0))
  seg : Seg W 3 ua m.unk.length uc (m.unk.map uq)
  hi : ∀ j, blockOf ua = some j → g < j
  bel : Below w0.heap.size w0 W
  gw : w0.heap.size ≤ g
section
variable {w0 W W' : World} {g uc : Nat} {ua : Option Addr} {m : SM}
theorem Lm.lt (h : Lm w0 g m ua uc W) : g < W.heap.size := (Array.getElem?_eq_some_iff.1 h.row).1
theorem Lm.cell (h : Lm w0 g m ua uc W) (i : Nat) (v : Value) (e : (sMsg m ua uc)[i]? = some v) : W.cell? ⟨g, i, none⟩ = some v := by rw [cell_of_row W g i _ _ (0, 0) h.row]; exact e
theorem Lm.frozen (h : Lm w0 g m ua uc W) (i : Nat) : W.frozen? ⟨g, i, none⟩ = false := frozen_of_row W g i _ _ h.row
theorem Lm.kept (h : Lm w0 g m ua uc W) (hg : W'.heap[g]? = W.heap[g]?) (hu : ∀ j, blockOf ua = some j → W'.heap[j]? = W.heap[j]?) (hb : Below w0.heap.size w0 W') : Lm w0 g m ua uc W' :=
  ⟨hg.trans h.row, h.seg.kept hu, h.hi, hb, h.gw⟩
/-- Another block changes. -/
theorem Lm.but {r : Nat} (h : Lm w0 g m ua uc W) (hG : But r W W') (hr : r ≠ g) (hj : ∀ j, blockOf ua = some j → j ≠ r) (hw : w0.heap.size ≤ r) : Lm w0 g m ua uc W' :=
  h.kept (hG.block g h.lt (fun e => by cases e; exact hr rfl)) (fun j hb => hG.block j (h.seg.lt j hb) (fun e => by cases e; exact hj _ hb rfl)) (h.bel.grown hG h.bel.size (fun k e => by cases e; exact hw))
theorem Lm.low {r : Nat} (h : Lm w0 g m ua uc W) (hG : But r W W') (hr : r < g) (hw : w0.heap.size ≤ r) : Lm w0 g m ua uc W' :=
  h.but hG (by omega) (fun j hj => by have := h.hi j hj; omega) hw
theorem Lm.later (h : Lm w0 g m ua uc W) (hb : Below W.heap.size W W') : Lm w0 g m ua uc W' :=
  h.kept (hb.block g h.lt) (fun j hj => hb.block j (h.seg.lt j hj)) (h.bel.trans (hb.mono h.bel.size))
theorem Lm.upd (h : Lm w0 g m ua uc W) (i : Nat) (v : Value) (m' : SM) (hrow : (sMsg m ua uc).setIfInBounds i v = sMsg m' ua uc) (hu : m'.unk = m.unk) : Lm w0 g m' ua uc (W.setCell ⟨g, i, none⟩ v) := by
  have hset : ∀ j, j ≠ g → (W.setCell ⟨g, i, none⟩ v).heap[j]? = W.heap[j]? := fun j hj => heap_setCell_other W ⟨g, i, none⟩ j v hj
  refine ⟨by rw [heap_setCell_same W g i _ _ _ h.row, hrow], ?_, h.hi, h.bel.setCell (p := ⟨g, i, none⟩) h.gw _, h.gw⟩
  rw [hu]
  exact h.seg.kept fun j hj => hset j (by have := h.hi j hj; omega)
theorem Lm.app (h : Lm w0 g m ua uc W) (x : Int) (hl : m.unk.length ≤ 100000) :
    ∃ a2 c2 W2, (Builtin.append_ #[27, 27] 27 #[.slice ua m.unk.length uc, .slice (some ⟨W.heap.size, 0, none⟩) 1 1]).run Try.prog (W.alloc (.cells #[.int .i64 x] 3)) = .ok (.slice a2 (m.unk.length + 1) c2) W2 ∧
      (∃ v, W2.cell? ⟨g, 18, none⟩ = some v) ∧ W2.frozen? ⟨g, 18, none⟩ = false ∧ Lm w0 g { m with unk := m.unk ++ [x] } a2 c2 (W2.setCell ⟨g, 18, none⟩ (.slice a2 (m.unk.length + 1) c2)) ∧
      (∀ j, j < W.heap.size → j ≠ g → blockOf ua ≠ some j → (W2.setCell ⟨g, 18, none⟩ (.slice a2 (m.unk.length + 1) c2)).heap[j]? = W.heap[j]?) ∧ (∀ j, blockOf a2 = some j → blockOf ua = some j ∨ W.heap.size ≤ j) ∧ W.heap.size ≤ W2.heap.size ∧ Below w0.heap.size w0 W2 ∧ W2.heap[g]? = some (.cells (sMsg m ua uc) 29 (0, 0)) := by
  obtain ⟨i0, hi, hz0, hz1, hz2⟩ := info_parts (show (Try.prog.info? 3).map (fun i => (i.zero, i.size, i.bytes)) = some (some (.int .i64 0), 1, 8) by kernel_rfl)
  obtain ⟨a2, c2, W2, hap, hs2, hgr, hfr, hsz⟩ := append_seg (P := Try.prog) 27 27 3 i0 (.int .i64 0) 8 Try.underlying27 hi hz0 hz1 hz2 rfl W ua m.unk.length uc (m.unk.map uq) h.seg (.int .i64 x) rfl (by unfold maxLen; omega) (by omega)
  have hgl := h.lt
  have hne : ∀ j, j ≤ g → blockOf ua ≠ some j := fun j hj e => by have := h.hi j e; omega
  have hold : ∀ j, j ≤ g → W2.heap[j]? = W.heap[j]? := fun j hj => hgr.block j (by omega) (fun e => hne j hj e.symm)
  have hrow : W2.heap[g]? = some (.cells (sMsg m ua uc) 29 (0, 0)) := (hold g (Nat.le_refl _)).trans h.row
  have hhi : ∀ j, blockOf a2 = some j → g < j := fun j hj => by
    rcases hfr with e | e
    · exact h.hi j (by rw [← e]; exact hj)
    · have := e j hj; omega
  have hset : ∀ j, j ≠ g → (W2.setCell ⟨g, 18, none⟩ (.slice a2 (m.unk.length + 1) c2)).heap[j]? = W2.heap[j]? := fun j hj => heap_setCell_other W2 ⟨g, 18, none⟩ j _ hj
  have hbel : Below w0.heap.size w0 W2 := h.bel.grown hgr h.bel.size (fun j hj => by have := h.hi j hj; have := h.gw; omega)
  refine ⟨a2, c2, W2, hap, ⟨_, by rw [cell_of_row W2 g 18 _ _ (0, 0) hrow]; rfl⟩, frozen_of_row W2 g 18 _ _ hrow, ⟨?_, ?_, hhi, hbel.setCell (p := ⟨g, 18, none⟩) h.gw _, h.gw⟩, ?_, ?_, by omega, hbel, hrow⟩
  · rw [heap_setCell_same W2 g 18 _ _ _ hrow]
    simp [sMsg]
  · have : Seg W2 3 a2 (m.unk.length + 1) c2 ((m.unk ++ [x]).map uq) := by simpa [uq] using hs2
    have h2 := this.kept (w' := W2.setCell ⟨g, 18, none⟩ (.slice a2 (m.unk.length + 1) c2)) fun j hj => hset j (by have := hhi j hj; omega)
    simpa using h2
  · exact fun j hj hjg hju => (hset j hjg).trans (hgr.block j hj (fun e => hju e.symm))
  · intro j hj
    rcases hfr with e | e
    · exact .inl (by rw [← e]; exact hj)
    · exact .inr (e j hj)
theorem Lm.ints (h : Lm w0 g m ua uc W) : NumsAt W ua m.unk.length m.unk :=
  ⟨rfl, fun i hi => by
    obtain ⟨b', off', e, hc, _⟩ := h.seg.cell i hi
    have hlt := h.seg.lt b' (by rw [e]; rfl)
    exact ⟨b', off', e, hlt, by rw [hc, List.getElem?_map, List.getElem?_eq_getElem hi]; rfl⟩⟩
theorem Lm.box (h : Lm w0 g m ua uc W) : MBox W g m ua uc := ⟨⟨_, rfl, h.row⟩, h.lt⟩
end
end Go.Proofs.Ytejbhjcopldekaa
