/- What the laws over a message share (stage 12). -/
import Derived.Test.YtejbhjcopldekaaStuU
namespace Go.Proofs.Ytejbhjcopldekaa
set_option linter.unusedVariables false
set_option maxRecDepth 100000
open Go.RowKit

theorem irow_later {w w' : World} {k : IntKind} {a : Option Addr} {n c : Nat} {zs : List Int} (h : IsRow k w a n c zs) (hb : Below w.heap.size w w') : IsRow k w' a n c zs := by
  rcases h with h0 | ⟨x, rfl, h1, h2, h3, h4, h5⟩
  · exact .inl h0
  · refine .inr ⟨x, rfl, h1, h2, h3, fun i hi => ?_, h5⟩
    have hc := h4 i hi
    have hbl : (x.add i).block < w.heap.size := by
      rcases Nat.lt_or_ge (x.add i).block w.heap.size with h' | h'
      · exact h'
      · simp [World.cell?, Array.getElem?_eq_none h'] at hc
    rw [hb.cell (p := x.add i) hbl]
    exact hc
theorem SmIn.later {w w' : World} {m : SM} {ua : Option Addr} {uc : Nat} {zs : List Int} (h : SmIn w m ua uc zs) (hb : Below w.heap.size w w') : SmIn w' m ua uc zs :=
  ⟨h.cls, h.id, h.host, h.port, h.soft, h.code, h.reason, irow_later h.row hb, h.unk⟩
/-- The law's message in its box, cut. -/
theorem MBox.set {w : World} {b : Nat} {m : SM} {ua : Option Addr} {uc : Nat} (h : MBox w b m ua uc) (m' : SM) (ua' : Option Addr) (uc' : Nat) (L : List Value) (hL : MsgL m' ua' uc' L) : MBox (w.setRow b L.toArray) b m' ua' uc' := by
  have hr := setRow_heap w b _ L.toArray _ _ h.blk
  refine ⟨⟨_, rfl, ?_⟩, by simpa [World.setRow] using h.lt⟩
  rw [hL.eq]
  exact hr
theorem MBox.rowL {w : World} {b : Nat} {m : SM} {ua : Option Addr} {uc : Nat} (h : MBox w b m ua uc) {L : List Value} (hL : MsgL m ua uc L) : w.heap[b]? = some (.cells L.toArray 29 (0, 0)) := by rw [← hL.eq]; exact h.blk
end Go.Proofs.Ytejbhjcopldekaa
