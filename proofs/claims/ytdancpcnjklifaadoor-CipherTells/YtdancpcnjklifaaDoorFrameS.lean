/- How a slice of steps, and a cipher, that came in are read (stage 9). -/
import Derived.Test.YtdancpcnjklifaaDoorFrameB
import Derived.Test.YtdancpcnjklifaaDoorBase
import Derived.Test.YtdancpcnjklifaaDoorCipM
import Derived.Deep.Slices
import Derived.Deep.Strs
namespace Go.Proofs.YtdancpcnjklifaaDoor
set_option linter.unusedVariables false
set_option maxRecDepth 100000
open Go.ChangeShapes Go.WideShapes Go.ChangeAt Go.RowKit Go.Deep

/-- One step, from the cell x on. -/
def IsStep (w : World) (x : Addr) : Prop :=
  ∃ kd a1 l1 c1 z1 a2 l2 c2 z2 n, w.cell? x = some (.int .i64 kd) ∧ w.cell? (x.add 1) = some (.slice a1 l1 c1) ∧ w.cell? (x.add 2) = some (.slice a2 l2 c2) ∧ w.cell? (x.add 3) = some (.int .u64 n) ∧
    IsRow .u8 w a1 l1 c1 z1 ∧ IsRow .u8 w a2 l2 c2 z2 ∧ (Lit.int .i64 kd).wf = true ∧ (Lit.int .u64 n).wf = true
/-- A slice of steps that came in. -/
def IsSteps (w : World) (a : Option Addr) (len cap : Nat) : Prop :=
  (a = none ∧ len = 0 ∧ cap = 0) ∨ ∃ x, a = some x ∧ len ≤ cap ∧ cap ≤ maxLen ∧ ∀ i, i < len → IsStep w (x.add (i * 4))
section
variable {H : Type} {enc : TypeId × Value → H} {P : Program} {W : World}
theorem row_of_cell {e b : TypeId} {v : Value} {m : Nat} {y : DataW H × List MemPlace} (he : P.underlying e = some (.slice b)) (hb : P.underlying b = some (.int .u8)) (hcb : P.cellsOf b = 1)
    (h : DataW.trod enc P W 0 (fun _ => true) true m e [v] = some y) : ∃ a l c zs, v = .slice a l c ∧ IsRow .u8 W a l c zs := by
  rcases open_ints he hb hcb h with ⟨hcs, _⟩ | ⟨x', l', c', zs, hcs, _, hl', hm', hz, _, hcell, hwz⟩
  · simp at hcs
    exact ⟨none, 0, 0, [], hcs, .inl ⟨rfl, rfl, rfl, rfl⟩⟩
  · simp at hcs
    exact ⟨some x', l', c', zs, hcs, .inr ⟨_, rfl, hl', hm', by simpa using hz, hcell, hwz⟩⟩
theorem isSteps_of {t e b : TypeId} {f0 f1 f2 f3 : Field} {a : Option Addr} {len cap : Nat} {d : DataW H} {p : List MemPlace}
    (ht : P.underlying t = some (.slice e)) (he : P.underlying e = some (.struct #[f0, f1, f2, f3])) (ce : P.cellsOf e = 4) (o0 : f0.offset = 0) (o1 : f1.offset = 1) (o2 : f2.offset = 2) (o3 : f3.offset = 3)
    (c0 : P.cellsOf f0.type = 1) (c1 : P.cellsOf f1.type = 1) (c2 : P.cellsOf f2.type = 1) (c3 : P.cellsOf f3.type = 1)
    (u0 : P.underlying f0.type = some (.int .i64)) (u1 : P.underlying f1.type = some (.slice b)) (u2 : P.underlying f2.type = some (.slice b)) (u3 : P.underlying f3.type = some (.int .u64)) (hb : P.underlying b = some (.int .u8)) (hcb : P.cellsOf b = 1)
    (h : DataW.Trod enc P W 0 (fun _ => true) true t (.slice a len cap) d p) : IsSteps W a len cap := by
  obtain ⟨fuel, hf⟩ := h
  rcases DataW.trod_slice ht hf with ⟨hcs, _⟩ | ⟨x, l, c, elems, rest, n, _, hcs, _, _, hl, hm, hlen, hel, _, _⟩
  · simp [Value.cells] at hcs
    obtain ⟨rfl, rfl, rfl⟩ := hcs
    exact .inl ⟨rfl, rfl, rfl⟩
  · simp [Value.cells] at hcs
    obtain ⟨rfl, rfl, rfl⟩ := hcs
    refine .inr ⟨x, rfl, hl, hm, fun i hi => ?_⟩
    have h1 := hel i hi
    rw [List.getElem?_eq_getElem (by omega), ce, Option.bind_eq_some_iff] at h1
    obtain ⟨cs', hcs', hy⟩ := h1
    obtain ⟨_, hlen', hcell⟩ := World.cells?_some hcs'
    obtain ⟨xs, k, _, _, _, hxl, hfi⟩ := DataW.trod_struct he hy
    match xs, hxl, cs', hlen' with
    | [y0, y1, y2, y3], _, [v0, v1, v2, v3], _ =>
      have g0 := hfi 0 f0 rfl
      have g1 := hfi 1 f1 rfl
      have g2 := hfi 2 f2 rfl
      have g3 := hfi 3 f3 rfl
      simp [o0, o1, o2, o3, c0, c1, c2, c3] at g0 g1 g2 g3
      have e0 := hcell 0 (by omega)
      have e1 := hcell 1 (by omega)
      have e2 := hcell 2 (by omega)
      have e3 := hcell 3 (by omega)
      obtain ⟨kd, k1, _, k3⟩ := DataW.trod_int u0 g0
      obtain ⟨a1, l1, q1, z1, k4, k5⟩ := row_of_cell u1 hb hcb g1
      obtain ⟨a2, l2, q2, z2, k6, k7⟩ := row_of_cell u2 hb hcb g2
      obtain ⟨nn, k8, _, k9⟩ := DataW.trod_int u3 g3
      simp at k1 k8
      subst k1 k4 k6 k8
      have ez : (x.add (i * 4)).add 0 = x.add (i * 4) := by unfold Addr.add; split <;> simp_all
      rw [ez] at e0
      exact ⟨kd, a1, l1, q1, z1, a2, l2, q2, z2, nn, by simpa using e0, by simpa using e1, by simpa using e2, by simpa using e3, k5, k7, k3, k9⟩
/-- Where steps lie, and what stands there. -/
theorem steps_at {w : World} {a : Option Addr} {len cap : Nat} (h : IsSteps w a len cap) (hl : 0 < len) : ∃ b off, a = some ⟨b, off, none⟩ ∧ b < w.heap.size ∧ ∀ i, i < len → ∃ (kd : Int) (a1 : Option Addr) (l1 c1 : Nat) (z1 : List Int) (a2 : Option Addr) (l2 c2 : Nat) (z2 : List Int) (n : Nat),
    w.cell? ⟨b, off + i * 4, none⟩ = some (.int .i64 kd) ∧ w.cell? ⟨b, off + i * 4 + 1, none⟩ = some (.slice a1 l1 c1) ∧ w.cell? ⟨b, off + i * 4 + 2, none⟩ = some (.slice a2 l2 c2) ∧ w.cell? ⟨b, off + i * 4 + 3, none⟩ = some (.int .u64 (n : Int)) ∧
    IsRow .u8 w a1 l1 c1 z1 ∧ IsRow .u8 w a2 l2 c2 z2 ∧ n ≤ 18446744073709551615 := by
  rcases h with ⟨_, h0, _⟩ | ⟨x, rfl, hlc, hcm, hc⟩
  · omega
  · obtain ⟨b, off, spot⟩ := x
    obtain ⟨_, _, _, _, _, _, _, _, _, _, hc0, _⟩ := hc 0 hl
    have hspot : spot = none := by simpa [Addr.add] using World.cell?_spot hc0
    subst hspot
    refine ⟨b, off, rfl, ?_, fun i hi => ?_⟩
    · rcases Nat.lt_or_ge b w.heap.size with h' | h'
      · exact h'
      · simp [World.cell?, Addr.add, Array.getElem?_eq_none h'] at hc0
    · obtain ⟨kd, a1, l1, c1, z1, a2, l2, c2, z2, n, h0, h1, h2, h3, r1, r2, _, wn⟩ := hc i hi
      have hn : 0 ≤ n ∧ n ≤ 18446744073709551615 := by simpa [Lit.wf, IntKind.min, IntKind.max, IntKind.signed, IntKind.bits] using wn
      obtain ⟨m, rfl⟩ : ∃ m : Nat, n = (m : Int) := ⟨n.toNat, by omega⟩
      simp only [addr_add] at h0 h1 h2 h3
      exact ⟨kd, a1, l1, c1, z1, a2, l2, c2, z2, m, h0, h1, h2, h3, r1, r2, by omega⟩
theorem barr_cells {k e : TypeId} {n m : Nat} {base : Nat} {sp : Nat → Bool} {held : Bool} {cs : List Value} {y : DataW H × List MemPlace} (hu : P.underlying k = some (.array n e)) (he : P.underlying e = some (.int .u8)) (hone : P.cellsOf e = 1) (hsize : P.cellsOf k = n) (hn : cs.length = n)
    (h : DataW.trod enc P W base sp held m k cs = some y) : ∃ l : List UInt8, l.length = n ∧ cs = l.map bv := by
  cases m with
  | zero => simp [DataW.trod] at h
  | succ m =>
    rw [DataW.trod_step] at h
    unfold DataW.trodStep at h
    simp only [hu] at h
    rw [if_pos (by rw [hsize]; simpa using hn)] at h
    simp only [Option.map_eq_some_iff] at h
    obtain ⟨ys, hy, _⟩ := h
    have hel := arr_elems he _ ys hy
    rw [hone] at hel
    have hc : ∀ i (hi : i < n), ∃ c : UInt8, cs[i]'(by omega) = bv c := by
      intro i hi
      obtain ⟨z, hz, hw⟩ := hel i (by simpa using hi)
      have hb : 0 ≤ z ∧ z ≤ 255 := by simpa [Lit.wf, IntKind.min, IntKind.max, IntKind.signed, IntKind.bits] using hw
      refine ⟨UInt8.ofNat z.toNat, ?_⟩
      have h2 : i < cs.length := by omega
      have hg : cs[i]'(by omega) = .int .u8 z := by
        have := congrArg (·[0]?) hz
        simpa [List.getElem?_take, h2] using this
      rw [hg, bv]
      congr 1
      simp
      omega
    refine ⟨(List.range n).map fun i => if h : i < n then (hc i h).choose else 0, by simp, ?_⟩
    apply List.ext_getElem
    · simp [hn]
    · intro i h1 h2
      have hi : i < n := by omega
      simp [hi]
      exact (hc i hi).choose_spec
/-- A cipher that came in, by value. -/
theorem cipher_of {t k e : TypeId} {f0 f1 f2 : Field} {r : Reach} {b0 base : Nat} {sp : Nat → Bool} {held : Bool} {v : Value} {d : DataW H} {p : List MemPlace} (ht : P.underlying t = some (.struct #[f0, f1, f2])) (ct : P.cellsOf t = 34) (o0 : f0.offset = 0) (o1 : f1.offset = 32) (o2 : f2.offset = 33)
    (c0 : P.cellsOf f0.type = 32) (c1 : P.cellsOf f1.type = 1) (c2 : P.cellsOf f2.type = 1) (u0 : P.underlying f0.type = some (.array 32 e)) (he : P.underlying e = some (.int .u8)) (hone : P.cellsOf e = 1) (u1 : P.underlying f1.type = some .bool) (u2 : P.underlying f2.type = some (.int .u64))
    (hv : Value.okWide P W r b0 t v) (h : DataW.Trod enc P W base sp held t v d p) : ∃ (key : List UInt8) (has : Bool) (n : Nat), key.length = 32 ∧ n ≤ 18446744073709551615 ∧ v = .agg (CiV key has n).toArray := by
  obtain ⟨cs, rfl, hsz⟩ := okWide_struct ht hv
  obtain ⟨fuel, hf⟩ := h
  obtain ⟨y0, y1, y2, m, _, hl, h0, h1, h2⟩ := trod_struct3 ht hf
  obtain ⟨l⟩ := cs
  have hlen : l.length = 34 := by simpa [ct] using hsz
  simp only [Value.cells, o0, o1, o2, c0, c1, c2, List.drop_zero] at h0 h1 h2
  obtain ⟨key, hk, e0⟩ := barr_cells u0 he hone c0 (by simp; omega) h0
  obtain ⟨has, e1, _⟩ := DataW.trod_bool u1 h1
  obtain ⟨n, e2, _, wn⟩ := DataW.trod_int u2 h2
  have hn : 0 ≤ n ∧ n ≤ 18446744073709551615 := by simpa [Lit.wf, IntKind.min, IntKind.max, IntKind.signed, IntKind.bits] using wn
  obtain ⟨q, rfl⟩ : ∃ q : Nat, n = (q : Int) := ⟨n.toNat, by omega⟩
  refine ⟨key, has, q, hk, by omega, ?_⟩
  congr 2
  have eA : l.take 32 = key.map bv := by simpa using e0
  have eB : l.drop 32 = [.bool has, .int .u64 (q : Int)] := by
    rw [← List.take_append_drop 1 (l.drop 32), List.drop_drop]
    (try simp at e1 e2)
    rw [e1]
    have h33 : (l.drop 33).length = 1 := by simp; omega
    rw [List.take_of_length_le (by omega)] at e2
    rw [show 32 + 1 = 33 from rfl, e2]
    rfl
  rw [← List.take_append_drop 32 l, eA, eB, CiV]
end
end Go.Proofs.YtdancpcnjklifaaDoor
