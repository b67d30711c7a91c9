/- How a message, and an address, that came in are read (stage 12). -/
import Derived.Test.YtejbhjcopldekaaFrameA
import Derived.Test.YtejbhjcopldekaaStuE
import Derived.Deep.Slices
import Derived.Deep.Strs
namespace Go.Proofs.Ytejbhjcopldekaa
set_option linter.unusedVariables false
set_option maxRecDepth 100000
open Go.ChangeShapes Go.WideShapes Go.ChangeAt Go.RowKit Go.Deep

/-- A message that came in. -/
structure SmIn (w : World) (m : SM) (ua : Option Addr) (uc : Nat) (zs : List Int) : Prop where
  cls : (Lit.int .i64 m.cls).wf = true
  id : m.id.length = 12
  host : m.host < 4294967296
  port : (Lit.int .i64 m.port).wf = true
  soft : m.soft.length ≤ maxLen
  code : (Lit.int .i64 m.code).wf = true
  reason : m.reason.length ≤ maxLen
  row : IsRow .i64 w ua m.unk.length uc zs
  unk : m.unk = zs.take m.unk.length
section
variable {H : Type} {enc : TypeId × Value → H} {P : Program} {W : World}
theorem irow_of_cell {e b : TypeId} {v : Value} {m : Nat} {y : DataW H × List MemPlace} (he : P.underlying e = some (.slice b)) (hb : P.underlying b = some (.int .i64)) (hcb : P.cellsOf b = 1)
    (h : DataW.trod enc P W 0 (fun _ => true) true m e [v] = some y) : ∃ a l c zs, v = .slice a l c ∧ IsRow .i64 W a l c zs := by
  rcases open_ints he hb hcb h with ⟨hcs, _⟩ | ⟨x', l', c', zs, hcs, _, hl', hm', hz, _, hcell, hwz⟩
  · simp at hcs
    exact ⟨none, 0, 0, [], hcs, .inl ⟨rfl, rfl, rfl, rfl⟩⟩
  · simp at hcs
    exact ⟨some x', l', c', zs, hcs, .inr ⟨_, rfl, hl', hm', by simpa using hz, hcell, hwz⟩⟩
theorem barr_cells9 {k e : TypeId} {n m : Nat} {base : Nat} {sp : Nat → Bool} {held : Bool} {cs : List Value} {y : DataW H × List MemPlace} (hu : P.underlying k = some (.array n e)) (he : P.underlying e = some (.int .u8)) (hone : P.cellsOf e = 1) (hsize : P.cellsOf k = n) (hn : cs.length = n)
    (h : DataW.trod enc P W base sp held m k cs = some y) : ∃ l : List UInt8, l.length = n ∧ cs = l.map bv := by
  cases m with
  | zero => simp [DataW.trod] at h
  | succ m =>
    rw [DataW.trod_step] at h
    unfold DataW.trodStep at h
    simp only [hu] at h
    rw [if_pos (by rw [hsize]; simpa using hn)] at h
    simp only [Option.map_eq_some_iff] at h
    obtain ⟨ys, hy, _⟩ := h
    have hel := arr_elems he _ ys hy
    rw [hone] at hel
    have hc : ∀ i (hi : i < n), ∃ c : UInt8, cs[i]'(by omega) = bv c := by
      intro i hi
      obtain ⟨z, hz, hw⟩ := hel i (by simpa using hi)
      have hb : 0 ≤ z ∧ z ≤ 255 := by simpa [Lit.wf, IntKind.min, IntKind.max, IntKind.signed, IntKind.bits] using hw
      refine ⟨UInt8.ofNat z.toNat, ?_⟩
      have h2 : i < cs.length := by omega
      have hg : cs[i]'(by omega) = .int .u8 z := by
        have := congrArg (·[0]?) hz
        simpa [List.getElem?_take, h2] using this
      rw [hg, bv]
      congr 1
      simp
      omega
    refine ⟨(List.range n).map fun i => if h : i < n then (hc i h).choose else 0, by simp, ?_⟩
    apply List.ext_getElem
    · simp [hn]
    · intro i h1 h2
      have hi : i < n := by omega
      simp [hi]
      exact (hc i hi).choose_spec

theorem str_S (s : ByteArray) : s = S s.data.toList := by
  apply ByteArray.ext
  simp [S]
/-- A message that came in, by value. -/
theorem smsg_of {t : TypeId} {f0 f1 f2 f3 f4 f5 f6 g0 g1 : Field} {eb ei : TypeId} {r : Reach} {b0 : Nat} {v : Value} {d : DataW H} {p : List MemPlace}
    (ht : P.underlying t = some (.struct #[f0, f1, f2, f3, f4, f5, f6])) (ct : P.cellsOf t = 19) (o0 : f0.offset = 0) (o1 : f1.offset = 1) (o2 : f2.offset = 13) (o3 : f3.offset = 15) (o4 : f4.offset = 16) (o5 : f5.offset = 17) (o6 : f6.offset = 18)
    (c0 : P.cellsOf f0.type = 1) (c1 : P.cellsOf f1.type = 12) (c2 : P.cellsOf f2.type = 2) (c3 : P.cellsOf f3.type = 1) (c4 : P.cellsOf f4.type = 1) (c5 : P.cellsOf f5.type = 1) (c6 : P.cellsOf f6.type = 1)
    (u0 : P.underlying f0.type = some (.int .i64)) (u1 : P.underlying f1.type = some (.array 12 eb)) (hb : P.underlying eb = some (.int .u8)) (hcb : P.cellsOf eb = 1) (u2 : P.underlying f2.type = some (.struct #[g0, g1])) (p0 : g0.offset = 0) (p1 : g1.offset = 1)
    (k0 : P.cellsOf g0.type = 1) (k1 : P.cellsOf g1.type = 1) (v0 : P.underlying g0.type = some (.int .u32)) (v1 : P.underlying g1.type = some (.int .i64)) (u3 : P.underlying f3.type = some .string) (u4 : P.underlying f4.type = some (.int .i64)) (u5 : P.underlying f5.type = some .string)
    (u6 : P.underlying f6.type = some (.slice ei)) (hi : P.underlying ei = some (.int .i64)) (hci : P.cellsOf ei = 1)
    (hv : Value.okWide P W r b0 t v) (h : DataW.Trod enc P W 0 (fun _ => true) true t v d p) : ∃ (m : SM) (ua : Option Addr) (uc : Nat) (zs : List Int), SmIn W m ua uc zs ∧ v = .agg (sMsg m ua uc) := by
  obtain ⟨cs, rfl, hsz⟩ := okWide_struct ht hv
  obtain ⟨fuel, hf⟩ := h
  obtain ⟨xs, k, _, _, _, hxl, hfi⟩ := DataW.trod_struct ht hf
  obtain ⟨l⟩ := cs
  have hlen : l.length = 19 := by simpa [ct] using hsz
  match xs, hxl with
  | [y0, y1, y2, y3, y4, y5, y6], _ =>
    have h0 := hfi 0 f0 rfl
    have h1 := hfi 1 f1 rfl
    have h2 := hfi 2 f2 rfl
    have h3 := hfi 3 f3 rfl
    have h4 := hfi 4 f4 rfl
    have h5 := hfi 5 f5 rfl
    have h6 := hfi 6 f6 rfl
    simp [o0, o1, o2, o3, o4, o5, o6, c0, c1, c2, c3, c4, c5, c6, Value.cells] at h0 h1 h2 h3 h4 h5 h6
    match l, hlen with
    | [x0, x1, x2, x3, x4, x5, x6, x7, x8, x9, x10, x11, x12, x13, x14, x15, x16, x17, x18], _ =>
      simp at h0 h1 h2 h3 h4 h5 h6
      obtain ⟨cl, e0, _, w0⟩ := DataW.trod_int u0 h0
      obtain ⟨id, hidl, e1⟩ := barr_cells9 u1 hb hcb c1 rfl h1
      obtain ⟨zs2, k2, _, _, _, hxl2, hfi2⟩ := DataW.trod_struct u2 h2
      obtain ⟨s3, e3, _, w3⟩ := DataW.trod_string u3 h3
      obtain ⟨co, e4, _, w4⟩ := DataW.trod_int u4 h4
      obtain ⟨s5, e5, _, w5⟩ := DataW.trod_string u5 h5
      obtain ⟨ua, ul, uc, zs, e6, w6⟩ := irow_of_cell u6 hi hci h6
      match zs2, hxl2 with
      | [q0, q1], _ =>
        have j0 := hfi2 0 g0 rfl
        have j1 := hfi2 1 g1 rfl
        simp [p0, p1, k0, k1] at j0 j1
        obtain ⟨ho, e7, _, w7⟩ := DataW.trod_int v0 j0
        obtain ⟨po, e8, _, w8⟩ := DataW.trod_int v1 j1
        simp at e0 e3 e4 e5 e7 e8
        subst e0 e3 e4 e5 e6 e7 e8
        have hh : 0 ≤ ho ∧ ho ≤ 4294967295 := by simpa [Lit.wf, IntKind.min, IntKind.max, IntKind.signed, IntKind.bits] using w7
        obtain ⟨hn, rfl⟩ : ∃ q : Nat, ho = (q : Int) := ⟨ho.toNat, by omega⟩
        have hul : (zs.take ul).length = ul := by
          rcases w6 with ⟨_, rfl, _, _⟩ | ⟨x, _, hlc, _, hz, _, _⟩
          · simp
          · rw [List.length_take]; omega
        refine ⟨⟨cl, id, hn, po, s3.data.toList, co, s5.data.toList, zs.take ul⟩, ua, uc, zs, ⟨w0, hidl, by show hn < 4294967296; omega, w8, by simpa using w3, w4, by simpa using w5, by show IsRow .i64 W ua (zs.take ul).length uc zs; rw [hul]; exact w6, by show zs.take ul = zs.take (zs.take ul).length; rw [hul]⟩, ?_⟩
        match id, hidl, e1 with
        | [i0, i1, i2, i3, i4, i5, i6, i7, i8, i9, i10, i11], _, e1 =>
          simp at e1
          obtain ⟨rfl, rfl, rfl, rfl, rfl, rfl, rfl, rfl, rfl, rfl, rfl, rfl⟩ := e1
          simp only [sMsg, hul, ← str_S]
          rfl
/-- An address that came in, by value. -/
theorem addr_of {t : TypeId} {g0 g1 : Field} {r : Reach} {b0 : Nat} {v : Value} {d : DataW H} {p : List MemPlace} (ht : P.underlying t = some (.struct #[g0, g1])) (ct : P.cellsOf t = 2) (p0 : g0.offset = 0) (p1 : g1.offset = 1)
    (k0 : P.cellsOf g0.type = 1) (k1 : P.cellsOf g1.type = 1) (v0 : P.underlying g0.type = some (.int .u32)) (v1 : P.underlying g1.type = some (.int .i64)) (hv : Value.okWide P W r b0 t v) (h : DataW.Trod enc P W 0 (fun _ => true) true t v d p) :
    ∃ (ho : Nat) (po : Int), ho < 4294967296 ∧ (Lit.int .i64 po).wf = true ∧ v = .agg #[.int .u32 (ho : Int), .int .i64 po] := by
  obtain ⟨cs, rfl, hsz⟩ := okWide_struct ht hv
  obtain ⟨fuel, hf⟩ := h
  obtain ⟨xs, k, _, _, _, hxl, hfi⟩ := DataW.trod_struct ht hf
  obtain ⟨l⟩ := cs
  have hlen : l.length = 2 := by simpa [ct] using hsz
  match xs, hxl with
  | [q0, q1], _ =>
    have j0 := hfi 0 g0 rfl
    have j1 := hfi 1 g1 rfl
    simp [p0, p1, k0, k1, Value.cells] at j0 j1
    match l, hlen with
    | [x0, x1], _ =>
      simp at j0 j1
      obtain ⟨ho, e7, _, w7⟩ := DataW.trod_int v0 j0
      obtain ⟨po, e8, _, w8⟩ := DataW.trod_int v1 j1
      simp at e7 e8
      subst e7 e8
      have hh : 0 ≤ ho ∧ ho ≤ 4294967295 := by simpa [Lit.wf, IntKind.min, IntKind.max, IntKind.signed, IntKind.bits] using w7
      obtain ⟨hn, rfl⟩ : ∃ q : Nat, ho = (q : Int) := ⟨ho.toNat, by omega⟩
      exact ⟨hn, po, by omega, w8, rfl⟩
end
end Go.Proofs.Ytejbhjcopldekaa
