/- Several texts laid together. -/
import Derived.Test.YtdancpcnjklifaaDoorRef1
import Derived.Test.YtdancpcnjklifaaDoorMathX
/- The walks over the document's cut, right and mix (blake). -/
namespace Go.Proofs.YtdancpcnjklifaaDoor
set_option linter.unusedVariables false
set_option maxRecDepth 100000
open Go.RowKit
/-- One word stored: the row, and what else there is. -/
theorem seg_step {w : World} {g off n cap : Nat} {l : List (BitVec 32)} (h : Seg w 24 (some ⟨g, off, none⟩) n cap (l.map wv)) (p : Nat) (hp : p < n) (s : BitVec 32) :
    Seg (w.drew.setCell ⟨g, off + p, none⟩ (wv s)) 24 (some ⟨g, off, none⟩) n cap ((l.set p s).map wv) ∧ w.grownBy (w.drew.setCell ⟨g, off + p, none⟩ (wv s)) (some g) := by
  refine ⟨by rw [List.map_set]; exact h.drew.set p hp _, rfl, rfl, rfl, by simp, fun j hj hne => ?_⟩
  rw [heap_setCell_other w.drew ⟨g, off + p, none⟩ j _ (fun e => hne (by rw [e]))]
  rfl
theorem sum3_val (x y z : BitVec 32) : ((x.toNat + y.toNat + z.toNat : Nat) : Int) % 4294967296 = ((x + y + z).toNat : Int) := by
  rw [BitVec.toNat_add, BitVec.toNat_add]; omega
theorem sum2_val (x y : BitVec 32) : ((x.toNat + y.toNat : Nat) : Int) % 4294967296 = ((x + y).toNat : Int) := by
  rw [BitVec.toNat_add]; omega

end Go.Proofs.YtdancpcnjklifaaDoor

/- The walks over the document's iv, rows and part (blake). -/
namespace Go.Proofs.YtdancpcnjklifaaDoor
set_option linter.unusedVariables false
set_option maxRecDepth 100000
open Go.RowKit
/-- The rows of numbers as text, a letter each. -/
def rowS (i : Nat) : ByteArray := ⟨((sigma.getD i []).map fun k => UInt8.ofNat (65 + k)).toArray⟩
def rowsV : Array Value := ((List.range 10).map fun i => Value.string (rowS i)).toArray
theorem rowS_at (i k : Nat) (hi : i < 10) (hk : k < 16) : (rowS i)[k]? = some (UInt8.ofNat (65 + sig i k)) := by
  have h : ∀ i : Fin 10, ∀ k : Fin 16, (rowS i.val)[k.val]? = some (UInt8.ofNat (65 + sig i.val k.val)) := by decide +kernel
  exact h ⟨i, hi⟩ ⟨k, hk⟩
end Go.Proofs.YtdancpcnjklifaaDoor

/- The walk over the document's part (blake). -/
namespace Go.Proofs.YtdancpcnjklifaaDoor
set_option linter.unusedVariables false
set_option maxRecDepth 100000
open Go.RowKit

theorem exec_index {P : Program} {o : Oper} {a : Act} {w : World} (t : TypeId) (x y : Operand) (ho : o.op = .index t x y) (s : ByteArray) (j : Nat) (c : UInt8) (hx : a.eval x = .string s) (hy : a.eval y = .int .i64 (j : Int)) (hu : P.underlying t = some .string) (hc : s[j]? = some c) :
    (execOp a.eval o).run P w = .ok (.value (.int .u8 (c.toNat : Int))) w := by
  unfold execOp
  simp [ho, hx, hy, Instr.index, asIntOf, run_underlying hu, hc]
theorem append_word (w : World) (base : Nat) (v : Value) (n : Nat) (xs : List (BitVec 32)) (hown : w.ownsRow base 24 1 v n (xs.map wv)) (x : BitVec 32) (hb : base ≤ w.heap.size) (hsm : n ≤ 900) :
    ∃ v' w', (Builtin.append_ #[116, 116] 116 #[v, .slice (some ⟨w.heap.size, 0, none⟩) 1 1]).run Tryd.prog (w.alloc (.cells #[.int .u64 (x.toNat : Int)] 24)) = .ok v' w' ∧ w'.ownsRow base 24 1 v' (n + 1) ((xs ++ [x]).map wv) ∧ w.grownBy w' v.ownBlock := by
  have hs : Seg (w.alloc (.cells #[.int .u64 (x.toNat : Int)] 24)) 24 (some ⟨w.heap.size, 0, none⟩) 1 1 ([x].map wv) :=
    ⟨rfl, .inr ⟨w.heap.size, 0, #[.int .u64 (x.toNat : Int)], rfl, heap_alloc_new w _, by simp, Nat.le_refl _, fun i hi => by
      obtain rfl : i = 0 := by omega
      rfl⟩⟩
  obtain ⟨v', w', hr, ho, hg⟩ := append_words (w.alloc (.cells #[.int .u64 (x.toNat : Int)] 24)) base v n xs (hown.alloc _) ⟨w.heap.size, 0, none⟩ 1 1 [x] hs (by simp; omega) (by omega)
  refine ⟨v', w', hr, ho, hg.os, hg.tape, hg.output, by have := hg.size; simp at this; omega, fun k hk hne => ?_⟩
  rw [hg.block k (by simp; omega) hne]
  exact Below.heap_alloc w _ k hk
/-- What part has: H, M, V, the rows. -/
structure BS (w : World) (hx : Addr) (hc : Nat) (hl : List (BitVec 32)) (gm cm : Nat) (ml : List (BitVec 32)) (gv cv : Nat) (vl : List (BitVec 32)) (W : World) : Prop where
  hs : Seg W 24 (some hx) 8 hc (hl.map wv)
  ms : Seg W 24 (some ⟨gm, 0, none⟩) 16 cm (ml.map wv)
  vs : Seg W 24 (some ⟨gv, 0, none⟩) 16 cv (vl.map wv)
  hv : hx.block ≠ gv
  mv : gm ≠ gv
  bv_ : w.heap.size ≤ gv
  bel : Below w.heap.size w W
theorem seg_but {w w' : World} {e : TypeId} {x : Addr} {n cap : Nat} {vs : List Value} {g : Nat} (h : Seg w e (some x) n cap vs) (hg : w.grownBy w' (some g)) (hne : x.block ≠ g) : Seg w' e (some x) n cap vs :=
  h.kept fun j hj => hg.block j (h.lt j hj) (fun e => by
    have e1 : x.block = j := by simpa [blockOf] using hj
    exact hne (by rw [e1]; exact Option.some.inj e))
theorem seg_later {w w' : World} {e : TypeId} {a : Option Addr} {n cap : Nat} {vs : List Value} (h : Seg w e a n cap vs) (hb : Below w.heap.size w w') : Seg w' e a n cap vs := h.kept fun j hj => hb.block j (h.lt j hj)
theorem BS.next {w W W' : World} {hx : Addr} {hc : Nat} {hl : List (BitVec 32)} {gm cm : Nat} {ml : List (BitVec 32)} {gv cv : Nat} {vl vl' : List (BitVec 32)} (h : BS w hx hc hl gm cm ml gv cv vl W) (hs : Seg W' 24 (some ⟨gv, 0, none⟩) 16 cv (vl'.map wv)) (hg : W.grownBy W' (some gv)) : BS w hx hc hl gm cm ml gv cv vl' W' :=
  ⟨seg_but h.hs hg h.hv, seg_but h.ms hg h.mv, hs, h.hv, h.mv, h.bv_, h.bel.grown hg h.bel.size (fun k e => by cases e; exact h.bv_)⟩
theorem BS.later {w W W' : World} {hx : Addr} {hc : Nat} {hl : List (BitVec 32)} {gm cm : Nat} {ml : List (BitVec 32)} {gv cv : Nat} {vl : List (BitVec 32)} (h : BS w hx hc hl gm cm ml gv cv vl W) (hb : Below W.heap.size W W') : BS w hx hc hl gm cm ml gv cv vl W' :=
  ⟨seg_later h.hs hb, seg_later h.ms hb, seg_later h.vs hb, h.hv, h.mv, h.bv_, h.bel.trans (hb.mono h.bel.size)⟩

theorem exec_index' {P : Program} {o : Oper} {a : Act} {w : World} (t : TypeId) (x y : Operand) (ho : o.op = .index t x y) (s : ByteArray) (j : Nat) (c : UInt8) (r : Nat) (hx : a.eval x = .string s) (hy : a.eval y = .int .i64 (j : Int)) (hu : P.underlying t = some .string) (hc : s[j]? = some c) (hn : (c.toNat : Int) = (r : Int)) :
    (execOp a.eval o).run P w = .ok (.value (.int .u8 (r : Int))) w := by
  rw [← hn]; exact exec_index t x y ho s j c hx hy hu hc
def bouts (h v : List (BitVec 32)) (n : Nat) : List (BitVec 32) := (List.range n).map fun i => at32 h i ^^^ at32 v i ^^^ at32 v (8 + i)
theorem bouts_succ (h v : List (BitVec 32)) (n : Nat) : bouts h v (n + 1) = bouts h v n ++ [at32 h n ^^^ at32 v n ^^^ at32 v (8 + n)] := by simp [bouts, List.range_succ]
theorem seg_rest {w w' : World} {e e2 : TypeId} {x : Addr} {n cap : Nat} {vs : List Value} {base : Nat} {v : Value} {m : Nat} {l : List Value} (h : Seg w e (some x) n cap vs) (hO : w.ownsRow base e2 1 v m l) (hg : w.grownBy w' v.ownBlock) (hlt : x.block < base) : Seg w' e (some x) n cap vs :=
  h.kept fun j hj => hg.block j (h.lt j hj) (fun ee => by
    have e1 : x.block = j := by simpa [blockOf] using hj
    have := (hO.lt j ee.symm).1
    omega)
theorem BS.rest {w W W' : World} {hx : Addr} {hc : Nat} {hl : List (BitVec 32)} {gm cm : Nat} {ml : List (BitVec 32)} {gv cv : Nat} {vl : List (BitVec 32)} {base : Nat} {v : Value} {m : Nat} {l : List Value} (h : BS w hx hc hl gm cm ml gv cv vl W) (hO : W.ownsRow base 24 1 v m l) (hg : Rest v W W') (h1 : hx.block < base) (h2 : gm < base) (h3 : gv < base) (h4 : w.heap.size ≤ base) : BS w hx hc hl gm cm ml gv cv vl W' :=
  ⟨seg_rest h.hs hO hg h1, seg_rest h.ms hO hg h2, seg_rest h.vs hO hg h3, h.hv, h.mv, h.bv_, h.bel.grown hg h.bel.size (fun k e => Nat.le_trans h4 (hO.lt k e).1)⟩
theorem append_wordA (w : World) (base : Nat) (v : Value) (n : Nat) (xs : List (BitVec 32)) (hown : w.ownsRow base 24 1 v n (xs.map wv)) (x : BitVec 32) (hb : base ≤ w.heap.size) (hsm : n ≤ 900) :
    ∃ v' w', (Builtin.append_ #[116, 116] 116 #[v, .slice (some ⟨w.heap.size, 0, none⟩) 1 1]).run Tryd.prog (w.alloc (.cells #[.int .u64 (x.toNat : Int)] 24)) = .ok v' w' ∧ w'.ownsRow base 24 1 v' (n + 1) ((xs ++ [x]).map wv) ∧ (w.alloc (.cells #[.int .u64 (x.toNat : Int)] 24)).grownBy w' v.ownBlock := by
  have hs : Seg (w.alloc (.cells #[.int .u64 (x.toNat : Int)] 24)) 24 (some ⟨w.heap.size, 0, none⟩) 1 1 ([x].map wv) :=
    ⟨rfl, .inr ⟨w.heap.size, 0, #[.int .u64 (x.toNat : Int)], rfl, heap_alloc_new w _, by simp, Nat.le_refl _, fun i hi => by
      obtain rfl : i = 0 := by omega
      rfl⟩⟩
  exact append_words (w.alloc (.cells #[.int .u64 (x.toNat : Int)] 24)) base v n xs (hown.alloc _) ⟨w.heap.size, 0, none⟩ 1 1 [x] hs (by simp; omega) (by omega)
theorem slantB_val (q c d : Nat) (hq : q < 4) (hc : c < 4) (hd : d ≤ 12) : IntKind.i64.wrap ((d : Int) + (IntKind.i64.wrap ((q : Int) + (c : Int))).tmod 4) = ((d + (q + c) % 4 : Nat) : Int) := by
  have h1 : IntKind.i64.wrap ((q : Int) + (c : Int)) = ((q + c : Nat) : Int) := by rw [IntKind.wrap_i64]; omega
  have h2 : ((q + c : Nat) : Int).tmod 4 = (((q + c) % 4 : Nat) : Int) := by rw [Int.tmod_eq_emod_of_nonneg (by omega)]; omega
  have h3 : (q + c) % 4 < 4 := by omega
  rw [h1, h2]
  generalize (q + c) % 4 = m at h3 ⊢
  rw [IntKind.wrap_i64]
  omega
theorem xor_ofNat (u : BitVec 32) (n : Nat) (h : n < 4294967296) : bits .xor .u64 (u.toNat : Int) (n : Int) = ((u ^^^ BitVec.ofNat 32 n).toNat : Int) := by
  have e : (n : Int) = ((BitVec.ofNat 32 n).toNat : Int) := by rw [BitVec.toNat_ofNat, Nat.mod_eq_of_lt h]
  rw [e, xor_val64]
theorem rows_cell {W : World} {gr : Nat} (h : W.heap[gr]? = some (.cells rowsV 9 (0, 0))) (i : Nat) (hi : i < 10) : W.cell? ⟨gr, i, none⟩ = some (.string (rowS i)) := by
  rw [cell_of_row W gr i _ _ (0, 0) h]
  simp [rowsV, hi]
theorem bs_word {w W w' : World} {hx : Addr} {hc : Nat} {hl : List (BitVec 32)} {gm cm : Nat} {ml : List (BitVec 32)} {gv cv : Nat} {vl : List (BitVec 32)} (h : BS w hx hc hl gm cm ml gv cv vl W) (hw : But gv W w') (i : Nat) (hi : i < 16) : w'.cell? ⟨gm, i, none⟩ = some (.int .u64 ((at32 ml i).toNat : Int)) := by
  have := (h.ms.word i hi).1
  rw [Nat.zero_add] at this
  exact World.grownBy.cell hw this (fun e => h.mv (by cases e; rfl))
theorem letter (i k : Nat) (hi : i < 10) (hk : k < 16) : ∃ r s, sig i k = s ∧ s < 16 ∧ 65 + s = r ∧ (rowS i)[k]? = some (UInt8.ofNat r) ∧ ((UInt8.ofNat r).toNat : Int) = (r : Int) ∧ IntKind.u8.wrap ((r : Int) - 65) = (s : Int) := by
  have h := sig_lt i k hi hk
  refine ⟨65 + sig i k, sig i k, rfl, h, rfl, rowS_at i k hi hk, ?_, ?_⟩
  · rw [UInt8.toNat_ofNat']; omega
  · rw [IntKind.wrap_u8]; omega

end Go.Proofs.YtdancpcnjklifaaDoor

/- The walk over the document's Sum (blake). -/
namespace Go.Proofs.YtdancpcnjklifaaDoor
set_option linter.unusedVariables false
set_option maxRecDepth 100000
open Go.RowKit

theorem Seg.later {w w' : World} {e : TypeId} {a : Option Addr} {n cap : Nat} {vs : List Value} (h : Seg w e a n cap vs) (hb : Below w.heap.size w w') : Seg w' e a n cap vs :=
  h.kept fun g hg => hb.block g (h.lt g hg)
theorem Byt.all {w w' : World} {a : Option Addr} {n : Nat} {l : List UInt8} (h : Byt w a n l) (hb : Below w.heap.size w w') : Byt w' a n l := h.later hb
/-- What is left from a place on. -/
theorem Byt.from {w : World} {a : Option Addr} {len : Nat} {l : List UInt8} (h : Byt w a len l) (p cap : Nat) (hp : p ≤ len) (hlc : len ≤ cap) (hlt : p < len ∨ p = 0) :
    ∃ a', (∀ b off, a = some ⟨b, off, none⟩ → (if cap = p then some ⟨b, off, none⟩ else some ⟨b, off + p, none⟩) = a') ∧ (a = none → a' = none) ∧ Byt w a' (len - p) (l.drop p) := by
  have hl := h.1
  rcases h.2 with h0 | ⟨b, off, rfl, hc⟩
  · subst h0
    have hp0 : p = 0 := by omega
    subst hp0
    have hl0 : l = [] := List.eq_nil_of_length_eq_zero hl
    subst hl0
    cases a with
    | none => exact ⟨none, fun b off e => (by cases e), fun _ => rfl, rfl, .inl rfl⟩
    | some x => 
      obtain ⟨b, off, s⟩ := x
      by_cases hs : s = none
      · subst hs
        exact ⟨_, fun b' off' e => (by cases e; rfl), fun e => (by cases e), rfl, .inl rfl⟩
      · exact ⟨none, fun b' off' e => (by cases e; exact absurd rfl hs), fun e => (by cases e), rfl, .inl rfl⟩
  · by_cases hcp : cap = p
    · have hlp : len = p := by omega
      have hp0 : p = 0 := by omega
      exact ⟨some ⟨b, off, none⟩, fun b' off' e => (by cases e; rw [if_pos hcp]), fun e => (by cases e), by simp; omega, .inl (by omega)⟩
    · refine ⟨some ⟨b, off + p, none⟩, fun b' off' e => (by cases e; rw [if_neg hcp]), fun e => (by cases e), by simp; omega, .inr ⟨b, off + p, rfl, fun i hi => ?_⟩⟩
      rw [Nat.add_assoc, hc (p + i) (by omega)]
      simp [at8]
theorem bahead_eq (k len : Nat) (h1 : k = 0 ∨ 64 * k < len) (h2 : ¬ 64 * k + 64 < len) : k = bahead len := by unfold bahead; omega
theorem wordsB_take (H : List (BitVec 32)) (k : Nat) (hk : k < H.length) : wordsB (H.take (k + 1)) = wordsB (H.take k) ++ putB 4 (at32 H k).toNat false := by
  rw [List.take_succ_eq_append_getElem hk, wordsB_append, at32_get H k hk]
  simp [wordsB, putB]
/-- While the parts are taken: H. -/
structure BH (w : World) (l : List UInt8) (hx : Addr) (hc k : Nat) (W : World) : Prop where
  h : Seg W 24 (some hx) 8 hc ((bparts l k).map wv)
  bel : Below w.heap.size w W
def lenOf (v : Value) : Nat := match v with | .slice _ n _ => n | _ => 0
theorem grownBy_alloc (w : World) (o : Obj) : Below w.heap.size w (w.alloc o) := (Below.refl _ _).alloc (Nat.le_refl _) _
theorem grown_alloc {w w' : World} {o : Obj} {b : Option Nat} (hg : (w.alloc o).grownBy w' b) (hb : ∀ k, b = some k → w.heap.size ≤ k) : Below w.heap.size w w' := (grownBy_alloc w o).grown hg (by simp) hb
/-- The last part, while it is filled; H. -/
structure BL (w : World) (B : Nat) (hx : Addr) (hc : Nat) (H : List (BitVec 32)) (v : Value) (n : Nat) (R : List UInt8) (W : World) : Prop where
  own : W.ownsRow B 5 1 v n (R.map bv)
  h : Seg W 24 (some hx) 8 hc (H.map wv)
  hlt : hx.block < B
  bs : B ≤ W.heap.size
  wB : w.heap.size ≤ B
  bel : Below w.heap.size w W
theorem BL.new {w wr W : World} {hx : Addr} {hc : Nat} {H : List (BitVec 32)} {v : Value} {n : Nat} {R : List UInt8} (hh : Seg wr 24 (some hx) 8 hc (H.map wv)) (hb : Below w.heap.size w wr) (ho : W.ownsRow wr.heap.size 5 1 v n (R.map bv)) (hw : Below wr.heap.size wr W) : BL w wr.heap.size hx hc H v n R W :=
  ⟨ho, hh.later hw, hh.lt _ rfl, hw.size, hb.size, hb.trans (hw.mono hb.size)⟩
theorem BL.app {w W w4 : World} {B : Nat} {hx : Addr} {hc : Nat} {H : List (BitVec 32)} {v v4 : Value} {n m : Nat} {R R' : List UInt8} {o : Obj} (t : BL w B hx hc H v n R W) (ho : w4.ownsRow B 5 1 v4 m (R'.map bv)) (hg : (W.alloc o).grownBy w4 v.ownBlock) : BL w B hx hc H v4 m R' w4 := by
  have hbs := t.bs
  have hwB := t.wB
  have hlt := t.hlt
  have hsz := hg.size
  have hown := t.own.lt
  refine ⟨ho, ?_, t.hlt, by simp at hsz; omega, t.wB, ?_⟩
  · refine t.h.kept fun g hgb => ?_
    have hgx : g = hx.block := by simpa [blockOf] using hgb.symm
    rw [hg.block g (by simp; omega) (fun e => by have := (hown g e.symm).1; omega)]
    exact Below.heap_alloc W o g (by omega)
  · exact (t.bel.alloc (by omega) o).grown hg (by simp; omega) (fun k hk => by have := (hown k hk).1; omega)
/-- The bytes of H's words, as they are laid. -/
structure BO5 (w : World) (g c : Nat) (H : List (BitVec 32)) (a' : Option Addr) (c' j : Nat) (W : World) : Prop where
  h : Seg W 24 (some ⟨g, 0, none⟩) 8 c (H.map wv)
  out : Byt W a' (4 * j) (wordsB (H.take j))
  seg : 0 < j → Seg W 5 a' (4 * j) c' ((wordsB (H.take j)).map bv)
  nil : a' = none → c' = 0
  isnew : ∀ k, blockOf a' = some k → w.heap.size ≤ k
  bel : Below w.heap.size w W
theorem BO5.new {w W : World} {g c : Nat} {H : List (BitVec 32)} (hs : Seg W 24 (some ⟨g, 0, none⟩) 8 c (H.map wv)) (hb : Below w.heap.size w W) : BO5 w g c H (some ⟨W.heap.size, 0, none⟩) 0 0 (W.alloc (.cells #[] 5)) :=
  ⟨hs.later (grownBy_alloc W _), ⟨rfl, .inl rfl⟩, fun h => (by omega), fun e => (by cases e), fun k hk => (by have := hb.size; simp [blockOf] at hk; omega), hb.alloc hb.size _⟩
theorem BO5.put {w W W' : World} {g c : Nat} {H : List (BitVec 32)} {a' a8 : Option Addr} {c' c8 j : Nat} (t : BO5 w g c H a' c' j W) (hb : Below W.heap.size W W') (hs : Seg W' 5 a8 (4 * (j + 1)) c8 ((wordsB (H.take (j + 1))).map bv)) (hk : ∀ k, blockOf a8 = some k → W.heap.size ≤ k) : BO5 w g c H a8 c8 (j + 1) W' := by
  refine ⟨t.h.later hb, Byt.ofSeg hs, fun _ => hs, ?_, fun k h => Nat.le_trans t.bel.size (hk k h), t.bel.trans (hb.mono t.bel.size)⟩
  intro e
  rcases hs.2 with ⟨_, h0, _⟩ | ⟨_, _, _, e2, _⟩
  · omega
  · rw [e] at e2; cases e2

end Go.Proofs.YtdancpcnjklifaaDoor
