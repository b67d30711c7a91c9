/- What the walks over rows of bytes share: what stays when memory grows, or but for one block; whole rows; appends. -/
import Derived.Test.YtejbhjcopldekaaWalkD
import Derived.Test.YtejbhjcopldekaaMath3
import Derived.Test.YtejbhjcopldekaaSched
import Derived.Laws.OwnMore
import Derived.Deep.WholeRow
import Derived.Lib.SlBytesConst
namespace Go.Proofs.Ytejbhjcopldekaa
set_option linter.unusedVariables false
set_option maxRecDepth 100000
open Go.RowKit


/-- Memory only grows. -/
def Grows (w w' : World) : Prop := Below w.heap.size w w'
theorem Grows.refl (w : World) : Grows w w := Below.refl _ _
theorem Grows.trans (a b c : World) (h : Grows a b) (k : Grows b c) : Grows a c := Below.trans h (Below.mono k h.size)
theorem Byt.on {w w' : World} {a : Option Addr} {len : Nat} {l : List UInt8} (h : Byt w a len l) (hb : Grows w w') : Byt w' a len l := h.later hb
theorem Byt.ofSeg {w : World} {e : TypeId} {a : Option Addr} {n cap : Nat} {l : List UInt8} (h : Seg w e a n cap (l.map bv)) : Byt w a n l := by
  have hl : l.length = n := by have := h.1; simpa using this
  refine ⟨hl, ?_⟩
  by_cases h0 : n = 0
  · exact .inl h0
  · obtain ⟨g, off, rfl, _, _⟩ := h.cell 0 (by omega)
    refine .inr ⟨g, off, rfl, fun i hi => ?_⟩
    obtain ⟨g', off', e, hc, _⟩ := h.cell i hi
    cases e
    rw [hc, List.getElem?_map, at8_get l i (by omega)]
    simp [bv, show i < l.length by omega]
theorem Seg.ofOwn' {w : World} {base : Nat} {e : TypeId} {v : Value} {n : Nat} {xs : List Value} (h : w.ownsRow base e 1 v n xs) :
    ∃ a cap, v = .slice a n cap ∧ Seg w e a n cap xs ∧ ∀ j, blockOf a = some j → base ≤ j := by
  rcases h.2 with ⟨rfl, rfl⟩ | ⟨g, cap, cur, rfl, hb, hg, hnc, hcm, hcs, htake⟩
  · exact ⟨none, 0, rfl, ⟨by have := h.1; simpa using this, .inl ⟨rfl, rfl, rfl⟩⟩, by intro j hj; simp [blockOf] at hj⟩
  · refine ⟨some ⟨g, 0, none⟩, cap, rfl, ⟨by have := h.1; omega, .inr ⟨g, 0, cur, rfl, hg, by omega, hnc, fun i hi => ?_⟩⟩, by intro j hj; simp [blockOf] at hj; omega⟩
    rw [← htake, List.getElem?_take, if_pos (by omega)]
    simp
/-- 'append([]byte{}, b...)'. -/
theorem append_all (w : World) (a : Option Addr) (len cap : Nat) (l : List UInt8) (hB : Byt w a len l) (hnil : a = none → cap = 0) (hm : len ≤ 1000000) :
    ∃ a' cap' w2, (Builtin.append_ #[32, 32] 32 #[.slice (some ⟨w.heap.size, 0, none⟩) 0 0, .slice a len cap]).run Try.prog (w.alloc (.cells #[] 5)) = .ok (.slice a' len cap') w2 ∧
      Seg w2 5 a' len cap' (l.map bv) ∧ Below w.heap.size w w2 ∧ ∀ j, blockOf a' = some j → w.heap.size ≤ j := by
  obtain ⟨i0, hi, hz0, hz1, hz2⟩ := info_parts Try.infoU8
  have hbel : Below w.heap.size w (w.alloc (.cells #[] 5)) := (Below.refl _ _).alloc (Nat.le_refl _) _
  have hown : (w.alloc (.cells #[] 5)).ownsRow w.heap.size 5 1 (.slice (some ⟨w.heap.size, 0, none⟩) 0 0) 0 [] := World.ownsRow_made w #[] 0 (Nat.le_refl _) (Nat.zero_le _) rfl
  have hl := hB.1
  cases a with
  | none =>
    have h0 : len = 0 := by
      rcases hB.2 with h | ⟨_, _, e, _⟩
      · exact h
      · cases e
    have hc0 := hnil rfl
    subst h0
    subst hc0
    obtain rfl : l = [] := List.eq_nil_of_length_eq_zero hl
    have hr := run_append_owned_none (P := Try.prog) (w.alloc (.cells #[] 5)) w.heap.size 32 32 5 i0 1 Try.underlying32 hi _ 0 [] hown
    obtain ⟨a', cap', e, hseg, hb⟩ := Seg.ofOwn' hown
    exact ⟨a', cap', _, by rw [hr, e], hseg, hbel, hb⟩
  | some x =>
    obtain ⟨v', w2, hr, hown2, hgr, _⟩ := run_append_own (P := Try.prog) (w.alloc (.cells #[] 5)) w.heap.size 32 32 5 i0 (.int .u8 0) 1 1 Try.underlying32 hi hz0 hz1 hz2 rfl (by decide) _ 0 [] hown x len cap (l.map bv) (by simpa using hl) ((hB.later hbel).cells x rfl) (bv_oneCell l) (by unfold maxLen; omega) (by omega) (by simp)
    rw [Nat.zero_add, List.nil_append] at hown2
    obtain ⟨a', cap', rfl, hseg, hb⟩ := Seg.ofOwn' hown2
    exact ⟨a', cap', w2, hr, hseg, hbel.grown hgr (by simp) (by intro k hk; simp [Value.ownBlock] at hk; omega), hb⟩

theorem byt_lit (w : World) (l : List UInt8) (b : Nat) (cs : Array Value) (e : TypeId) (fr : Nat × Nat) (h : w.heap[b]? = some (.cells cs e fr)) (hc : cs = (l.map bv).toArray) : Byt w (some ⟨b, 0, none⟩) l.length l := by
  refine ⟨rfl, .inr ⟨b, 0, rfl, fun i hi => ?_⟩⟩
  rw [cell_of_row w b (0 + i) cs e fr h, Nat.zero_add, hc, at8_get l i hi]
  simp [bv, hi]
theorem u64_of (a : Int) (h : (Lit.int .u64 a).wf = true) : ∃ n : Nat, a = (n : Int) ∧ n < 18446744073709551616 := by
  have hb : 0 ≤ a ∧ a ≤ 18446744073709551615 := by simpa [Lit.wf, IntKind.min, IntKind.max, IntKind.signed, IntKind.bits] using h
  exact ⟨a.toNat, by omega, by omega⟩
theorem i64_of (a : Int) (h : (Lit.int .i64 a).wf = true) : -9223372036854775808 ≤ a ∧ a ≤ 9223372036854775807 := by
  simpa [Lit.wf, IntKind.min, IntKind.max, IntKind.signed, IntKind.bits] using h
theorem valB_putB (sz n : Nat) (big : Bool) : valB (putB sz n big) big = n % 256 ^ sz := by
  cases big <;> simp [valB, putB, leN_leB]
theorem getV_putB (l : List UInt8) (sz n : Nat) (big : Bool) : getV (l ++ putB sz n big) big l.length sz = n % 256 ^ sz := by
  have e : cutB (l ++ putB sz n big) l.length sz = putB sz n big := by
    unfold cutB
    rw [List.drop_left]
    exact List.take_of_length_le (by rw [putB_length]; exact Nat.le_refl _)
  rw [getV, e, valB_putB]
theorem Seg.cellsW {w : World} {e : TypeId} {x : Addr} {n cap : Nat} {vs : List Value} (h : Seg w e (some x) n cap vs) : ∀ j v, vs[j]? = some v → w.cell? (x.add j) = some v := by
  intro j v hj
  have hl := h.1
  have hjn : j < n := by
    rcases Nat.lt_or_ge j vs.length with hh | hh
    · omega
    · rw [List.getElem?_eq_none hh] at hj; cases hj
  obtain ⟨g, off, e, hc, _⟩ := h.cell j hjn
  cases e
  rw [addr_add, hc, hj]
theorem grown_below {w w' : World} (h : Below w.heap.size w w') : w.grownBy w' none := ⟨h.os, h.tape, h.output, h.size, fun k hk _ => h.block k hk⟩
theorem own_slice {w : World} {base : Nat} {e : TypeId} {v : Value} {n : Nat} {xs : List Value} (h : w.ownsRow base e 1 v n xs) (hn : 0 < n) :
    ∃ g cap, v = .slice (some ⟨g, 0, none⟩) n cap ∧ base ≤ g ∧ Seg w e (some ⟨g, 0, none⟩) n cap xs := Seg.ofOwn h hn
theorem Byt.below {w w' : World} {B : Nat} {b off n : Nat} {l : List UInt8} (h : Byt w (some ⟨b, off, none⟩) n l) (hbB : b < B) (hb : Below B w w') : Byt w' (some ⟨b, off, none⟩) n l := by
  refine ⟨h.1, ?_⟩
  rcases h.2 with h0 | ⟨b', off', e, hc⟩
  · exact .inl h0
  · cases e
    refine .inr ⟨b, off, rfl, fun i hi => ?_⟩
    rw [hb.cell (p := ⟨b, off + i, none⟩) hbB]
    exact hc i hi
theorem Byt.lt {w : World} {b off n : Nat} {l : List UInt8} (h : Byt w (some ⟨b, off, none⟩) n l) (hn : 0 < n) : b < w.heap.size := by
  rcases h.2 with h0 | ⟨b', off', e, hc⟩
  · omega
  · cases e
    exact World.block_lt_of_cell? w _ (hc 0 hn)

/-- 'append(out, s...)' of bytes. -/
theorem append_bytes (w : World) (base : Nat) (v : Value) (n : Nat) (xs : List UInt8) (hown : w.ownsRow base 5 1 v n (xs.map bv)) (x : Addr) (m c : Nat) (ys : List UInt8) (hs : Byt w (some x) m ys) (hb : base ≤ w.heap.size) (hsm : n + m ≤ 1000000) :
    ∃ v' w', (Builtin.append_ #[32, 32] 32 #[v, .slice (some x) m c]).run Try.prog w = .ok v' w' ∧ w'.ownsRow base 5 1 v' (n + m) ((xs ++ ys).map bv) ∧ w.grownBy w' v.ownBlock := by
  obtain ⟨i0, hi, hz0, hz1, hz2⟩ := info_parts Try.infoU8
  have hl := hs.1
  obtain ⟨v', w', hr, ho, hg, _⟩ := run_append_own (P := Try.prog) w base 32 32 5 i0 (.int .u8 0) 1 1 Try.underlying32 hi hz0 hz1 hz2 rfl (by decide) v n _ hown x m c (ys.map bv) (by rw [List.length_map]; omega) (hs.cells x rfl) (bv_oneCell ys) (by unfold maxLen; omega) (by omega) hb
  exact ⟨v', w', hr, by rw [List.map_append]; exact ho, hg⟩
theorem Byt.sub {w : World} {b off len n q : Nat} {l : List UInt8} (h : Byt w (some ⟨b, off, none⟩) len l) (h1 : n ≤ q) (h2 : q ≤ len) : Byt w (some ⟨b, off + n, none⟩) (q - n) ((l.drop n).take (q - n)) := by
  have hl := h.1
  refine ⟨by simp; omega, ?_⟩
  rcases h.2 with h0 | ⟨b', off', e, hc⟩
  · exact .inl (by omega)
  · cases e
    refine .inr ⟨b, off + n, rfl, fun i hi => ?_⟩
    rw [Nat.add_assoc, hc (n + i) (by omega)]
    simp [at8, hi]
theorem Seg.set {w : World} {e : TypeId} {g off n cap : Nat} {vs : List Value} (h : Seg w e (some ⟨g, off, none⟩) n cap vs) (i : Nat) (hi : i < n) (v : Value) :
    Seg (w.setCell ⟨g, off + i, none⟩ v) e (some ⟨g, off, none⟩) n cap (vs.set i v) := by
  refine ⟨by rw [List.length_set]; exact h.1, ?_⟩
  have hl := h.1
  rcases h.2 with ⟨e0, _⟩ | ⟨g', off', cur, e0, hg, h1, h2, h3⟩
  · cases e0
  · cases e0
    refine .inr ⟨g, off, cur.setIfInBounds (off + i) v, rfl, heap_setCell_same w g (off + i) cur e v hg, by simpa using h1, h2, fun j hj => ?_⟩
    rw [Array.getElem?_setIfInBounds, List.getElem?_set]
    by_cases hij : i = j
    · subst hij
      rw [if_pos rfl, if_pos (by omega), if_pos rfl, if_pos (by omega)]
    · rw [if_neg (by omega), if_neg hij, h3 j hj]
theorem Seg.drew {w : World} {e : TypeId} {a : Option Addr} {n cap : Nat} {vs : List Value} (h : Seg w e a n cap vs) : Seg w.drew e a n cap vs := h.kept fun g _ => rfl
/-- One world alone. -/
def Stays (w w' : World) : Prop := w' = w
theorem Stays.refl (w : World) : Stays w w := rfl
theorem Stays.trans (a b c : World) (h : Stays a b) (k : Stays b c) : Stays a c := by unfold Stays at *; rw [k, h]

/-- What lay outside one block stays. -/
def But (g : Nat) (w w' : World) : Prop := w.grownBy w' (some g)
theorem grownBy_drew (w : World) (b : Option Nat) : w.grownBy w.drew b := ⟨rfl, rfl, rfl, Nat.le_refl _, fun _ _ _ => rfl⟩
theorem grownBy_refl (w : World) (b : Option Nat) : w.grownBy w b := ⟨rfl, rfl, rfl, Nat.le_refl _, fun _ _ _ => rfl⟩
theorem But.refl (g : Nat) (w : World) : But g w w := grownBy_refl w _
theorem But.trans (g : Nat) (a b c : World) (h : But g a b) (k : But g b c) : But g a c := World.grownBy.trans h k
theorem Byt.but {w w' : World} {b off n g : Nat} {l : List UInt8} (h : Byt w (some ⟨b, off, none⟩) n l) (hg : w.grownBy w' (some g)) (hb : b ≠ g) : Byt w' (some ⟨b, off, none⟩) n l := by
  refine ⟨h.1, ?_⟩
  rcases h.2 with h0 | ⟨b', off', e, hc⟩
  · exact .inl h0
  · cases e
    exact .inr ⟨b, off, rfl, fun i hi => hg.cell (hc i hi) (fun e => hb (by cases e; rfl))⟩
theorem byt_row {W : World} {b t : Nat} {l : List UInt8} (n : Nat) (hn : l.length = n) (h : W.heap[b]? = some (.cells (l.map bv).toArray t (0, 0))) : Byt W (some ⟨b, 0, none⟩) n l := by
  refine ⟨hn, .inr ⟨b, 0, rfl, fun i hi => ?_⟩⟩
  rw [cell_of_row W b (0 + i) _ t (0, 0) h, at8_get l i (by omega)]
  simp [show i < l.length by omega, bv]
/-- A whole row into a block, and out of it. -/
theorem store_row (W : World) (g : Nat) (t : TypeId) (old : Array Value) (vs : List Value) (h : W.heap[g]? = some (.cells old t (0, 0))) (hl : vs.length = old.size) (h1 : ∀ v ∈ vs, v.oneCell' = true) :
    (storeCells ⟨g, 0, none⟩ vs).run Try.prog W = .ok () (W.setRow g vs.toArray) := by
  have := run_storeCells_from (P := Try.prog) g t vs 0 old W h (by omega) h1
  simpa using this
theorem load_row (W : World) (g : Nat) (t : TypeId) (vs : List Value) (n : Nat) (hn : vs.length = n) (h : W.heap[g]? = some (.cells vs.toArray t (0, 0))) :
    (loadCellsFrom ⟨g, 0, none⟩ 0 n #[]).run Try.prog W = .ok vs.toArray W := by
  subst hn
  have := run_loadCells_list (P := Try.prog) W ⟨g, 0, none⟩ vs (fun j v hv => by
    rw [addr_add, cell_of_row _ _ _ _ t (0, 0) h]
    simpa using hv)
  simpa [loadCells] using this
theorem from_world {P R : World → Prop} (W : World) (h : R W) (H : ∀ W0, R W0 → P W0) : P W := H W h
theorem But.below {w w' : World} (g : Nat) (hb : Below w.heap.size w w') : But g w w' := ⟨hb.os, hb.tape, hb.output, hb.size, fun k hk _ => hb.block k hk⟩
theorem But.setRow (w : World) (g : Nat) (cs : Array Value) : But g w (w.setRow g cs) := ⟨rfl, rfl, rfl, by simp [World.setRow], fun k hk hne => setRow_other w g k cs (fun e => hne (by rw [e]))⟩
theorem make_room (w : World) (n : Nat) (h : n ≤ 2000000) :
    ∃ Z : List Value, Z.length = n ∧ (Instr.makeSlice 32 (.int .i64 0) (.int .i64 (n : Int))).run Try.prog w = .ok (.slice (some ⟨w.heap.size, 0, none⟩) 0 n) (w.alloc (.cells Z.toArray 5)) := by
  have := make_bytes w 0 n (by omega)
  simpa using this
def Rest (v : Value) (w w' : World) : Prop := w.grownBy w' v.ownBlock
theorem Rest.refl (v : Value) (w : World) : Rest v w w := grownBy_refl w _
theorem Rest.trans (v : Value) (a b c : World) (h : Rest v a b) (k : Rest v b c) : Rest v a c := World.grownBy.trans h k
theorem Rest.below (v : Value) {w w' : World} (hb : Below w.heap.size w w') : Rest v w w' := ⟨hb.os, hb.tape, hb.output, hb.size, fun k hk _ => hb.block k hk⟩
theorem own_out {w : World} {base : Nat} {v : Value} {n : Nat} {l : List UInt8} (h : w.ownsRow base 5 1 v n (l.map bv)) :
    ∃ a cap, v = .slice a n cap ∧ Byt w a n l ∧ n ≤ cap ∧ cap ≤ maxLen := by
  have hl := h.1
  rw [List.length_map, Nat.mul_one] at hl
  rcases h.2 with ⟨e, h0⟩ | ⟨g, cap, cur, rfl, hb, hg, hnc, hcm, hcs, htake⟩
  · refine ⟨none, 0, ?_, ⟨hl, .inl h0⟩, by omega, by omega⟩
    rw [e, h0]
  · exact ⟨_, cap, rfl, Byt.ofOwn h, hnc, hcm⟩
theorem run_store_arr (w : World) (t : TypeId) (B : List UInt8) (n : Nat) (hn : B.length = n) (hi : (Try.prog.info? t).map (·.size) = some n) (c : Array Value) (hc : c.size = n) :
    (storeCells ⟨w.heap.size, 0, none⟩ (B.map bv)).run Try.prog (w.alloc (.cells c t)) = .ok () (w.alloc (.cells (B.map bv).toArray t)) := by
  have := run_storeCells_new (P := Try.prog) w t c (B.map bv).toArray (by rw [hi]; simp [hn]) (by simp [hc, hn]) (by
    rw [Array.all_eq_true_iff_forall_mem]
    intro u hu
    simp only [List.mem_toArray] at hu
    exact bv_oneCell B u hu)
  exact this
theorem u32_word (a : Int) (h : (Lit.int .u32 a).wf = true) : ∃ X : BitVec 32, a = (X.toNat : Int) := by
  have hb : 0 ≤ a ∧ a ≤ 4294967295 := by simpa [Lit.wf, IntKind.min, IntKind.max, IntKind.signed, IntKind.bits] using h
  exact ⟨BitVec.ofNat 32 a.toNat, by rw [BitVec.toNat_ofNat]; omega⟩
theorem load_arr (W : World) (b : Nat) (t : TypeId) (B : List UInt8) (n : Nat) (hn : B.length = n) (h : W.heap[b]? = some (.cells (B.map bv).toArray t (0, 0))) :
    (loadCellsFrom ⟨b, 0, none⟩ 0 n #[]).run Try.prog W = .ok (B.map bv).toArray W := by
  subst hn
  have := run_loadCells_list (P := Try.prog) W ⟨b, 0, none⟩ (B.map bv) (fun j v hv => by
    have hadd : (⟨b, 0, none⟩ : Addr).add j = ⟨b, j, none⟩ := by unfold Addr.add; split <;> simp_all
    rw [hadd, cell_of_row _ _ j _ t (0, 0) h]
    simpa using hv)
  simpa [loadCells] using this
theorem exec_load_row {P : Program} {o : Oper} {a : Act} {w : World} (ty : TypeId) (x : Operand) (ho : o.op = .load ty x) (g : Nat) (hx : a.eval x = .pointer (some ⟨g, 0, none⟩)) (t : TypeId) (cs : Array Value) (fr : Nat × Nat) (d : TypeDesc) (hg : w.heap[g]? = some (.cells cs t fr))
    (hu : P.underlying ty = some d) (hd : (match d with | .struct _ | .array _ _ => true | _ => false) = true) (hi : (P.info? ty).map (·.size) = some cs.size) : (execOp a.eval o).run P w = .ok (.value (.agg cs)) w := by
  unfold execOp
  simp only [ho, hx, Instr.loadAt, Instr.sureAddr, Sem.run_bind, Sem.run_pure, Result.andThen_ok, run_loadVar_row w g t ty cs fr d hg hu hd hi]
theorem Byt.cut {w : World} {a : Option Addr} {len q : Nat} {l : List UInt8} (h : Byt w a len l) (hq : q ≤ len) : Byt w a q (l.take q) := by
  have hl := h.1
  refine ⟨by simp; omega, ?_⟩
  rcases h.2 with h0 | ⟨b, off, e, hc⟩
  · exact .inl (by omega)
  · refine .inr ⟨b, off, e, fun i hi => ?_⟩
    rw [hc i (by omega)]
    simp [at8, hi]
theorem Byt.at_ {w : World} {a : Option Addr} {len : Nat} {l : List UInt8} (h : Byt w a len l) (k : Nat) (hk : k < len) : ∃ b off, a = some ⟨b, off, none⟩ ∧ w.cell? ⟨b, off + k, none⟩ = some (.int .u8 ((at8 l k).toNat : Int)) := by
  rcases h.2 with h0 | ⟨b, off, e, hc⟩
  · omega
  · exact ⟨b, off, e, hc k hk⟩
theorem and16 (x : Int) : bits .and .i64 x 65535 = x % 65536 := by
  have e : (BitVec.ofInt 64 x &&& BitVec.ofInt 64 65535).toNat = (x % 65536).toNat := by
    rw [BitVec.toNat_and, BitVec.toNat_ofInt]
    have h7 : (BitVec.ofInt 64 65535).toNat = 2 ^ 16 - 1 := by decide
    rw [h7, Nat.and_two_pow_sub_one_eq_mod]
    omega
  show IntKind.i64.wrap ((BitVec.ofInt 64 x &&& BitVec.ofInt 64 65535).toNat : Int) = _
  rw [e, IntKind.wrap_i64]
  omega
theorem cut16 (x : Int) (n : Nat) : ∃ q : Nat, (bits .and .i64 x 65535).tmod ((n : Int) + 1) = (q : Int) ∧ q ≤ n := by
  refine ⟨((x % 65536).toNat % (n + 1)), ?_, by have := Nat.mod_lt (x % 65536).toNat (show 0 < n + 1 by omega); omega⟩
  have h0 : (((x % 65536).toNat : Nat) : Int) = x % 65536 := by omega
  rw [and16, Int.tmod_eq_emod_of_nonneg (by omega), ← h0]
  simp
theorem own_lower {w : World} {base base' : Nat} {e : TypeId} {v : Value} {n : Nat} {xs : List Value} (h : w.ownsRow base e 1 v n xs) (hb : base' ≤ base) : w.ownsRow base' e 1 v n xs := by
  refine ⟨h.1, ?_⟩
  rcases h.2 with h0 | ⟨g, cap, cur, e1, hbg, h2⟩
  · exact .inl h0
  · exact .inr ⟨g, cap, cur, e1, Nat.le_trans hb hbg, h2⟩
/-- What one owns, as bytes: where it lies, and how much room there is. -/
theorem own_parts {w : World} {base : Nat} {v : Value} {n : Nat} {l : List UInt8} (h : w.ownsRow base 5 1 v n (l.map bv)) :
    ∃ a cap, v = .slice a n cap ∧ Byt w a n l ∧ n ≤ cap ∧ cap ≤ maxLen ∧ (a = none → cap = 0) := by
  have hl := h.1
  rw [List.length_map, Nat.mul_one] at hl
  rcases h.2 with ⟨e, h0⟩ | ⟨g, cap, cur, rfl, hb, hg, hnc, hcm, hcs, htake⟩
  · refine ⟨none, 0, ?_, ⟨hl, .inl h0⟩, by omega, by omega, fun _ => rfl⟩
    rw [e, h0]
  · exact ⟨_, cap, rfl, Byt.ofOwn h, hnc, hcm, fun e => by cases e⟩
/-- 'append(v, b...)' of bytes that lie anywhere. -/
theorem append_own_any (w : World) (base : Nat) (v : Value) (n : Nat) (xs : List UInt8) (hown : w.ownsRow base 5 1 v n (xs.map bv)) (a : Option Addr) (len cap : Nat) (l : List UInt8) (hB : Byt w a len l) (hnil : a = none → cap = 0) (hb : base ≤ w.heap.size) (hsm : n + len ≤ 1000000) :
    ∃ v' w', (Builtin.append_ #[32, 32] 32 #[v, .slice a len cap]).run Try.prog w = .ok v' w' ∧ w'.ownsRow base 5 1 v' (n + len) ((xs ++ l).map bv) ∧ w.grownBy w' v.ownBlock := by
  cases a with
  | some x => exact append_bytes w base v n xs hown x len cap l hB hb hsm
  | none =>
    have h0 : len = 0 := by
      rcases hB.2 with h0 | ⟨b', off', e, _⟩
      · exact h0
      · cases e
    subst h0
    have hl : l = [] := List.eq_nil_of_length_eq_zero hB.1
    subst hl
    rw [hnil rfl]
    obtain ⟨i0, hi, hz0, hz1, hz2⟩ := info_parts Try.infoU8
    refine ⟨v, w, run_append_owned_none (P := Try.prog) w base 32 32 5 i0 1 Try.underlying32 hi v n _ hown, by rw [List.append_nil]; exact hown, grownBy_refl w _⟩
end Go.Proofs.Ytejbhjcopldekaa
