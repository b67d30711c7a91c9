/- The walk over the document's part (blake). -/
import Derived.Test.YthjkjfoelekeeaaDoorRefBb
namespace Go.Proofs.YthjkjfoelekeeaaDoor
set_option linter.unusedVariables false
open Go.RowKit

theorem exec_index {P : Program} {o : Oper} {a : Act} {w : World} (t : TypeId) (x y : Operand) (ho : o.op = .index t x y) (s : ByteArray) (j : Nat) (c : UInt8) (hx : a.eval x = .string s) (hy : a.eval y = .int .i64 (j : Int)) (hu : P.underlying t = some .string) (hc : s[j]? = some c) :
    (execOp a.eval o).run P w = .ok (.value (.int .u8 (c.toNat : Int))) w := by
  unfold execOp
  simp [ho, hx, hy, Instr.index, asIntOf, run_underlying hu, hc]
theorem append_word (w : World) (base : Nat) (v : Value) (n : Nat) (xs : List (BitVec 32)) (hown : w.ownsRow base 47 1 v n (xs.map wv)) (x : BitVec 32) (hb : base ≤ w.heap.size) (hsm : n ≤ 900) :
    ∃ v' w', (Builtin.append_ #[45, 45] 45 #[v, .slice (some ⟨w.heap.size, 0, none⟩) 1 1]).run Tryd.prog (w.alloc (.cells #[.int .u64 (x.toNat : Int)] 47)) = .ok v' w' ∧ w'.ownsRow base 47 1 v' (n + 1) ((xs ++ [x]).map wv) ∧ w.grownBy w' v.ownBlock := by
  have hs : Seg (w.alloc (.cells #[.int .u64 (x.toNat : Int)] 47)) 47 (some ⟨w.heap.size, 0, none⟩) 1 1 ([x].map wv) :=
    ⟨rfl, .inr ⟨w.heap.size, 0, #[.int .u64 (x.toNat : Int)], rfl, heap_alloc_new w _, by simp, Nat.le_refl _, fun i hi => by
      obtain rfl : i = 0 := by omega
      rfl⟩⟩
  obtain ⟨v', w', hr, ho, hg⟩ := append_words (w.alloc (.cells #[.int .u64 (x.toNat : Int)] 47)) base v n xs (hown.alloc _) ⟨w.heap.size, 0, none⟩ 1 1 [x] hs (by simp; omega) (by omega)
  refine ⟨v', w', hr, ho, hg.os, hg.tape, hg.output, by have := hg.size; simp at this; omega, fun k hk hne => ?_⟩
  rw [hg.block k (by simp; omega) hne]
  exact Below.heap_alloc w _ k hk
/-- What part has: H, M, V, the rows. -/
structure BS (w : World) (hx : Addr) (hc : Nat) (hl : List (BitVec 32)) (gm cm : Nat) (ml : List (BitVec 32)) (gv cv : Nat) (vl : List (BitVec 32)) (W : World) : Prop where
  hs : Seg W 47 (some hx) 8 hc (hl.map wv)
  ms : Seg W 47 (some ⟨gm, 0, none⟩) 16 cm (ml.map wv)
  vs : Seg W 47 (some ⟨gv, 0, none⟩) 16 cv (vl.map wv)
  hv : hx.block ≠ gv
  mv : gm ≠ gv
  bv_ : w.heap.size ≤ gv
  bel : Below w.heap.size w W
theorem seg_but {w w' : World} {e : TypeId} {x : Addr} {n cap : Nat} {vs : List Value} {g : Nat} (h : Seg w e (some x) n cap vs) (hg : w.grownBy w' (some g)) (hne : x.block ≠ g) : Seg w' e (some x) n cap vs :=
  h.kept fun j hj => hg.block j (h.lt j hj) (fun e => by
    have e1 : x.block = j := by simpa [blockOf] using hj
    exact hne (by rw [e1]; exact Option.some.inj e))
theorem seg_later {w w' : World} {e : TypeId} {a : Option Addr} {n cap : Nat} {vs : List Value} (h : Seg w e a n cap vs) (hb : Below w.heap.size w w') : Seg w' e a n cap vs := h.kept fun j hj => hb.block j (h.lt j hj)
theorem BS.next {w W W' : World} {hx : Addr} {hc : Nat} {hl : List (BitVec 32)} {gm cm : Nat} {ml : List (BitVec 32)} {gv cv : Nat} {vl vl' : List (BitVec 32)} (h : BS w hx hc hl gm cm ml gv cv vl W) (hs : Seg W' 47 (some ⟨gv, 0, none⟩) 16 cv (vl'.map wv)) (hg : W.grownBy W' (some gv)) : BS w hx hc hl gm cm ml gv cv vl' W' :=
  ⟨seg_but h.hs hg h.hv, seg_but h.ms hg h.mv, hs, h.hv, h.mv, h.bv_, h.bel.grown hg h.bel.size (fun k e => by cases e; exact h.bv_)⟩
theorem BS.later {w W W' : World} {hx : Addr} {hc : Nat} {hl : List (BitVec 32)} {gm cm : Nat} {ml : List (BitVec 32)} {gv cv : Nat} {vl : List (BitVec 32)} (h : BS w hx hc hl gm cm ml gv cv vl W) (hb : Below W.heap.size W W') : BS w hx hc hl gm cm ml gv cv vl W' :=
  ⟨seg_later h.hs hb, seg_later h.ms hb, seg_later h.vs hb, h.hv, h.mv, h.bv_, h.bel.trans (hb.mono h.bel.size)⟩

theorem exec_index' {P : Program} {o : Oper} {a : Act} {w : World} (t : TypeId) (x y : Operand) (ho : o.op = .index t x y) (s : ByteArray) (j : Nat) (c : UInt8) (r : Nat) (hx : a.eval x = .string s) (hy : a.eval y = .int .i64 (j : Int)) (hu : P.underlying t = some .string) (hc : s[j]? = some c) (hn : (c.toNat : Int) = (r : Int)) :
    (execOp a.eval o).run P w = .ok (.value (.int .u8 (r : Int))) w := by
  rw [← hn]; exact exec_index t x y ho s j c hx hy hu hc
def bouts (h v : List (BitVec 32)) (n : Nat) : List (BitVec 32) := (List.range n).map fun i => at32 h i ^^^ at32 v i ^^^ at32 v (8 + i)
theorem bouts_succ (h v : List (BitVec 32)) (n : Nat) : bouts h v (n + 1) = bouts h v n ++ [at32 h n ^^^ at32 v n ^^^ at32 v (8 + n)] := by simp [bouts, List.range_succ]
theorem seg_rest {w w' : World} {e e2 : TypeId} {x : Addr} {n cap : Nat} {vs : List Value} {base : Nat} {v : Value} {m : Nat} {l : List Value} (h : Seg w e (some x) n cap vs) (hO : w.ownsRow base e2 1 v m l) (hg : w.grownBy w' v.ownBlock) (hlt : x.block < base) : Seg w' e (some x) n cap vs :=
  h.kept fun j hj => hg.block j (h.lt j hj) (fun ee => by
    have e1 : x.block = j := by simpa [blockOf] using hj
    have := (hO.lt j ee.symm).1
    omega)
theorem BS.rest {w W W' : World} {hx : Addr} {hc : Nat} {hl : List (BitVec 32)} {gm cm : Nat} {ml : List (BitVec 32)} {gv cv : Nat} {vl : List (BitVec 32)} {base : Nat} {v : Value} {m : Nat} {l : List Value} (h : BS w hx hc hl gm cm ml gv cv vl W) (hO : W.ownsRow base 47 1 v m l) (hg : Rest v W W') (h1 : hx.block < base) (h2 : gm < base) (h3 : gv < base) (h4 : w.heap.size ≤ base) : BS w hx hc hl gm cm ml gv cv vl W' :=
  ⟨seg_rest h.hs hO hg h1, seg_rest h.ms hO hg h2, seg_rest h.vs hO hg h3, h.hv, h.mv, h.bv_, h.bel.grown hg h.bel.size (fun k e => Nat.le_trans h4 (hO.lt k e).1)⟩
theorem append_wordA (w : World) (base : Nat) (v : Value) (n : Nat) (xs : List (BitVec 32)) (hown : w.ownsRow base 47 1 v n (xs.map wv)) (x : BitVec 32) (hb : base ≤ w.heap.size) (hsm : n ≤ 900) :
    ∃ v' w', (Builtin.append_ #[45, 45] 45 #[v, .slice (some ⟨w.heap.size, 0, none⟩) 1 1]).run Tryd.prog (w.alloc (.cells #[.int .u64 (x.toNat : Int)] 47)) = .ok v' w' ∧ w'.ownsRow base 47 1 v' (n + 1) ((xs ++ [x]).map wv) ∧ (w.alloc (.cells #[.int .u64 (x.toNat : Int)] 47)).grownBy w' v.ownBlock := by
  have hs : Seg (w.alloc (.cells #[.int .u64 (x.toNat : Int)] 47)) 47 (some ⟨w.heap.size, 0, none⟩) 1 1 ([x].map wv) :=
    ⟨rfl, .inr ⟨w.heap.size, 0, #[.int .u64 (x.toNat : Int)], rfl, heap_alloc_new w _, by simp, Nat.le_refl _, fun i hi => by
      obtain rfl : i = 0 := by omega
      rfl⟩⟩
  exact append_words (w.alloc (.cells #[.int .u64 (x.toNat : Int)] 47)) base v n xs (hown.alloc _) ⟨w.heap.size, 0, none⟩ 1 1 [x] hs (by simp; omega) (by omega)
theorem slantB_val (q c d : Nat) (hq : q < 4) (hc : c < 4) (hd : d ≤ 12) : IntKind.i64.wrap ((d : Int) + (IntKind.i64.wrap ((q : Int) + (c : Int))).tmod 4) = ((d + (q + c) % 4 : Nat) : Int) := by
  have h1 : IntKind.i64.wrap ((q : Int) + (c : Int)) = ((q + c : Nat) : Int) := by rw [IntKind.wrap_i64]; omega
  have h2 : ((q + c : Nat) : Int).tmod 4 = (((q + c) % 4 : Nat) : Int) := by rw [Int.tmod_eq_emod_of_nonneg (by omega)]; omega
  have h3 : (q + c) % 4 < 4 := by omega
  rw [h1, h2]
  generalize (q + c) % 4 = m at h3 ⊢
  rw [IntKind.wrap_i64]
  omega
theorem xor_ofNat (u : BitVec 32) (n : Nat) (h : n < 4294967296) : bits .xor .u64 (u.toNat : Int) (n : Int) = ((u ^^^ BitVec.ofNat 32 n).toNat : Int) := by
  have e : (n : Int) = ((BitVec.ofNat 32 n).toNat : Int) := by rw [BitVec.toNat_ofNat, Nat.mod_eq_of_lt h]
  rw [e, xor_val64]
theorem rows_cell {W : World} {gr : Nat} (h : W.heap[gr]? = some (.cells rowsV 9 (0, 0))) (i : Nat) (hi : i < 10) : W.cell? ⟨gr, i, none⟩ = some (.string (rowS i)) := by
  rw [cell_of_row W gr i _ _ (0, 0) h]
  simp [rowsV, hi]
theorem bs_word {w W w' : World} {hx : Addr} {hc : Nat} {hl : List (BitVec 32)} {gm cm : Nat} {ml : List (BitVec 32)} {gv cv : Nat} {vl : List (BitVec 32)} (h : BS w hx hc hl gm cm ml gv cv vl W) (hw : But gv W w') (i : Nat) (hi : i < 16) : w'.cell? ⟨gm, i, none⟩ = some (.int .u64 ((at32 ml i).toNat : Int)) := by
  have := (h.ms.word i hi).1
  rw [Nat.zero_add] at this
  exact World.grownBy.cell hw this (fun e => h.mv (by cases e; rfl))
theorem letter (i k : Nat) (hi : i < 10) (hk : k < 16) : ∃ r s, sig i k = s ∧ s < 16 ∧ 65 + s = r ∧ (rowS i)[k]? = some (UInt8.ofNat r) ∧ ((UInt8.ofNat r).toNat : Int) = (r : Int) ∧ IntKind.u8.wrap ((r : Int) - 65) = (s : Int) := by
  have h := sig_lt i k hi hk
  refine ⟨65 + sig i k, sig i k, rfl, h, rfl, rowS_at i k hi hk, ?_, ?_⟩
  · rw [UInt8.toNat_ofNat']; omega
  · rw [IntKind.wrap_u8]; omega

set_option maxHeartbeats 4000000 in
set_option maxRecDepth 100000 in
theorem refPart_any (hx : Addr) (hc : Nat) (hl : List (BitVec 32)) (bb boff bc : Nat) (b : List UInt8) (t : Nat) (last : Bool) (w : World) (hH : Seg w 47 (some hx) 8 hc (hl.map wv)) (hB : Byt w (some ⟨bb, boff, none⟩) 64 b) (hbc : 64 ≤ bc) (ht : t < 1000000) :
    Calls Tryd.prog 24 #[.slice (some hx) 8 hc, .slice (some ⟨bb, boff, none⟩) 64 bc, .int .i64 (t : Int), .bool last] w fun e w' => ∃ v, e = .returned v ∧ Below w.heap.size w w' ∧ w'.ownsRow w.heap.size 47 1 v 8 ((bpart hl b t last).map wv) := by
  have hll : hl.length = 8 := by have := hH.1; simpa using this
  have HH : Hid (Seg w 47 (some hx) 8 hc (hl.map wv)) := hH
  have HB : Hid (Byt w (some ⟨bb, boff, none⟩) 64 b) := hB
  have hxlt : hx.block < w.heap.size := hH.lt hx.block rfl
  have hblt := hB.lt (by omega)
  clear hH hB
  go_enter Tryd.func24, Tryd.ntmps24
  go_wp2
  go_loopw [9, 10] (fun v i wr => ∃ k : Nat, k ≤ 16 ∧ i = .int .i64 ((4 * k : Nat) : Int) ∧ Hid (wr.ownsRow w.heap.size 47 1 v k ((wordsTo b k).map wv)) ∧ Hid (Below w.heap.size w wr)) (fun _ i _ => 64 - (intOf i).toNat)
  case atStart => exact ⟨0, by omega, rfl, World.ownsRow_made w #[] 0 (Nat.le_refl _) (Nat.zero_le _) rfl, (Below.refl _ _).alloc (Nat.le_refl _) _⟩
  case round =>
    obtain ⟨k, hk, rfl, hO, hW⟩ := hrel
    obtain ⟨p, hp⟩ : ∃ p, 4 * k = p := ⟨_, rfl⟩
    rw [hp]
    by_cases hlt : k < 16
    · have i1 : (p : Int) < 64 := by omega
      have HWd : Hid ((getV b false p 4 : Int) = ((wordAt b k).toNat : Int)) := by show _ = _; rw [wordAt_val, hp]
      obtain ⟨v2, w2, hap, own2, hg2⟩ := append_word wr w.heap.size _ k _ hO.out (wordAt b k) hW.out.size (by omega)
      have HA2 : Hid (_) := hap
      have HO2 : Hid (w2.ownsRow w.heap.size 47 1 v2 (k + 1) ((wordsTo b (k + 1)).map wv)) := by rw [wordsTo_succ]; exact own2
      have HW2 : Hid (Below w.heap.size w w2) := hW.out.grown hg2 hW.out.size (fun j hj => (hO.out.lt j hj).1)
      have HBr : Hid (Byt wr (some ⟨bb, boff, none⟩) 64 b) := HB.out.below hblt hW.out
      clear hap own2 hg2 hO hW
      go_wp2_with fail
      refine (refGet_len bb boff 64 bc p 4 false b wr (by unfold maxLen; omega) hbc HBr.out (by omega) (by omega) (by omega)).mono ?_
      rintro e w' ⟨rfl, rfl⟩
      rw [HWd.out]
      go_wp2_with (at_builtin; refine wpList_append_run rfl (.tmp 32) (.tmp 34) 45 rfl _ _ _ _ rfl rfl HA2.out ?_)
      exact ⟨⟨k + 1, by omega, by go_num, HO2, HW2⟩, by simp [intOf]; omega⟩
    · have i1 : ¬ (p : Int) < 64 := by omega
      have ek : k = 16 := by omega
      have hO16 := hO.out
      rw [ek] at hO16
      obtain ⟨gm, cm, rfl, hbm2, hms⟩ := own_slice hO16 (by omega)
      obtain ⟨ml, hml⟩ : ∃ ml, wordsTo b 16 = ml := ⟨_, rfl⟩
      rw [hml] at hms
      have HML : Hid (wordsTo b 16 = ml) := hml
      have hmlt : gm < wr.heap.size := hms.lt gm rfl
      -- v := append(append([]uint64{}, h...), iv()...)
      have hal : Below wr.heap.size wr (wr.alloc (.cells #[] 47)) := (Below.refl _ _).alloc (Nat.le_refl _) _
      have hHr : Seg wr 47 (some hx) 8 hc (hl.map wv) := HH.out.kept fun j hj => hW.out.block j (HH.out.lt j hj)
      obtain ⟨v2, w2, hap2, own2, hg2⟩ := append_words (wr.alloc (.cells #[] 47)) wr.heap.size (.slice (some ⟨wr.heap.size, 0, none⟩) 0 0) 0 [] (World.ownsRow_made wr #[] 0 (Nat.le_refl _) (Nat.zero_le _) rfl) hx 8 hc hl (seg_later hHr hal) (by simp) (by omega)
      have bel2 : Below wr.heap.size wr w2 := hal.grown hg2 (by simp) (fun k hk => by simp [Value.ownBlock] at hk; omega)
      rw [List.nil_append] at own2
      have HA2 : Hid ((Builtin.append_ #[45, 45] 45 #[.slice (some ⟨wr.heap.size, 0, none⟩) 0 0, .slice (some hx) 8 hc]).run Tryd.prog (wr.alloc (.cells #[] 47)) = .ok v2 w2) := hap2
      have HO2 : Hid (w2.ownsRow wr.heap.size 47 1 v2 (0 + 8) (hl.map wv)) := own2
      have HW2 : Hid (Below wr.heap.size wr w2) := bel2
      have HMs : Hid (Seg wr 47 (some ⟨gm, 0, none⟩) 16 cm (ml.map wv)) := hms
      have HHr : Hid (Seg wr 47 (some hx) 8 hc (hl.map wv)) := hHr
      clear hap2 own2 hg2 bel2 hO hO16 hal hms hHr hml ek
      go_wp2_with (at_builtin; refine wpList_append_run rfl (.tmp 36) (.tmp 37) 45 rfl _ _ _ _ rfl rfl HA2.out ?_)
      refine (refIv_any _).mono ?_
      rintro e w3 ⟨rfl, hb3, own3⟩
      have hs3 : Seg w3 47 (some ⟨w2.heap.size, 0, none⟩) 8 8 (ivB.map wv) := by
        obtain ⟨g3, c3, e3, _, h3⟩ := own_slice own3 (by omega)
        cases e3
        exact h3
      have own2' := HO2.out.kept (grown_below hb3) (by
        rcases h : Value.ownBlock v2 with _ | j
        · exact .inl rfl
        · exact .inr (by simp))
      have bel3 : Below wr.heap.size wr w3 := HW2.out.trans (hb3.mono HW2.out.size)
      obtain ⟨v4, w4, hap4, own4, hg4⟩ := append_words w3 wr.heap.size v2 _ hl own2' ⟨w2.heap.size, 0, none⟩ 8 8 ivB hs3 bel3.size (by omega)
      have bel4 : Below wr.heap.size wr w4 := bel3.grown hg4 bel3.size (fun k hk => (own2'.lt k hk).1)
      obtain ⟨gv, cv, rfl, hbv, hvs⟩ := own_slice own4 (by omega)
      have HA4 : Hid ((Builtin.append_ #[45, 45] 45 #[v2, .slice (some ⟨w2.heap.size, 0, none⟩) 8 8]).run Tryd.prog w3 = .ok (.slice (some ⟨gv, 0, none⟩) (0 + 8 + 8) cv) w4) := hap4
      have HS4 : Hid (BS w hx hc hl gm cm ml gv cv (hl ++ ivB) w4) := ⟨seg_later HHr.out bel4, seg_later HMs.out bel4, hvs, by have := hW.out.size; omega, by omega, by have := hW.out.size; omega, hW.out.trans (bel4.mono hW.out.size)⟩
      clear hap4 own4 hg4 bel4 bel3 own2' hs3 own3 hb3 HO2 HW2 HA2 HMs HHr hvs hW
      go_wp2_with (at_builtin; refine wpList_append_run rfl (.tmp 38) (.tmp 39) 45 rfl _ _ _ _ rfl rfl HA4.out ?_)
      clear HA4
      obtain ⟨l0, hl0⟩ : ∃ l0, hl ++ ivB = l0 := ⟨_, rfl⟩
      have hlen0 : l0.length = 16 := by rw [← hl0, List.length_append, hll]; rfl
      rw [hl0] at HS4
      obtain ⟨u12, hu12⟩ : ∃ u, at32 l0 12 = u := ⟨_, rfl⟩
      obtain ⟨s12, hs12⟩ : ∃ s, u12 ^^^ BitVec.ofNat 32 t = s := ⟨_, rfl⟩
      have HX12 : Hid (bits .xor .u64 (u12.toNat : Int) (t : Int) = (s12.toNat : Int)) := by show _ = _; rw [xor_ofNat _ _ (by omega), hs12]
      obtain ⟨c12, f12⟩ := HS4.out.vs.drew.word 12 (by omega)
      rw [hu12] at c12
      obtain ⟨sg5, gr5⟩ := seg_step HS4.out.vs 12 (by omega) s12
      obtain ⟨W4, hW4⟩ : ∃ W, w4.drew = W := ⟨_, rfl⟩
      rw [hW4] at c12 f12 sg5 gr5
      obtain ⟨w5, hw5⟩ : ∃ w', W4.setCell ⟨gv, 0 + 12, none⟩ (wv s12) = w' := ⟨_, rfl⟩
      rw [hw5] at sg5 gr5
      have Hw5 : Hid (W4.setCell ⟨gv, 12, none⟩ (.int .u64 (s12.toNat : Int)) = w5) := hw5
      have HS5 : Hid (BS w hx hc hl gm cm ml gv cv (l0.set 12 s12) w5) := HS4.out.next sg5 gr5
      have HW4 : Hid (w4.drew = W4) := hW4
      have htm : (t : Int) % 4294967296 = (t : Int) := by omega
      clear sg5 gr5 hW4 hw5 HS4
      refine wp_region_sched' (G := Stays) (by kernel_rfl) Stays.refl Stays.trans (by kernel_rfl) [(0, true), (1, true), (2, true), (3, true), (4, true), (5, true), (6, false), (7, true), (8, true), (9, false)] rfl (by kernel_rfl) ?_
      intro KK8 hKK8
      rw [HW4.out]
      have htw : IntKind.u64.wrap (t : Int) = (t : Int) := by rw [IntKind.wrap_u64]; omega
      iterate 6 (refine sched_take rfl (by rfl) (v := ?_) ?_ ?_; rotate_left; (rintro w' rfl; go_simp; with_reducible rfl); go_simp)
      refine sched_call (f := 29) (args := #[.int .u64 (t : Int)]) rfl (by rfl) (by go_simp) ?_
      refine (refCutB_any _ _ (by omega) (by omega)).mono ?_
      rintro e w' ⟨rfl, rfl⟩
      refine ⟨_, rfl, rfl, ?_⟩
      rw [htm]
      go_simp
      iterate 2 (refine sched_take rfl (by rfl) (v := ?_) ?_ ?_; rotate_left; (rintro w' rfl; go_simp; with_reducible rfl); go_simp)
      refine sched_store rfl (by rfl) (w' := w5) (by rw [← Hw5.out, ← HX12.out]; go_simp) (by kernel_rfl) ?_
      go_simp
      refine sched_done hKK8 ?_
      clear hKK8 HW4 Hw5 c12 f12 HX12
      obtain ⟨l1, hl1⟩ : ∃ l1, l0.set 12 s12 = l1 := ⟨_, rfl⟩
      rw [hl1] at HS5
      obtain ⟨u13, hu13⟩ : ∃ u, at32 l1 13 = u := ⟨_, rfl⟩
      obtain ⟨q, hq⟩ : ∃ q, t / 4294967296 = q := ⟨_, rfl⟩
      obtain ⟨s13, hs13⟩ : ∃ s, u13 ^^^ BitVec.ofNat 32 q = s := ⟨_, rfl⟩
      have hX13 : bits .xor .u64 (u13.toNat : Int) (q : Int) = (s13.toNat : Int) := by rw [xor_ofNat _ _ (by omega), hs13]
      have hqi : (t : Int) / 4294967296 = (q : Int) := by omega
      have hqt : (t : Int).tdiv 4294967296 = (q : Int) := by rw [Int.tdiv_eq_ediv_of_nonneg (by omega)]; omega
      obtain ⟨c13, f13⟩ := HS5.out.vs.word 13 (by omega)
      rw [hu13] at c13
      have sg6 : Seg (w5.setCell ⟨gv, 0 + 13, none⟩ (wv s13)) 47 (some ⟨gv, 0, none⟩) 16 cv ((l1.set 13 s13).map wv) := by rw [List.map_set]; exact HS5.out.vs.set 13 (by omega) _
      have gr6 : w5.grownBy (w5.setCell ⟨gv, 0 + 13, none⟩ (wv s13)) (some gv) := ⟨rfl, rfl, rfl, by simp, fun j hj hne => heap_setCell_other w5 ⟨gv, 0 + 13, none⟩ j _ (fun e => hne (by rw [e]))⟩
      have HS6 : Hid (BS w hx hc hl gm cm ml gv cv (l1.set 13 s13) (w5.setCell ⟨gv, 0 + 13, none⟩ (wv s13))) := HS5.out.next sg6 gr6
      obtain ⟨w6, hw6⟩ : ∃ w', w5.setCell ⟨gv, 13, none⟩ (.int .u64 (s13.toNat : Int)) = w' := ⟨_, rfl⟩
      have HS6' : Hid (BS w hx hc hl gm cm ml gv cv (l1.set 13 s13) w6) := by rw [← hw6]; exact HS6
      obtain ⟨l2, hl2⟩ : ∃ l2, l1.set 13 s13 = l2 := ⟨_, rfl⟩
      rw [hl2] at HS6'
      obtain ⟨u14, hu14⟩ : ∃ u, at32 l2 14 = u := ⟨_, rfl⟩
      obtain ⟨s14, hs14⟩ : ∃ s, u14 ^^^ 0xffffffff#32 = s := ⟨_, rfl⟩
      have hX14 : bits .xor .u64 (u14.toNat : Int) 4294967295 = (s14.toNat : Int) := by
        have := xor_val64 u14 0xffffffff#32
        rw [hs14] at this
        exact this
      obtain ⟨c14, f14⟩ := HS6'.out.vs.word 14 (by omega)
      rw [hu14] at c14
      have sg7 : Seg (w6.setCell ⟨gv, 0 + 14, none⟩ (wv s14)) 47 (some ⟨gv, 0, none⟩) 16 cv ((l2.set 14 s14).map wv) := by rw [List.map_set]; exact HS6'.out.vs.set 14 (by omega) _
      have gr7 : w6.grownBy (w6.setCell ⟨gv, 0 + 14, none⟩ (wv s14)) (some gv) := ⟨rfl, rfl, rfl, by simp, fun j hj hne => heap_setCell_other w6 ⟨gv, 0 + 14, none⟩ j _ (fun e => hne (by rw [e]))⟩
      have HS7 : Hid (BS w hx hc hl gm cm ml gv cv (l2.set 14 s14) (w6.setCell ⟨gv, 14, none⟩ (.int .u64 (s14.toNat : Int)))) := HS6'.out.next sg7 gr7
      have HF : Hid (bfirst hl t last = if last then l2.set 14 s14 else l2) := by
        show _ = _
        unfold bfirst
        simp only [hl0, hu12, hs12, hl1, hu13, hq, hs13, hl2, hu14, hs14]
      clear sg6 gr6 sg7 gr7 HS6 HS5 hl1 hl2 hu13 hu14 hs13 hs14 hs12 hu12 hl0 hq
      cases last with
      | false =>
        have HF2 : Hid (bfirst hl t false = l2) := by
          show _ = _
          have := HF.out
          simpa using this
        clear HF HS7
        have HF := HF2
        clear HF2
        have HSz := HS6'
        clear HS6'
        go_wp2_with fail
        refine (refRows_any _).mono ?_
        rintro e w8 ⟨rfl, hb8, hr8⟩
        have HS8 : Hid (BS w hx hc hl gm cm ml gv cv l2 w8) := HSz.out.later hb8
        obtain ⟨gr, hgr⟩ : ∃ gr, w6.heap.size = gr := ⟨_, rfl⟩
        rw [hgr] at hr8 ⊢
        have hgrv : gr ≠ gv := by have := HSz.out.vs.lt gv rfl; omega
        have HR8 : Hid (w8.heap[gr]? = some (.cells rowsV 9 (0, 0))) := hr8
        obtain ⟨vz, hvz⟩ : ∃ vz, l2 = vz := ⟨_, rfl⟩
        rw [hvz] at HS8 HF
        clear hb8 hr8 hgr hvz
        have hvl : ∀ i, (bturned ml i vz).length = 16 := fun i => by rw [bturned_length, ← HF.out, bfirst_length _ _ _ hll]
        go_wp2
        go_loopw [15] (fun iv wr => ∃ i : Nat, i ≤ 10 ∧ iv = .int .i64 i ∧ Hid (BS w hx hc hl gm cm ml gv cv (bturned ml i vz) wr) ∧ Hid (wr.heap[gr]? = some (.cells rowsV 9 (0, 0)))) (fun iv _ => 10 - (intOf iv).toNat)
        case atStart => exact ⟨0, by omega, rfl, HS8, HR8⟩
        case round =>
          clear HS8 HR8
          obtain ⟨i, hi, rfl, hS, hR⟩ := hrel
          by_cases hi10 : i < 10
          · have hii : (i : Int) < 10 := by omega
            have hrc := rows_cell hR.out i hi10
            go_wp2
            clear hrc
            go_loopw [17] (fun kv wr => ∃ k : Nat, k ≤ 4 ∧ kv = .int .i64 k ∧ Hid (BS w hx hc hl gm cm ml gv cv (bcols i ml k (bturned ml i vz)) wr) ∧ Hid (wr.heap[gr]? = some (.cells rowsV 9 (0, 0)))) (fun kv _ => 4 - (intOf kv).toNat)
            case atStart => exact ⟨0, by omega, rfl, hS, hR⟩
            case round =>
              clear hS hR
              obtain ⟨k, hk, rfl, hS, hR⟩ := hrel
              by_cases hk4 : k < 4
              · obtain ⟨p1, hp1⟩ : ∃ p, 4 + k = p := ⟨_, rfl⟩
                obtain ⟨p2, hp2⟩ : ∃ p, 8 + k = p := ⟨_, rfl⟩
                obtain ⟨p3, hp3⟩ : ∃ p, 12 + k = p := ⟨_, rfl⟩
                obtain ⟨q1, hq1⟩ : ∃ q, 2 * k = q := ⟨_, rfl⟩
                obtain ⟨q2, hq2⟩ : ∃ q, 2 * k + 1 = q := ⟨_, rfl⟩
                have e1 : IntKind.i64.wrap ((4 : Int) + (k : Int)) = (p1 : Int) := by rw [IntKind.wrap_i64]; omega
                have e2 : IntKind.i64.wrap ((8 : Int) + (k : Int)) = (p2 : Int) := by rw [IntKind.wrap_i64]; omega
                have e3 : IntKind.i64.wrap ((12 : Int) + (k : Int)) = (p3 : Int) := by rw [IntKind.wrap_i64]; omega
                have e4 : IntKind.i64.wrap ((2 : Int) * (k : Int)) = (q1 : Int) := by rw [IntKind.wrap_i64]; omega
                have e5 : IntKind.i64.wrap ((q1 : Int) + 1) = (q2 : Int) := by rw [IntKind.wrap_i64]; omega
                obtain ⟨r1, s1, hs1, hs1b, hr1, hc1, hn1, hw1⟩ := letter i q1 hi10 (by omega)
                obtain ⟨r2, s2, hs2, hs2b, hr2, hc2, hn2, hw2⟩ := letter i q2 hi10 (by omega)
                have hki : (k : Int) < 4 := by omega
                have hs1i : (s1 : Int) < 16 := by omega
                have hs2i : (s2 : Int) < 16 := by omega
                have hdr : Below wr.heap.size wr wr.drew := (Below.refl _ _).drew
                have HSd : Hid (BS w hx hc hl gm cm ml gv cv (bcols i ml k (bturned ml i vz)) wr.drew) := hS.out.later hdr
                have HRd : Hid (wr.drew.heap[gr]? = some (.cells rowsV 9 (0, 0))) := hR.out
                obtain ⟨x1, hx1⟩ : ∃ x, at32 ml s1 = x := ⟨_, rfl⟩
                obtain ⟨x2, hx2⟩ : ∃ x, at32 ml s2 = x := ⟨_, rfl⟩
                have HE : Hid (bcols i ml (k + 1) (bturned ml i vz) = bmix (bcols i ml k (bturned ml i vz)) k p1 p2 p3 x1 x2) := by
                  show _ = _
                  rw [bcols, hp1, hp2, hp3, hq2, hq1, hs1, hs2, hx1, hx2]
                clear hS hR hdr
                go_wp2
                refine wp_region_sched' (G := But gv) (by kernel_rfl) (But.refl gv) (But.trans gv) (by kernel_rfl) [(0, true), (1, true), (2, true), (3, true), (4, true), (5, true), (6, true), (7, true), (8, true), (9, true), (10, true), (11, true), (12, true), (13, true), (14, true), (15, true), (16, true), (17, true), (18, true), (19, true), (20, true), (21, true), (22, true), (23, true), (24, true), (25, false)] rfl (by kernel_rfl) ?_
                intro KK hKK
                generalize wr.drew = W at HSd HRd ⊢
                have hld1 : ∀ w', But gv W w' → w'.cell? ⟨gm, s1, none⟩ = some (.int .u64 (x1.toNat : Int)) := fun w' hw' => by rw [← hx1]; exact bs_word HSd.out hw' s1 hs1b
                have hld2 : ∀ w', But gv W w' → w'.cell? ⟨gm, s2, none⟩ = some (.int .u64 (x2.toNat : Int)) := fun w' hw' => by rw [← hx2]; exact bs_word HSd.out hw' s2 hs2b
                have HLD : Hid ((∀ w', But gv W w' → w'.cell? ⟨gm, s1, none⟩ = some (.int .u64 (x1.toNat : Int))) ∧ ∀ w', But gv W w' → w'.cell? ⟨gm, s2, none⟩ = some (.int .u64 (x2.toNat : Int))) := ⟨hld1, hld2⟩
                have HIX : Hid ((rowS i)[q1]? = some (UInt8.ofNat r1) ∧ (rowS i)[q2]? = some (UInt8.ofNat r2) ∧ ((UInt8.ofNat r1).toNat : Int) = (r1 : Int) ∧ ((UInt8.ofNat r2).toNat : Int) = (r2 : Int)) := ⟨hc1, hc2, hn1, hn2⟩
                have HB16 : Hid (p1 < 16 ∧ p2 < 16 ∧ p3 < 16) := ⟨by omega, by omega, by omega⟩
                clear hld1 hld2 hc1 hc2 hn1 hn2 hs1 hs2 hr1 hr2 hp1 hp2 hp3 hq1 hq2 hx1 hx2
                iterate 12 (refine sched_take rfl (by rfl) (v := ?_) ?_ ?_; rotate_left; (intro w' hw'; clear hw'; go_simp; with_reducible rfl); go_simp)
                refine sched_take rfl (by rfl) (v := .int .u8 (r1 : Int)) (fun w' hw' => exec_index' 9 _ _ rfl (rowS i) q1 _ _ rfl rfl Tryd.underlying9 HIX.out.1 HIX.out.2.2.1) ?_
                go_simp
                iterate 8 (refine sched_take rfl (by rfl) (v := ?_) ?_ ?_; rotate_left; (intro w' hw'; have z1 := HLD.out.1 w' hw'; clear hw'; go_simp; with_reducible rfl); go_simp)
                refine sched_take rfl (by rfl) (v := .int .u8 (r2 : Int)) (fun w' hw' => exec_index' 9 _ _ rfl (rowS i) q2 _ _ rfl rfl Tryd.underlying9 HIX.out.2.1 HIX.out.2.2.2) ?_
                go_simp
                iterate 3 (refine sched_take rfl (by rfl) (v := ?_) ?_ ?_; rotate_left; (intro w' hw'; have z1 := HLD.out.2 w' hw'; clear hw'; go_simp; with_reducible rfl); go_simp)
                refine sched_call (f := 31) (args := #[.slice (some ⟨gv, 0, none⟩) 16 cv, .int .i64 k, .int .i64 p1, .int .i64 p2, .int .i64 p3, .int .u64 (x1.toNat : Int), .int .u64 (x2.toNat : Int)]) rfl (by rfl) (by go_simp) ?_
                refine (refMix_any gv 0 cv 16 _ k p1 p2 p3 x1 x2 _ HSd.out.vs (by omega) HB16.out.1 HB16.out.2.1 HB16.out.2.2).mono ?_
                rintro e w9 ⟨⟨v9, rfl⟩, hs9, hg9⟩
                refine ⟨_, rfl, hg9, ?_⟩
                have HS9 : Hid (BS w hx hc hl gm cm ml gv cv (bcols i ml (k + 1) (bturned ml i vz)) w9) := by rw [HE.out]; exact HSd.out.next hs9 hg9
                have HR9 : Hid (w9.heap[gr]? = some (.cells rowsV 9 (0, 0))) := by
                  show _ = _
                  rw [hg9.block gr (Array.getElem?_eq_some_iff.1 HRd.out).1 (fun e => hgrv (Option.some.inj e))]; exact HRd.out
                clear hs9 hg9 HSd HRd HLD HIX HE HB16
                go_simp
                refine sched_done hKK ?_
                go_wp2
                exact ⟨⟨k + 1, by omega, by go_num, HS9, HR9⟩, by simp [intOf]; omega⟩
              · have hki : ¬ (k : Int) < 4 := by omega
                have ek : k = 4 := by omega
                have HS4 : Hid (BS w hx hc hl gm cm ml gv cv (bcols i ml 4 (bturned ml i vz)) wr) := by have := hS.out; rw [ek] at this; exact this
                clear hS ek
                go_wp2
                obtain ⟨vc, hvc⟩ : ∃ x, bcols i ml 4 (bturned ml i vz) = x := ⟨_, rfl⟩
                rw [hvc] at HS4
                have HVC : Hid (bcols i ml 4 (bturned ml i vz) = vc) := hvc
                clear hvc
                go_loopw [18] (fun kv wr => ∃ k : Nat, k ≤ 4 ∧ kv = .int .i64 k ∧ Hid (BS w hx hc hl gm cm ml gv cv (bslants i ml k vc) wr) ∧ Hid (wr.heap[gr]? = some (.cells rowsV 9 (0, 0)))) (fun kv _ => 4 - (intOf kv).toNat)
                case atStart => exact ⟨0, by omega, rfl, HS4, hR⟩
                case round =>
                  clear HS4 hR
                  obtain ⟨k, hk, rfl, hS, hR⟩ := hrel
                  by_cases hk4 : k < 4
                  · obtain ⟨p1, hp1⟩ : ∃ p, 4 + (k + 1) % 4 = p := ⟨_, rfl⟩
                    obtain ⟨p2, hp2⟩ : ∃ p, 8 + (k + 2) % 4 = p := ⟨_, rfl⟩
                    obtain ⟨p3, hp3⟩ : ∃ p, 12 + (k + 3) % 4 = p := ⟨_, rfl⟩
                    obtain ⟨q0, hq0⟩ : ∃ q, 2 * k = q := ⟨_, rfl⟩
                    obtain ⟨q1, hq1⟩ : ∃ q, 8 + q0 = q := ⟨_, rfl⟩
                    obtain ⟨q2, hq2⟩ : ∃ q, 9 + q0 = q := ⟨_, rfl⟩
                    have e1 : IntKind.i64.wrap ((4 : Int) + (IntKind.i64.wrap ((k : Int) + 1)).tmod 4) = (p1 : Int) := by rw [← hp1]; exact slantB_val k 1 4 hk4 (by omega) (by omega)
                    have e2 : IntKind.i64.wrap ((8 : Int) + (IntKind.i64.wrap ((k : Int) + 2)).tmod 4) = (p2 : Int) := by rw [← hp2]; exact slantB_val k 2 8 hk4 (by omega) (by omega)
                    have e3 : IntKind.i64.wrap ((12 : Int) + (IntKind.i64.wrap ((k : Int) + 3)).tmod 4) = (p3 : Int) := by rw [← hp3]; exact slantB_val k 3 12 hk4 (by omega) (by omega)
                    have e4 : IntKind.i64.wrap ((2 : Int) * (k : Int)) = (q0 : Int) := by rw [IntKind.wrap_i64]; omega
                    have e5 : IntKind.i64.wrap ((8 : Int) + (q0 : Int)) = (q1 : Int) := by rw [IntKind.wrap_i64]; omega
                    have e6 : IntKind.i64.wrap ((9 : Int) + (q0 : Int)) = (q2 : Int) := by rw [IntKind.wrap_i64]; omega
                    obtain ⟨r1, s1, hs1, hs1b, hr1, hc1, hn1, hw1⟩ := letter i q1 hi10 (by omega)
                    obtain ⟨r2, s2, hs2, hs2b, hr2, hc2, hn2, hw2⟩ := letter i q2 hi10 (by omega)
                    have hki : (k : Int) < 4 := by omega
                    have hs1i : (s1 : Int) < 16 := by omega
                    have hs2i : (s2 : Int) < 16 := by omega
                    have hdr : Below wr.heap.size wr wr.drew := (Below.refl _ _).drew
                    have HSd : Hid (BS w hx hc hl gm cm ml gv cv (bslants i ml k vc) wr.drew) := hS.out.later hdr
                    have HRd : Hid (wr.drew.heap[gr]? = some (.cells rowsV 9 (0, 0))) := hR.out
                    obtain ⟨x1, hx1⟩ : ∃ x, at32 ml s1 = x := ⟨_, rfl⟩
                    obtain ⟨x2, hx2⟩ : ∃ x, at32 ml s2 = x := ⟨_, rfl⟩
                    have HE : Hid (bslants i ml (k + 1) vc = bmix (bslants i ml k vc) k p1 p2 p3 x1 x2) := by
                      show _ = _
                      rw [bslants, hp1, hp2, hp3, hq0, hq2, hq1, hs1, hs2, hx1, hx2]
                    clear hS hR hdr
                    go_wp2
                    refine wp_region_sched' (G := But gv) (by kernel_rfl) (But.refl gv) (But.trans gv) (by kernel_rfl) [(0, true), (1, true), (2, true), (3, true), (4, true), (5, true), (6, true), (7, true), (8, true), (9, true), (10, true), (11, true), (12, true), (13, true), (14, true), (15, true), (16, true), (17, true), (18, true), (19, true), (20, true), (21, true), (22, true), (23, true), (24, true), (25, true), (26, true), (27, true), (28, true), (29, true), (30, true), (31, true), (32, false)] rfl (by kernel_rfl) ?_
                    intro KK hKK
                    generalize wr.drew = W at HSd HRd ⊢
                    have hld1 : ∀ w', But gv W w' → w'.cell? ⟨gm, s1, none⟩ = some (.int .u64 (x1.toNat : Int)) := fun w' hw' => by rw [← hx1]; exact bs_word HSd.out hw' s1 hs1b
                    have hld2 : ∀ w', But gv W w' → w'.cell? ⟨gm, s2, none⟩ = some (.int .u64 (x2.toNat : Int)) := fun w' hw' => by rw [← hx2]; exact bs_word HSd.out hw' s2 hs2b
                    have HLD : Hid ((∀ w', But gv W w' → w'.cell? ⟨gm, s1, none⟩ = some (.int .u64 (x1.toNat : Int))) ∧ ∀ w', But gv W w' → w'.cell? ⟨gm, s2, none⟩ = some (.int .u64 (x2.toNat : Int))) := ⟨hld1, hld2⟩
                    have HIX : Hid ((rowS i)[q1]? = some (UInt8.ofNat r1) ∧ (rowS i)[q2]? = some (UInt8.ofNat r2) ∧ ((UInt8.ofNat r1).toNat : Int) = (r1 : Int) ∧ ((UInt8.ofNat r2).toNat : Int) = (r2 : Int)) := ⟨hc1, hc2, hn1, hn2⟩
                    have HB16 : Hid (p1 < 16 ∧ p2 < 16 ∧ p3 < 16) := ⟨by omega, by omega, by omega⟩
                    clear hld1 hld2 hc1 hc2 hn1 hn2 hs1 hs2 hr1 hr2 hp1 hp2 hp3 hq0 hq1 hq2 hx1 hx2
                    iterate 19 (refine sched_take rfl (by rfl) (v := ?_) ?_ ?_; rotate_left; (intro w' hw'; clear hw'; go_simp; with_reducible rfl); go_simp)
                    refine sched_take rfl (by rfl) (v := .int .u8 (r1 : Int)) (fun w' hw' => exec_index' 9 _ _ rfl (rowS i) q1 _ _ rfl rfl Tryd.underlying9 HIX.out.1 HIX.out.2.2.1) ?_
                    go_simp
                    iterate 8 (refine sched_take rfl (by rfl) (v := ?_) ?_ ?_; rotate_left; (intro w' hw'; have z1 := HLD.out.1 w' hw'; clear hw'; go_simp; with_reducible rfl); go_simp)
                    refine sched_take rfl (by rfl) (v := .int .u8 (r2 : Int)) (fun w' hw' => exec_index' 9 _ _ rfl (rowS i) q2 _ _ rfl rfl Tryd.underlying9 HIX.out.2.1 HIX.out.2.2.2) ?_
                    go_simp
                    iterate 3 (refine sched_take rfl (by rfl) (v := ?_) ?_ ?_; rotate_left; (intro w' hw'; have z1 := HLD.out.2 w' hw'; clear hw'; go_simp; with_reducible rfl); go_simp)
                    refine sched_call (f := 31) (args := #[.slice (some ⟨gv, 0, none⟩) 16 cv, .int .i64 k, .int .i64 p1, .int .i64 p2, .int .i64 p3, .int .u64 (x1.toNat : Int), .int .u64 (x2.toNat : Int)]) rfl (by rfl) (by go_simp) ?_
                    refine (refMix_any gv 0 cv 16 _ k p1 p2 p3 x1 x2 _ HSd.out.vs (by omega) HB16.out.1 HB16.out.2.1 HB16.out.2.2).mono ?_
                    rintro e w9 ⟨⟨v9, rfl⟩, hs9, hg9⟩
                    refine ⟨_, rfl, hg9, ?_⟩
                    have HS9 : Hid (BS w hx hc hl gm cm ml gv cv (bslants i ml (k + 1) vc) w9) := by rw [HE.out]; exact HSd.out.next hs9 hg9
                    have HR9 : Hid (w9.heap[gr]? = some (.cells rowsV 9 (0, 0))) := by
                      show _ = _
                      rw [hg9.block gr (Array.getElem?_eq_some_iff.1 HRd.out).1 (fun e => hgrv (Option.some.inj e))]; exact HRd.out
                    clear hs9 hg9 HSd HRd HLD HIX HE HB16
                    go_simp
                    refine sched_done hKK ?_
                    go_wp2
                    exact ⟨⟨k + 1, by omega, by go_num, HS9, HR9⟩, by simp [intOf]; omega⟩
                  · have hki : ¬ (k : Int) < 4 := by omega
                    have ek : k = 4 := by omega
                    have HS9 : Hid (BS w hx hc hl gm cm ml gv cv (bturned ml (i + 1) vz) wr) := by have := hS.out; rw [ek, ← HVC.out] at this; exact this
                    clear hS ek HVC
                    go_wp2
                    exact ⟨⟨i + 1, by omega, by go_num, HS9, hR⟩, by simp [intOf]; omega⟩
          · have hii : ¬ (i : Int) < 10 := by omega
            have ei : i = 10 := by omega
            have HT : Hid (BS w hx hc hl gm cm ml gv cv (bturned ml 10 vz) wr) := by have := hS.out; rw [ei] at this; exact this
            clear hS hR ei
            go_wp2
            obtain ⟨vt, hvt⟩ : ∃ x, bturned ml 10 vz = x := ⟨_, rfl⟩
            rw [hvt] at HT
            have HVT : Hid (bturned ml 10 vz = vt) := hvt
            obtain ⟨hxb, hxo, rfl⟩ : ∃ b o, hx = ⟨b, o, none⟩ := by
              rcases HT.out.hs.2 with h0 | ⟨g, o, _, e0, _⟩
              · omega
              · exact ⟨g, o, Option.some.inj e0⟩
            obtain ⟨B0, hB0⟩ : ∃ B, wr.heap.size = B := ⟨_, rfl⟩
            have hb1 : hxb < B0 := by rw [← hB0]; exact HT.out.hs.lt hxb rfl
            have hb2 : gm < B0 := by rw [← hB0]; exact HT.out.ms.lt gm rfl
            have hb3 : gv < B0 := by rw [← hB0]; exact HT.out.vs.lt gv rfl
            have hb4 : w.heap.size ≤ B0 := by rw [← hB0]; exact HT.out.bel.size
            have HO0 : Hid ((wr.alloc (.cells #[] 47)).ownsRow B0 47 1 (.slice (some ⟨wr.heap.size, 0, none⟩) 0 0) 0 ((bouts hl vt 0).map wv)) := World.ownsRow_made wr #[] 0 (Nat.le_of_eq hB0.symm) (Nat.zero_le _) rfl
            have HT0 : Hid (BS w ⟨hxb, hxo, none⟩ hc hl gm cm ml gv cv vt (wr.alloc (.cells #[] 47))) := HT.out.later ((Below.refl _ _).alloc (Nat.le_refl _) _)
            have hsz0 : B0 ≤ (wr.alloc (.cells #[] 47)).heap.size := by simp; omega
            clear hvt HT hB0
            go_loopw [19, 20] (fun v iv wr => ∃ j : Nat, j ≤ 8 ∧ iv = .int .i64 j ∧ Hid (wr.ownsRow B0 47 1 v j ((bouts hl vt j).map wv)) ∧ Hid (BS w ⟨hxb, hxo, none⟩ hc hl gm cm ml gv cv vt wr) ∧ B0 ≤ wr.heap.size) (fun _ iv _ => 8 - (intOf iv).toNat)
            case atStart => exact ⟨0, by omega, rfl, HO0, HT0, hsz0⟩
            case round =>
              clear HO0 HT0
              obtain ⟨j, hj, rfl, hO, hS, hszB⟩ := hrel
              by_cases hj8 : j < 8
              · have hji : (j : Int) < 8 := by omega
                have hj16 : (j : Int) < 16 := by omega
                obtain ⟨pj, hpj⟩ : ∃ x, 8 + j = x := ⟨_, rfl⟩
                have hpj16 : (pj : Int) < 16 := by omega
                have ej1 : IntKind.i64.wrap ((8 : Int) + (j : Int)) = (pj : Int) := by rw [IntKind.wrap_i64]; omega
                obtain ⟨a0, ha0⟩ : ∃ x, at32 hl j = x := ⟨_, rfl⟩
                obtain ⟨a1, ha1⟩ : ∃ x, at32 vt j = x := ⟨_, rfl⟩
                obtain ⟨a2, ha2⟩ : ∃ x, at32 vt pj = x := ⟨_, rfl⟩
                obtain ⟨y1, hy1⟩ : ∃ x, a0 ^^^ a1 = x := ⟨_, rfl⟩
                obtain ⟨y2, hy2⟩ : ∃ x, y1 ^^^ a2 = x := ⟨_, rfl⟩
                have hX1 : bits .xor .u64 (a0.toNat : Int) (a1.toNat : Int) = (y1.toNat : Int) := by rw [xor_val64, hy1]
                have hX2 : bits .xor .u64 (y1.toNat : Int) (a2.toNat : Int) = (y2.toNat : Int) := by rw [xor_val64, hy2]
                have HOd : Hid (wr.drew.ownsRow B0 47 1 u19 j ((bouts hl vt j).map wv)) := hO.out
                have HSd : Hid (BS w ⟨hxb, hxo, none⟩ hc hl gm cm ml gv cv vt wr.drew) := hS.out.later (Below.refl _ _).drew
                have hszd : B0 ≤ wr.drew.heap.size := hszB
                have HE : Hid (bouts hl vt (j + 1) = bouts hl vt j ++ [y2]) := by
                  show _ = _
                  rw [bouts_succ, hpj, ha0, ha1, ha2, hy1, hy2]
                clear hO hS
                go_wp2
                refine wp_region_sched' (G := Rest u19) (by kernel_rfl) (Rest.refl _) (Rest.trans _) (by kernel_rfl) [(0, true), (1, true), (2, true), (3, true), (4, true), (5, true), (6, true), (7, true), (8, true), (9, true), (10, true), (11, true), (12, true), (13, true), (14, true), (15, true), (16, false), (17, false), (18, true)] rfl (by kernel_rfl) ?_
                intro KK hKK
                generalize wr.drew = W at HSd HOd hszd ⊢
                have HLD : Hid (∀ w', Rest u19 W w' → w'.cell? ⟨hxb, hxo + j, none⟩ = some (.int .u64 (a0.toNat : Int)) ∧ w'.cell? ⟨gv, j, none⟩ = some (.int .u64 (a1.toNat : Int)) ∧ w'.cell? ⟨gv, pj, none⟩ = some (.int .u64 (a2.toNat : Int))) := fun w' hw' => by
                  have hB := HSd.out.rest HOd.out hw' hb1 hb2 hb3 hb4
                  have k1 := (hB.hs.word j hj8).1
                  have k2 := (hB.vs.word j (by omega)).1
                  have k3 := (hB.vs.word pj (by omega)).1
                  rw [Nat.zero_add] at k2 k3
                  rw [ha0] at k1
                  rw [ha1] at k2
                  rw [ha2] at k3
                  exact ⟨k1, k2, k3⟩
                obtain ⟨v3, w3, hap3, own3, hg3⟩ := append_wordA W B0 u19 j _ HOd.out y2 hszd (by omega)
                rw [← HE.out] at own3
                have hR1 : Rest u19 W (W.alloc (.cells #[.int .u64 (y2.toNat : Int)] 47)) := Rest.below _ ((Below.refl _ _).alloc (Nat.le_refl _) _)
                have HR1 : Hid (Rest u19 W (W.alloc (.cells #[.int .u64 (y2.toNat : Int)] 47))) := hR1
                have HR2 : Hid (Rest u19 (W.alloc (.cells #[.int .u64 (y2.toNat : Int)] 47)) w3) := hg3
                have HS3 : Hid (BS w ⟨hxb, hxo, none⟩ hc hl gm cm ml gv cv vt w3) := HSd.out.rest HOd.out (Rest.trans _ _ _ _ hR1 hg3) hb1 hb2 hb3 hb4
                have HO3 : Hid (w3.ownsRow B0 47 1 v3 (j + 1) ((bouts hl vt (j + 1)).map wv)) := own3
                have HA3 : Hid ((Builtin.append_ #[45, 45] 45 #[u19, .slice (some ⟨W.heap.size, 0, none⟩) 1 1]).run Tryd.prog (W.alloc (.cells #[.int .u64 (y2.toNat : Int)] 47)) = .ok v3 w3) := hap3
                have hsz3 : B0 ≤ w3.heap.size := Nat.le_trans hszd (Nat.le_trans hR1.size hg3.size)
                clear hap3 own3 hg3 hR1 hszd HE ha0 ha1 ha2 hy1 hy2 hpj
                iterate 16 (refine sched_take rfl (by rfl) (v := ?_) ?_ ?_; rotate_left; (intro w' hw'; obtain ⟨z1, z2, z3⟩ := HLD.out w' hw'; clear hw'; go_simp; with_reducible rfl); go_simp)
                refine sched_val rfl (by rfl) (v := .slice (some ⟨W.heap.size, 0, none⟩) 1 1) (w' := W.alloc (.cells #[.int .u64 (y2.toNat : Int)] 47)) (by go_simp) HR1.out ?_
                go_simp
                refine sched_append (s := .tmp 147) (x := .tmp 163) (t := 45) rfl (by rfl) rfl rfl rfl HA3.out HR2.out ?_
                clear HA3 HR2 HR1 HLD HOd HSd
                go_simp
                iterate 1 (refine sched_take rfl (by rfl) (v := ?_) ?_ ?_; rotate_left; (intro w' hw'; clear hw'; go_simp; with_reducible rfl); go_simp)
                refine sched_done hKK ?_
                go_wp2
                exact ⟨⟨j + 1, by omega, by go_num, HO3, HS3, hsz3⟩, by simp [intOf]; omega⟩
              · have hji : ¬ (j : Int) < 8 := by omega
                have ej : j = 8 := by omega
                have HOz : Hid (wr.ownsRow B0 47 1 u19 8 ((bpart hl b t false).map wv)) := by
                  have := hO.out
                  rw [ej, ← HVT.out, ← HF.out, ← HML.out] at this
                  exact this
                clear hO ej
                go_wp2
                go_ret
                exact ⟨_, rfl, hS.out.bel, own_lower HOz.out hb4⟩
      | true =>
        have HF2 : Hid (bfirst hl t true = l2.set 14 s14) := by
          show _ = _
          have := HF.out
          simpa using this
        clear HF HS6'
        have HF := HF2
        clear HF2
        have HSz := HS7
        clear HS7
        go_wp2_with fail
        refine (refRows_any _).mono ?_
        rintro e w8 ⟨rfl, hb8, hr8⟩
        have HS8 : Hid (BS w hx hc hl gm cm ml gv cv (l2.set 14 s14) w8) := HSz.out.later hb8
        obtain ⟨gr, hgr⟩ : ∃ gr, (w6.setCell ⟨gv, 14, none⟩ (.int .u64 (s14.toNat : Int))).heap.size = gr := ⟨_, rfl⟩
        rw [hgr] at hr8 ⊢
        have hgrv : gr ≠ gv := by have := HSz.out.vs.lt gv rfl; omega
        have HR8 : Hid (w8.heap[gr]? = some (.cells rowsV 9 (0, 0))) := hr8
        obtain ⟨vz, hvz⟩ : ∃ vz, (l2.set 14 s14) = vz := ⟨_, rfl⟩
        rw [hvz] at HS8 HF
        clear hb8 hr8 hgr hvz
        have hvl : ∀ i, (bturned ml i vz).length = 16 := fun i => by rw [bturned_length, ← HF.out, bfirst_length _ _ _ hll]
        go_wp2
        go_loopw [15] (fun iv wr => ∃ i : Nat, i ≤ 10 ∧ iv = .int .i64 i ∧ Hid (BS w hx hc hl gm cm ml gv cv (bturned ml i vz) wr) ∧ Hid (wr.heap[gr]? = some (.cells rowsV 9 (0, 0)))) (fun iv _ => 10 - (intOf iv).toNat)
        case atStart => exact ⟨0, by omega, rfl, HS8, HR8⟩
        case round =>
          clear HS8 HR8
          obtain ⟨i, hi, rfl, hS, hR⟩ := hrel
          by_cases hi10 : i < 10
          · have hii : (i : Int) < 10 := by omega
            have hrc := rows_cell hR.out i hi10
            go_wp2
            clear hrc
            go_loopw [17] (fun kv wr => ∃ k : Nat, k ≤ 4 ∧ kv = .int .i64 k ∧ Hid (BS w hx hc hl gm cm ml gv cv (bcols i ml k (bturned ml i vz)) wr) ∧ Hid (wr.heap[gr]? = some (.cells rowsV 9 (0, 0)))) (fun kv _ => 4 - (intOf kv).toNat)
            case atStart => exact ⟨0, by omega, rfl, hS, hR⟩
            case round =>
              clear hS hR
              obtain ⟨k, hk, rfl, hS, hR⟩ := hrel
              by_cases hk4 : k < 4
              · obtain ⟨p1, hp1⟩ : ∃ p, 4 + k = p := ⟨_, rfl⟩
                obtain ⟨p2, hp2⟩ : ∃ p, 8 + k = p := ⟨_, rfl⟩
                obtain ⟨p3, hp3⟩ : ∃ p, 12 + k = p := ⟨_, rfl⟩
                obtain ⟨q1, hq1⟩ : ∃ q, 2 * k = q := ⟨_, rfl⟩
                obtain ⟨q2, hq2⟩ : ∃ q, 2 * k + 1 = q := ⟨_, rfl⟩
                have e1 : IntKind.i64.wrap ((4 : Int) + (k : Int)) = (p1 : Int) := by rw [IntKind.wrap_i64]; omega
                have e2 : IntKind.i64.wrap ((8 : Int) + (k : Int)) = (p2 : Int) := by rw [IntKind.wrap_i64]; omega
                have e3 : IntKind.i64.wrap ((12 : Int) + (k : Int)) = (p3 : Int) := by rw [IntKind.wrap_i64]; omega
                have e4 : IntKind.i64.wrap ((2 : Int) * (k : Int)) = (q1 : Int) := by rw [IntKind.wrap_i64]; omega
                have e5 : IntKind.i64.wrap ((q1 : Int) + 1) = (q2 : Int) := by rw [IntKind.wrap_i64]; omega
                obtain ⟨r1, s1, hs1, hs1b, hr1, hc1, hn1, hw1⟩ := letter i q1 hi10 (by omega)
                obtain ⟨r2, s2, hs2, hs2b, hr2, hc2, hn2, hw2⟩ := letter i q2 hi10 (by omega)
                have hki : (k : Int) < 4 := by omega
                have hs1i : (s1 : Int) < 16 := by omega
                have hs2i : (s2 : Int) < 16 := by omega
                have hdr : Below wr.heap.size wr wr.drew := (Below.refl _ _).drew
                have HSd : Hid (BS w hx hc hl gm cm ml gv cv (bcols i ml k (bturned ml i vz)) wr.drew) := hS.out.later hdr
                have HRd : Hid (wr.drew.heap[gr]? = some (.cells rowsV 9 (0, 0))) := hR.out
                obtain ⟨x1, hx1⟩ : ∃ x, at32 ml s1 = x := ⟨_, rfl⟩
                obtain ⟨x2, hx2⟩ : ∃ x, at32 ml s2 = x := ⟨_, rfl⟩
                have HE : Hid (bcols i ml (k + 1) (bturned ml i vz) = bmix (bcols i ml k (bturned ml i vz)) k p1 p2 p3 x1 x2) := by
                  show _ = _
                  rw [bcols, hp1, hp2, hp3, hq2, hq1, hs1, hs2, hx1, hx2]
                clear hS hR hdr
                go_wp2
                refine wp_region_sched' (G := But gv) (by kernel_rfl) (But.refl gv) (But.trans gv) (by kernel_rfl) [(0, true), (1, true), (2, true), (3, true), (4, true), (5, true), (6, true), (7, true), (8, true), (9, true), (10, true), (11, true), (12, true), (13, true), (14, true), (15, true), (16, true), (17, true), (18, true), (19, true), (20, true), (21, true), (22, true), (23, true), (24, true), (25, false)] rfl (by kernel_rfl) ?_
                intro KK hKK
                generalize wr.drew = W at HSd HRd ⊢
                have hld1 : ∀ w', But gv W w' → w'.cell? ⟨gm, s1, none⟩ = some (.int .u64 (x1.toNat : Int)) := fun w' hw' => by rw [← hx1]; exact bs_word HSd.out hw' s1 hs1b
                have hld2 : ∀ w', But gv W w' → w'.cell? ⟨gm, s2, none⟩ = some (.int .u64 (x2.toNat : Int)) := fun w' hw' => by rw [← hx2]; exact bs_word HSd.out hw' s2 hs2b
                have HLD : Hid ((∀ w', But gv W w' → w'.cell? ⟨gm, s1, none⟩ = some (.int .u64 (x1.toNat : Int))) ∧ ∀ w', But gv W w' → w'.cell? ⟨gm, s2, none⟩ = some (.int .u64 (x2.toNat : Int))) := ⟨hld1, hld2⟩
                have HIX : Hid ((rowS i)[q1]? = some (UInt8.ofNat r1) ∧ (rowS i)[q2]? = some (UInt8.ofNat r2) ∧ ((UInt8.ofNat r1).toNat : Int) = (r1 : Int) ∧ ((UInt8.ofNat r2).toNat : Int) = (r2 : Int)) := ⟨hc1, hc2, hn1, hn2⟩
                have HB16 : Hid (p1 < 16 ∧ p2 < 16 ∧ p3 < 16) := ⟨by omega, by omega, by omega⟩
                clear hld1 hld2 hc1 hc2 hn1 hn2 hs1 hs2 hr1 hr2 hp1 hp2 hp3 hq1 hq2 hx1 hx2
                iterate 12 (refine sched_take rfl (by rfl) (v := ?_) ?_ ?_; rotate_left; (intro w' hw'; clear hw'; go_simp; with_reducible rfl); go_simp)
                refine sched_take rfl (by rfl) (v := .int .u8 (r1 : Int)) (fun w' hw' => exec_index' 9 _ _ rfl (rowS i) q1 _ _ rfl rfl Tryd.underlying9 HIX.out.1 HIX.out.2.2.1) ?_
                go_simp
                iterate 8 (refine sched_take rfl (by rfl) (v := ?_) ?_ ?_; rotate_left; (intro w' hw'; have z1 := HLD.out.1 w' hw'; clear hw'; go_simp; with_reducible rfl); go_simp)
                refine sched_take rfl (by rfl) (v := .int .u8 (r2 : Int)) (fun w' hw' => exec_index' 9 _ _ rfl (rowS i) q2 _ _ rfl rfl Tryd.underlying9 HIX.out.2.1 HIX.out.2.2.2) ?_
                go_simp
                iterate 3 (refine sched_take rfl (by rfl) (v := ?_) ?_ ?_; rotate_left; (intro w' hw'; have z1 := HLD.out.2 w' hw'; clear hw'; go_simp; with_reducible rfl); go_simp)
                refine sched_call (f := 31) (args := #[.slice (some ⟨gv, 0, none⟩) 16 cv, .int .i64 k, .int .i64 p1, .int .i64 p2, .int .i64 p3, .int .u64 (x1.toNat : Int), .int .u64 (x2.toNat : Int)]) rfl (by rfl) (by go_simp) ?_
                refine (refMix_any gv 0 cv 16 _ k p1 p2 p3 x1 x2 _ HSd.out.vs (by omega) HB16.out.1 HB16.out.2.1 HB16.out.2.2).mono ?_
                rintro e w9 ⟨⟨v9, rfl⟩, hs9, hg9⟩
                refine ⟨_, rfl, hg9, ?_⟩
                have HS9 : Hid (BS w hx hc hl gm cm ml gv cv (bcols i ml (k + 1) (bturned ml i vz)) w9) := by rw [HE.out]; exact HSd.out.next hs9 hg9
                have HR9 : Hid (w9.heap[gr]? = some (.cells rowsV 9 (0, 0))) := by
                  show _ = _
                  rw [hg9.block gr (Array.getElem?_eq_some_iff.1 HRd.out).1 (fun e => hgrv (Option.some.inj e))]; exact HRd.out
                clear hs9 hg9 HSd HRd HLD HIX HE HB16
                go_simp
                refine sched_done hKK ?_
                go_wp2
                exact ⟨⟨k + 1, by omega, by go_num, HS9, HR9⟩, by simp [intOf]; omega⟩
              · have hki : ¬ (k : Int) < 4 := by omega
                have ek : k = 4 := by omega
                have HS4 : Hid (BS w hx hc hl gm cm ml gv cv (bcols i ml 4 (bturned ml i vz)) wr) := by have := hS.out; rw [ek] at this; exact this
                clear hS ek
                go_wp2
                obtain ⟨vc, hvc⟩ : ∃ x, bcols i ml 4 (bturned ml i vz) = x := ⟨_, rfl⟩
                rw [hvc] at HS4
                have HVC : Hid (bcols i ml 4 (bturned ml i vz) = vc) := hvc
                clear hvc
                go_loopw [18] (fun kv wr => ∃ k : Nat, k ≤ 4 ∧ kv = .int .i64 k ∧ Hid (BS w hx hc hl gm cm ml gv cv (bslants i ml k vc) wr) ∧ Hid (wr.heap[gr]? = some (.cells rowsV 9 (0, 0)))) (fun kv _ => 4 - (intOf kv).toNat)
                case atStart => exact ⟨0, by omega, rfl, HS4, hR⟩
                case round =>
                  clear HS4 hR
                  obtain ⟨k, hk, rfl, hS, hR⟩ := hrel
                  by_cases hk4 : k < 4
                  · obtain ⟨p1, hp1⟩ : ∃ p, 4 + (k + 1) % 4 = p := ⟨_, rfl⟩
                    obtain ⟨p2, hp2⟩ : ∃ p, 8 + (k + 2) % 4 = p := ⟨_, rfl⟩
                    obtain ⟨p3, hp3⟩ : ∃ p, 12 + (k + 3) % 4 = p := ⟨_, rfl⟩
                    obtain ⟨q0, hq0⟩ : ∃ q, 2 * k = q := ⟨_, rfl⟩
                    obtain ⟨q1, hq1⟩ : ∃ q, 8 + q0 = q := ⟨_, rfl⟩
                    obtain ⟨q2, hq2⟩ : ∃ q, 9 + q0 = q := ⟨_, rfl⟩
                    have e1 : IntKind.i64.wrap ((4 : Int) + (IntKind.i64.wrap ((k : Int) + 1)).tmod 4) = (p1 : Int) := by rw [← hp1]; exact slantB_val k 1 4 hk4 (by omega) (by omega)
                    have e2 : IntKind.i64.wrap ((8 : Int) + (IntKind.i64.wrap ((k : Int) + 2)).tmod 4) = (p2 : Int) := by rw [← hp2]; exact slantB_val k 2 8 hk4 (by omega) (by omega)
                    have e3 : IntKind.i64.wrap ((12 : Int) + (IntKind.i64.wrap ((k : Int) + 3)).tmod 4) = (p3 : Int) := by rw [← hp3]; exact slantB_val k 3 12 hk4 (by omega) (by omega)
                    have e4 : IntKind.i64.wrap ((2 : Int) * (k : Int)) = (q0 : Int) := by rw [IntKind.wrap_i64]; omega
                    have e5 : IntKind.i64.wrap ((8 : Int) + (q0 : Int)) = (q1 : Int) := by rw [IntKind.wrap_i64]; omega
                    have e6 : IntKind.i64.wrap ((9 : Int) + (q0 : Int)) = (q2 : Int) := by rw [IntKind.wrap_i64]; omega
                    obtain ⟨r1, s1, hs1, hs1b, hr1, hc1, hn1, hw1⟩ := letter i q1 hi10 (by omega)
                    obtain ⟨r2, s2, hs2, hs2b, hr2, hc2, hn2, hw2⟩ := letter i q2 hi10 (by omega)
                    have hki : (k : Int) < 4 := by omega
                    have hs1i : (s1 : Int) < 16 := by omega
                    have hs2i : (s2 : Int) < 16 := by omega
                    have hdr : Below wr.heap.size wr wr.drew := (Below.refl _ _).drew
                    have HSd : Hid (BS w hx hc hl gm cm ml gv cv (bslants i ml k vc) wr.drew) := hS.out.later hdr
                    have HRd : Hid (wr.drew.heap[gr]? = some (.cells rowsV 9 (0, 0))) := hR.out
                    obtain ⟨x1, hx1⟩ : ∃ x, at32 ml s1 = x := ⟨_, rfl⟩
                    obtain ⟨x2, hx2⟩ : ∃ x, at32 ml s2 = x := ⟨_, rfl⟩
                    have HE : Hid (bslants i ml (k + 1) vc = bmix (bslants i ml k vc) k p1 p2 p3 x1 x2) := by
                      show _ = _
                      rw [bslants, hp1, hp2, hp3, hq0, hq2, hq1, hs1, hs2, hx1, hx2]
                    clear hS hR hdr
                    go_wp2
                    refine wp_region_sched' (G := But gv) (by kernel_rfl) (But.refl gv) (But.trans gv) (by kernel_rfl) [(0, true), (1, true), (2, true), (3, true), (4, true), (5, true), (6, true), (7, true), (8, true), (9, true), (10, true), (11, true), (12, true), (13, true), (14, true), (15, true), (16, true), (17, true), (18, true), (19, true), (20, true), (21, true), (22, true), (23, true), (24, true), (25, true), (26, true), (27, true), (28, true), (29, true), (30, true), (31, true), (32, false)] rfl (by kernel_rfl) ?_
                    intro KK hKK
                    generalize wr.drew = W at HSd HRd ⊢
                    have hld1 : ∀ w', But gv W w' → w'.cell? ⟨gm, s1, none⟩ = some (.int .u64 (x1.toNat : Int)) := fun w' hw' => by rw [← hx1]; exact bs_word HSd.out hw' s1 hs1b
                    have hld2 : ∀ w', But gv W w' → w'.cell? ⟨gm, s2, none⟩ = some (.int .u64 (x2.toNat : Int)) := fun w' hw' => by rw [← hx2]; exact bs_word HSd.out hw' s2 hs2b
                    have HLD : Hid ((∀ w', But gv W w' → w'.cell? ⟨gm, s1, none⟩ = some (.int .u64 (x1.toNat : Int))) ∧ ∀ w', But gv W w' → w'.cell? ⟨gm, s2, none⟩ = some (.int .u64 (x2.toNat : Int))) := ⟨hld1, hld2⟩
                    have HIX : Hid ((rowS i)[q1]? = some (UInt8.ofNat r1) ∧ (rowS i)[q2]? = some (UInt8.ofNat r2) ∧ ((UInt8.ofNat r1).toNat : Int) = (r1 : Int) ∧ ((UInt8.ofNat r2).toNat : Int) = (r2 : Int)) := ⟨hc1, hc2, hn1, hn2⟩
                    have HB16 : Hid (p1 < 16 ∧ p2 < 16 ∧ p3 < 16) := ⟨by omega, by omega, by omega⟩
                    clear hld1 hld2 hc1 hc2 hn1 hn2 hs1 hs2 hr1 hr2 hp1 hp2 hp3 hq0 hq1 hq2 hx1 hx2
                    iterate 19 (refine sched_take rfl (by rfl) (v := ?_) ?_ ?_; rotate_left; (intro w' hw'; clear hw'; go_simp; with_reducible rfl); go_simp)
                    refine sched_take rfl (by rfl) (v := .int .u8 (r1 : Int)) (fun w' hw' => exec_index' 9 _ _ rfl (rowS i) q1 _ _ rfl rfl Tryd.underlying9 HIX.out.1 HIX.out.2.2.1) ?_
                    go_simp
                    iterate 8 (refine sched_take rfl (by rfl) (v := ?_) ?_ ?_; rotate_left; (intro w' hw'; have z1 := HLD.out.1 w' hw'; clear hw'; go_simp; with_reducible rfl); go_simp)
                    refine sched_take rfl (by rfl) (v := .int .u8 (r2 : Int)) (fun w' hw' => exec_index' 9 _ _ rfl (rowS i) q2 _ _ rfl rfl Tryd.underlying9 HIX.out.2.1 HIX.out.2.2.2) ?_
                    go_simp
                    iterate 3 (refine sched_take rfl (by rfl) (v := ?_) ?_ ?_; rotate_left; (intro w' hw'; have z1 := HLD.out.2 w' hw'; clear hw'; go_simp; with_reducible rfl); go_simp)
                    refine sched_call (f := 31) (args := #[.slice (some ⟨gv, 0, none⟩) 16 cv, .int .i64 k, .int .i64 p1, .int .i64 p2, .int .i64 p3, .int .u64 (x1.toNat : Int), .int .u64 (x2.toNat : Int)]) rfl (by rfl) (by go_simp) ?_
                    refine (refMix_any gv 0 cv 16 _ k p1 p2 p3 x1 x2 _ HSd.out.vs (by omega) HB16.out.1 HB16.out.2.1 HB16.out.2.2).mono ?_
                    rintro e w9 ⟨⟨v9, rfl⟩, hs9, hg9⟩
                    refine ⟨_, rfl, hg9, ?_⟩
                    have HS9 : Hid (BS w hx hc hl gm cm ml gv cv (bslants i ml (k + 1) vc) w9) := by rw [HE.out]; exact HSd.out.next hs9 hg9
                    have HR9 : Hid (w9.heap[gr]? = some (.cells rowsV 9 (0, 0))) := by
                      show _ = _
                      rw [hg9.block gr (Array.getElem?_eq_some_iff.1 HRd.out).1 (fun e => hgrv (Option.some.inj e))]; exact HRd.out
                    clear hs9 hg9 HSd HRd HLD HIX HE HB16
                    go_simp
                    refine sched_done hKK ?_
                    go_wp2
                    exact ⟨⟨k + 1, by omega, by go_num, HS9, HR9⟩, by simp [intOf]; omega⟩
                  · have hki : ¬ (k : Int) < 4 := by omega
                    have ek : k = 4 := by omega
                    have HS9 : Hid (BS w hx hc hl gm cm ml gv cv (bturned ml (i + 1) vz) wr) := by have := hS.out; rw [ek, ← HVC.out] at this; exact this
                    clear hS ek HVC
                    go_wp2
                    exact ⟨⟨i + 1, by omega, by go_num, HS9, hR⟩, by simp [intOf]; omega⟩
          · have hii : ¬ (i : Int) < 10 := by omega
            have ei : i = 10 := by omega
            have HT : Hid (BS w hx hc hl gm cm ml gv cv (bturned ml 10 vz) wr) := by have := hS.out; rw [ei] at this; exact this
            clear hS hR ei
            go_wp2
            obtain ⟨vt, hvt⟩ : ∃ x, bturned ml 10 vz = x := ⟨_, rfl⟩
            rw [hvt] at HT
            have HVT : Hid (bturned ml 10 vz = vt) := hvt
            obtain ⟨hxb, hxo, rfl⟩ : ∃ b o, hx = ⟨b, o, none⟩ := by
              rcases HT.out.hs.2 with h0 | ⟨g, o, _, e0, _⟩
              · omega
              · exact ⟨g, o, Option.some.inj e0⟩
            obtain ⟨B0, hB0⟩ : ∃ B, wr.heap.size = B := ⟨_, rfl⟩
            have hb1 : hxb < B0 := by rw [← hB0]; exact HT.out.hs.lt hxb rfl
            have hb2 : gm < B0 := by rw [← hB0]; exact HT.out.ms.lt gm rfl
            have hb3 : gv < B0 := by rw [← hB0]; exact HT.out.vs.lt gv rfl
            have hb4 : w.heap.size ≤ B0 := by rw [← hB0]; exact HT.out.bel.size
            have HO0 : Hid ((wr.alloc (.cells #[] 47)).ownsRow B0 47 1 (.slice (some ⟨wr.heap.size, 0, none⟩) 0 0) 0 ((bouts hl vt 0).map wv)) := World.ownsRow_made wr #[] 0 (Nat.le_of_eq hB0.symm) (Nat.zero_le _) rfl
            have HT0 : Hid (BS w ⟨hxb, hxo, none⟩ hc hl gm cm ml gv cv vt (wr.alloc (.cells #[] 47))) := HT.out.later ((Below.refl _ _).alloc (Nat.le_refl _) _)
            have hsz0 : B0 ≤ (wr.alloc (.cells #[] 47)).heap.size := by simp; omega
            clear hvt HT hB0
            go_loopw [19, 20] (fun v iv wr => ∃ j : Nat, j ≤ 8 ∧ iv = .int .i64 j ∧ Hid (wr.ownsRow B0 47 1 v j ((bouts hl vt j).map wv)) ∧ Hid (BS w ⟨hxb, hxo, none⟩ hc hl gm cm ml gv cv vt wr) ∧ B0 ≤ wr.heap.size) (fun _ iv _ => 8 - (intOf iv).toNat)
            case atStart => exact ⟨0, by omega, rfl, HO0, HT0, hsz0⟩
            case round =>
              clear HO0 HT0
              obtain ⟨j, hj, rfl, hO, hS, hszB⟩ := hrel
              by_cases hj8 : j < 8
              · have hji : (j : Int) < 8 := by omega
                have hj16 : (j : Int) < 16 := by omega
                obtain ⟨pj, hpj⟩ : ∃ x, 8 + j = x := ⟨_, rfl⟩
                have hpj16 : (pj : Int) < 16 := by omega
                have ej1 : IntKind.i64.wrap ((8 : Int) + (j : Int)) = (pj : Int) := by rw [IntKind.wrap_i64]; omega
                obtain ⟨a0, ha0⟩ : ∃ x, at32 hl j = x := ⟨_, rfl⟩
                obtain ⟨a1, ha1⟩ : ∃ x, at32 vt j = x := ⟨_, rfl⟩
                obtain ⟨a2, ha2⟩ : ∃ x, at32 vt pj = x := ⟨_, rfl⟩
                obtain ⟨y1, hy1⟩ : ∃ x, a0 ^^^ a1 = x := ⟨_, rfl⟩
                obtain ⟨y2, hy2⟩ : ∃ x, y1 ^^^ a2 = x := ⟨_, rfl⟩
                have hX1 : bits .xor .u64 (a0.toNat : Int) (a1.toNat : Int) = (y1.toNat : Int) := by rw [xor_val64, hy1]
                have hX2 : bits .xor .u64 (y1.toNat : Int) (a2.toNat : Int) = (y2.toNat : Int) := by rw [xor_val64, hy2]
                have HOd : Hid (wr.drew.ownsRow B0 47 1 u19 j ((bouts hl vt j).map wv)) := hO.out
                have HSd : Hid (BS w ⟨hxb, hxo, none⟩ hc hl gm cm ml gv cv vt wr.drew) := hS.out.later (Below.refl _ _).drew
                have hszd : B0 ≤ wr.drew.heap.size := hszB
                have HE : Hid (bouts hl vt (j + 1) = bouts hl vt j ++ [y2]) := by
                  show _ = _
                  rw [bouts_succ, hpj, ha0, ha1, ha2, hy1, hy2]
                clear hO hS
                go_wp2
                refine wp_region_sched' (G := Rest u19) (by kernel_rfl) (Rest.refl _) (Rest.trans _) (by kernel_rfl) [(0, true), (1, true), (2, true), (3, true), (4, true), (5, true), (6, true), (7, true), (8, true), (9, true), (10, true), (11, true), (12, true), (13, true), (14, true), (15, true), (16, false), (17, false), (18, true)] rfl (by kernel_rfl) ?_
                intro KK hKK
                generalize wr.drew = W at HSd HOd hszd ⊢
                have HLD : Hid (∀ w', Rest u19 W w' → w'.cell? ⟨hxb, hxo + j, none⟩ = some (.int .u64 (a0.toNat : Int)) ∧ w'.cell? ⟨gv, j, none⟩ = some (.int .u64 (a1.toNat : Int)) ∧ w'.cell? ⟨gv, pj, none⟩ = some (.int .u64 (a2.toNat : Int))) := fun w' hw' => by
                  have hB := HSd.out.rest HOd.out hw' hb1 hb2 hb3 hb4
                  have k1 := (hB.hs.word j hj8).1
                  have k2 := (hB.vs.word j (by omega)).1
                  have k3 := (hB.vs.word pj (by omega)).1
                  rw [Nat.zero_add] at k2 k3
                  rw [ha0] at k1
                  rw [ha1] at k2
                  rw [ha2] at k3
                  exact ⟨k1, k2, k3⟩
                obtain ⟨v3, w3, hap3, own3, hg3⟩ := append_wordA W B0 u19 j _ HOd.out y2 hszd (by omega)
                rw [← HE.out] at own3
                have hR1 : Rest u19 W (W.alloc (.cells #[.int .u64 (y2.toNat : Int)] 47)) := Rest.below _ ((Below.refl _ _).alloc (Nat.le_refl _) _)
                have HR1 : Hid (Rest u19 W (W.alloc (.cells #[.int .u64 (y2.toNat : Int)] 47))) := hR1
                have HR2 : Hid (Rest u19 (W.alloc (.cells #[.int .u64 (y2.toNat : Int)] 47)) w3) := hg3
                have HS3 : Hid (BS w ⟨hxb, hxo, none⟩ hc hl gm cm ml gv cv vt w3) := HSd.out.rest HOd.out (Rest.trans _ _ _ _ hR1 hg3) hb1 hb2 hb3 hb4
                have HO3 : Hid (w3.ownsRow B0 47 1 v3 (j + 1) ((bouts hl vt (j + 1)).map wv)) := own3
                have HA3 : Hid ((Builtin.append_ #[45, 45] 45 #[u19, .slice (some ⟨W.heap.size, 0, none⟩) 1 1]).run Tryd.prog (W.alloc (.cells #[.int .u64 (y2.toNat : Int)] 47)) = .ok v3 w3) := hap3
                have hsz3 : B0 ≤ w3.heap.size := Nat.le_trans hszd (Nat.le_trans hR1.size hg3.size)
                clear hap3 own3 hg3 hR1 hszd HE ha0 ha1 ha2 hy1 hy2 hpj
                iterate 16 (refine sched_take rfl (by rfl) (v := ?_) ?_ ?_; rotate_left; (intro w' hw'; obtain ⟨z1, z2, z3⟩ := HLD.out w' hw'; clear hw'; go_simp; with_reducible rfl); go_simp)
                refine sched_val rfl (by rfl) (v := .slice (some ⟨W.heap.size, 0, none⟩) 1 1) (w' := W.alloc (.cells #[.int .u64 (y2.toNat : Int)] 47)) (by go_simp) HR1.out ?_
                go_simp
                refine sched_append (s := .tmp 147) (x := .tmp 163) (t := 45) rfl (by rfl) rfl rfl rfl HA3.out HR2.out ?_
                clear HA3 HR2 HR1 HLD HOd HSd
                go_simp
                iterate 1 (refine sched_take rfl (by rfl) (v := ?_) ?_ ?_; rotate_left; (intro w' hw'; clear hw'; go_simp; with_reducible rfl); go_simp)
                refine sched_done hKK ?_
                go_wp2
                exact ⟨⟨j + 1, by omega, by go_num, HO3, HS3, hsz3⟩, by simp [intOf]; omega⟩
              · have hji : ¬ (j : Int) < 8 := by omega
                have ej : j = 8 := by omega
                have HOz : Hid (wr.ownsRow B0 47 1 u19 8 ((bpart hl b t true).map wv)) := by
                  have := hO.out
                  rw [ej, ← HVT.out, ← HF.out, ← HML.out] at this
                  exact this
                clear hO ej
                go_wp2
                go_ret
                exact ⟨_, rfl, hS.out.bel, own_lower HOz.out hb4⟩
end Go.Proofs.YthjkjfoelekeeaaDoor
