/- The walk over the program's Block. -/
import Derived.Test.YtcnihgjibiidpaaChaD
namespace Go.Proofs.Ytcnihgjibiidpaa
set_option linter.unusedVariables false
open Go.RowKit

def zero64 : Array Value := (List.replicate 64 (Value.int .u8 0)).toArray
/-- What Block has at first: the key, the nonce, the place of its answer. -/
structure BK (w : World) (key nonce : List UInt8) (W : World) : Prop where
  k : W.heap[w.heap.size]? = some (.cells (key.map bv).toArray 23 (0, 0))
  n : W.heap[w.heap.size + 1]? = some (.cells (nonce.map bv).toArray 40 (0, 0))
  out : W.heap[w.heap.size + 1 + 1]? = some (.cells zero64 70 (0, 0))
  bel : Below w.heap.size w W
theorem BK.new (w : World) (key nonce : List UInt8) : BK w key nonce (((w.alloc (.cells (key.map bv).toArray 23)).alloc (.cells (nonce.map bv).toArray 40)).alloc (.cells zero64 70)) := by
  refine ⟨?_, ?_, ?_, ?_⟩
  · rw [Below.heap_alloc _ _ _ (by simp <;> omega), Below.heap_alloc _ _ _ (by simp)]
    exact heap_alloc_new w _
  · rw [Below.heap_alloc _ _ _ (by simp)]
    have := heap_alloc_new (w.alloc (.cells (key.map bv).toArray 23)) (.cells (nonce.map bv).toArray 40)
    rwa [World.size_alloc] at this
  · have := heap_alloc_new ((w.alloc (.cells (key.map bv).toArray 23)).alloc (.cells (nonce.map bv).toArray 40)) (.cells zero64 70)
    rwa [World.size_alloc, World.size_alloc] at this
  · exact (((Below.refl _ _).alloc (Nat.le_refl _) _).alloc (by simp) _).alloc (by simp <;> omega) _
theorem run_store_wds (w : World) (l : List (BitVec 32)) (hn : l.length = 16) (c : Array Value) (hc : c.size = 16) :
    (storeCells ⟨w.heap.size, 0, none⟩ (l.map uv)).run Try.prog (w.alloc (.cells c 84)) = .ok () (w.alloc (.cells (l.map uv).toArray 84)) := by
  have e1 : (Try.prog.info? 84).map (·.size) = some 16 := by kernel_rfl
  have := run_storeCells_new (P := Try.prog) w 84 c (l.map uv).toArray (by rw [e1]; simp [hn]) (by simp [hc, hn]) (by
    rw [Array.all_eq_true_iff_forall_mem]
    intro u hu
    simp only [List.mem_toArray] at hu
    exact uv_oneCell l u hu)
  exact this
/-- Between the turns: the words, what they were, and the place of the answer. -/
structure BT (w : World) (g0 g1 : Nat) (l0 l : List (BitVec 32)) (W : World) : Prop where
  was : Wds W g0 l0
  now : Wds W g1 l
  out : W.heap[w.heap.size + 1 + 1]? = some (.cells zero64 70 (0, 0))
  b0 : w.heap.size + 1 + 1 < g0
  b1 : w.heap.size + 1 + 1 < g1
  ne : g0 ≠ g1
  bel : Below w.heap.size w W
theorem BT.next {w W W' : World} {g0 g1 : Nat} {l0 l l' : List (BitVec 32)} (h : BT w g0 g1 l0 l W) (hs : Wds W' g1 l') (hg : W.grownBy W' (some g1)) : BT w g0 g1 l0 l' W' := by
  have h0 := h.b0
  have h1 := h.b1
  have hlt := h.now.lt
  refine ⟨?_, hs, ?_, h0, h1, h.ne, h.bel.grown hg h.bel.size (fun k e => by cases e; omega)⟩
  · show W'.heap[g0]? = _
    rw [hg.block _ h.was.lt (fun e => h.ne (Option.some.inj e))]; exact h.was
  · rw [hg.block _ (by omega) (fun e => by have := Option.some.inj e; omega)]; exact h.out
theorem BT.new {w W0 w1 : World} {key nonce : List UInt8} (cl : List (BitVec 32)) (h0 : BK w key nonce W0) (hs0 : W0.heap.size = w.heap.size + 1 + 1 + 1) (hb : Below W0.heap.size W0 w1) :
    BT w w1.heap.size (w1.heap.size + 1) cl cl ((w1.alloc (.cells (cl.map uv).toArray 84)).alloc (.cells (cl.map uv).toArray 84)) := by
  have hs := hb.size
  refine ⟨?_, ?_, ?_, by omega, by omega, by omega, ?_⟩
  · unfold Wds
    rw [Below.heap_alloc _ _ _ (by simp)]
    exact heap_alloc_new w1 _
  · have := heap_alloc_new (w1.alloc (.cells (cl.map uv).toArray 84)) (.cells (cl.map uv).toArray 84)
    rwa [World.size_alloc] at this
  · rw [Below.heap_alloc _ _ _ (by simp; omega), Below.heap_alloc _ _ _ (by omega), hb.block (w.heap.size + 1 + 1) (by omega)]
    exact h0.out
  · have h2 : Below w.heap.size w w1 := h0.bel.trans (hb.mono (by omega))
    have := h2.size
    exact (h2.alloc h2.size _).alloc (by simp; omega) _

/-- The bytes of the first k words, and 0s behind them. -/
def outTo (key : List UInt8) (ctr : BitVec 32) (nonce : List UInt8) (k : Nat) : List Value := (blkTo key ctr nonce k).map bv ++ List.replicate (64 - 4 * k) (.int .u8 0)
theorem outTo_length (key : List UInt8) (ctr : BitVec 32) (nonce : List UInt8) (k : Nat) (hk : k ≤ 16) : (outTo key ctr nonce k).length = 64 := by
  simp [outTo, blkTo_length]; omega
theorem outTo_step (key : List UInt8) (ctr : BitVec 32) (nonce : List UInt8) (k : Nat) (hk : k < 16) (n : Nat) (hn : (chaWord key ctr nonce k).toNat = n) :
    (outTo key ctr nonce k).take (4 * k) ++ (putB 4 n false).map bv ++ (outTo key ctr nonce k).drop (4 * k + 4) = outTo key ctr nonce (k + 1) := by
  have hl : ((blkTo key ctr nonce k).map bv).length = 4 * k := by simp [blkTo_length]
  have e1 : (outTo key ctr nonce k).take (4 * k) = (blkTo key ctr nonce k).map bv := by
    unfold outTo; rw [← hl, List.take_left]
  have e2 : (outTo key ctr nonce k).drop (4 * k + 4) = List.replicate (64 - 4 * (k + 1)) (.int .u8 0) := by
    unfold outTo
    rw [← List.drop_drop, ← hl, List.drop_left, hl, List.drop_replicate]
    congr 1
  rw [e1, e2]
  unfold outTo
  rw [blkTo, hn, List.map_append]
  simp [putB]
/-- While the bytes are laid out. -/
structure BO (w : World) (g0 g1 g2 : Nat) (l0 l : List (BitVec 32)) (o : List Value) (W : World) : Prop where
  was : Wds W g0 l0
  now : Wds W g1 l
  res : W.heap[w.heap.size + 1 + 1]? = some (.cells zero64 70 (0, 0))
  out : W.heap[g2]? = some (.cells o.toArray 70 (0, 0))
  b2 : w.heap.size + 1 + 1 < g2
  n0 : g0 ≠ g2
  n1 : g1 ≠ g2
  bel : Below w.heap.size w W
theorem BO.new {w W : World} {g0 g1 : Nat} {l0 l : List (BitVec 32)} (h : BT w g0 g1 l0 l W) : BO w g0 g1 W.heap.size l0 l (List.replicate 64 (.int .u8 0)) (W.alloc (.cells zero64 70)) := by
  have h0 := h.was.lt
  have h1 := h.now.lt
  have h2 : w.heap.size + 1 + 1 < W.heap.size := (Array.getElem?_eq_some_iff.1 h.out).1
  refine ⟨?_, ?_, ?_, heap_alloc_new W _, h2, by omega, by omega, h.bel.alloc h.bel.size _⟩
  · unfold Wds
    rw [Below.heap_alloc _ _ _ h0]; exact h.was
  · unfold Wds
    rw [Below.heap_alloc _ _ _ h1]; exact h.now
  · rw [Below.heap_alloc _ _ _ h2]; exact h.out
theorem BO.later {w W W' : World} {g0 g1 g2 : Nat} {l0 l : List (BitVec 32)} {o : List Value} (h : BO w g0 g1 g2 l0 l o W) (hb : Below W.heap.size W W') : BO w g0 g1 g2 l0 l o W' :=
  ⟨h.was.later hb, h.now.later hb, by rw [hb.block _ (Array.getElem?_eq_some_iff.1 h.res).1]; exact h.res, by rw [hb.block _ (Array.getElem?_eq_some_iff.1 h.out).1]; exact h.out, h.b2, h.n0, h.n1, h.bel.trans (hb.mono h.bel.size)⟩
theorem BO.put {w W : World} {g0 g1 g2 : Nat} {l0 l : List (BitVec 32)} {o : List Value} (h : BO w g0 g1 g2 l0 l o W) (o' : List Value) : BO w g0 g1 g2 l0 l o' (W.setRow g2 o'.toArray) := by
  have h2 := h.b2
  refine ⟨?_, ?_, ?_, setRow_heap W g2 _ _ _ _ h.out, h.b2, h.n0, h.n1, below_setRow h.bel (by omega) _⟩
  · unfold Wds
    rw [setRow_other _ _ _ _ h.n0]; exact h.was
  · unfold Wds
    rw [setRow_other _ _ _ _ h.n1]; exact h.now
  · rw [setRow_other _ _ _ _ (by omega)]; exact h.res
theorem But.word {w w' : World} {g g' : Nat} {l : List (BitVec 32)} (h : Wds w g' l) (hne : g' ≠ g) (hb : But g w w') (i : Nat) (hi : i < l.length) : w'.cell? ⟨g', i, none⟩ = some (.int .u32 ((at32 l i).toNat : Int)) :=
  World.grownBy.cell hb (h.word i hi).1 (fun e => hne (by cases e; rfl))
set_option maxHeartbeats 2000000 in
set_option maxRecDepth 100000 in
theorem block_any (key nonce : List UInt8) (ctr : BitVec 32) (w : World) (hk : key.length = 32) (hn : nonce.length = 12) :
    Calls Try.prog 39 #[.agg (key.map bv).toArray, .int .u32 (ctr.toNat : Int), .agg (nonce.map bv).toArray] w fun e w' => e = .returned (.agg ((blk key ctr nonce).map bv).toArray) ∧ Below w.heap.size w w' := by
  have IK : Hid ((Try.prog.info? 23).map (·.size) = some (key.map bv).toArray.size) := by
    have e1 : (Try.prog.info? 23).map (·.size) = some 32 := by kernel_rfl
    show _ = _
    rw [e1]; simp [hk]
  have IN : Hid ((Try.prog.info? 40).map (·.size) = some (nonce.map bv).toArray.size) := by
    have e1 : (Try.prog.info? 40).map (·.size) = some 12 := by kernel_rfl
    show _ = _
    rw [e1]; simp [hn]
  go_enter Try.func39, Try.ntmps39
  go_wp2_with (first | refine wpList_load_row rfl 23 _ rfl w.heap.size rfl 23 _ (0, 0) _ (BK.new w key nonce).k Try.underlying23 rfl IK.out ?_ | refine wpList_load_row rfl 40 _ rfl (w.heap.size + 1) rfl 40 _ (0, 0) _ (BK.new w key nonce).n Try.underlying40 rfl IN.out ?_)
  refine (lay_any key nonce ctr _ hk hn).mono ?_
  rintro e w1 ⟨rfl, hb1⟩
  have hclen := chaAt_length key ctr nonce
  obtain ⟨cl, hcl⟩ : ∃ cl, chaAt key ctr nonce = cl := ⟨_, rfl⟩
  rw [hcl] at hclen ⊢
  have HCL : Hid (chaAt key ctr nonce = cl) := hcl
  clear hcl
  have HB1 : Hid (BT w w1.heap.size (w1.heap.size + 1) cl cl ((w1.alloc (.cells (cl.map uv).toArray 84)).alloc (.cells (cl.map uv).toArray 84))) := BT.new cl (BK.new w key nonce) (by simp) hb1
  have hst1 := run_store_wds w1 cl hclen
  have hst2 := run_store_wds (w1.alloc (.cells (cl.map uv).toArray 84)) cl hclen
  rw [World.size_alloc] at hst2
  have IB : Hid ((Try.prog.info? 84).map (·.size) = some (cl.map uv).toArray.size) := by
    have e1 : (Try.prog.info? 84).map (·.size) = some 16 := by kernel_rfl
    show _ = _
    rw [e1]; simp [hclen]
  clear hb1
  go_wp2_with (first | refine wpList_load_row rfl 84 _ rfl w1.heap.size rfl 84 _ (0, 0) _ (heap_alloc_new w1 _) Try.underlying84 rfl IB.out ?_)
  clear hst1 hst2 IB IK IN
  generalize (w1.alloc (.cells (cl.map uv).toArray 84)).alloc (.cells (cl.map uv).toArray 84) = W1 at HB1 ⊢
  obtain ⟨g0, hg0⟩ : ∃ g0, w1.heap.size = g0 := ⟨_, rfl⟩
  obtain ⟨g1, hg1⟩ : ∃ g1, w1.heap.size + 1 = g1 := ⟨_, rfl⟩
  rw [hg1] at HB1 ⊢
  rw [hg0] at HB1 ⊢
  clear hg0 hg1
  have htl : ∀ k, (turned k cl).length = 16 := fun k => by rw [turned_length, hclen]
  go_loopw [16] (fun i wr => ∃ k : Nat, k ≤ 10 ∧ i = .int .i64 k ∧ Hid (BT w g0 g1 cl (turned k cl) wr)) (fun i _ => 10 - (intOf i).toNat)
  case atStart => exact ⟨0, by omega, rfl, HB1⟩
  case round =>
    clear HB1
    obtain ⟨k, hk, rfl, hT⟩ := hrel
    by_cases hlt : k < 10
    · have hki : (k : Int) < 10 := by omega
      go_wp2_with fail
      refine (turn_any g1 _ _ (htl k) hT.out.now).mono ?_
      rintro e w8 ⟨⟨v, rfl⟩, hs8, hg8⟩
      have HT8 : Hid (BT w g0 g1 cl (turned (k + 1) cl) w8) := hT.out.next hs8 hg8
      clear hs8 hg8
      go_wp2
      exact ⟨⟨k + 1, by omega, by go_num, HT8⟩, by simp [intOf]; omega⟩
    · have ek : k = 10 := by omega
      have hkr : ¬ (k : Int) < 10 := by omega
      have HT : Hid (BT w g0 g1 cl (turned 10 cl) wr) := by have := hT.out; rw [ek] at this; exact this
      clear hT
      go_wp2
      have HO0 : Hid (BO w g0 g1 wr.heap.size cl (turned 10 cl) (outTo key ctr nonce 0) (wr.alloc (.cells zero64 70))) := BO.new HT.out
      refine from_world (P := Code.wp Try.prog _ _ _) (R := fun W => Hid (BO w g0 g1 wr.heap.size cl (turned 10 cl) (outTo key ctr nonce 0) W)) _ HO0 ?_
      intro W2 hO
      clear HO0 HT
      generalize wr.heap.size = g2 at hO ⊢
      go_loopw [20] (fun i wr => ∃ k : Nat, k ≤ 16 ∧ i = .int .i64 k ∧ Hid (BO w g0 g1 g2 cl (turned 10 cl) (outTo key ctr nonce k) wr)) (fun i _ => 16 - (intOf i).toNat)
      case atStart => exact ⟨0, by omega, rfl, hO⟩
      case round =>
        clear hO
        obtain ⟨k, hk, rfl, hO⟩ := hrel
        by_cases hlt : k < 16
        · obtain ⟨x, hx⟩ : ∃ x, at32 (turned 10 cl) k = x := ⟨_, rfl⟩
          obtain ⟨y, hy⟩ : ∃ y, at32 cl k = y := ⟨_, rfl⟩
          obtain ⟨n, hn'⟩ : ∃ n, (x + y).toNat = n := ⟨_, rfl⟩
          obtain ⟨p, hp⟩ : ∃ p, 4 * k = p := ⟨_, rfl⟩
          have hcw : (chaWord key ctr nonce k).toNat = n := by rw [chaWord, HCL.out, hx, hy, hn']
          have i1 : (k : Int) < 16 := by omega
          have e1 : IntKind.i64.wrap ((k : Int) * 4) = (p : Int) := by rw [IntKind.wrap_i64]; omega
          have HE : Hid ((outTo key ctr nonce k).take p ++ (putB 4 n false).map bv ++ (outTo key ctr nonce k).drop (p + 4) = outTo key ctr nonce (k + 1)) := by rw [← hp]; exact outTo_step key ctr nonce k hlt n hcw
          have HU : Hid (IntKind.u32.wrap ((x.toNat : Int) + (y.toNat : Int)) = (n : Int)) := by show _ = _; rw [IntKind.wrap_u32, sum_val, hn']
          have HN64 : Hid (IntKind.u64.wrap (n : Int) = (n : Int)) := by show _ = _; have := (x + y).isLt; rw [IntKind.wrap_u64]; omega
          obtain ⟨W, hW⟩ : ∃ W, wr.drew = W := ⟨_, rfl⟩
          have hgr : Below wr.heap.size wr W := by rw [← hW]; exact (Below.refl _ _).drew
          have HOW : Hid (BO w g0 g1 g2 cl (turned 10 cl) (outTo key ctr nonce k) W) := hO.out.later hgr
          have HW : Hid (wr.drew = W) := hW
          have hld1 : ∀ w', But g2 W w' → w'.cell? ⟨g1, k, none⟩ = some (.int .u32 (x.toNat : Int)) := fun w' hw' => by
            rw [← hx]; exact But.word HOW.out.now HOW.out.n1 hw' k (by rw [htl]; omega)
          have hld2 : ∀ w', But g2 W w' → w'.cell? ⟨g0, k, none⟩ = some (.int .u32 (y.toNat : Int)) := fun w' hw' => by
            rw [← hy]; exact But.word HOW.out.was HOW.out.n0 hw' k (by omega)
          have h64 : (p : Int) ≤ 64 := by omega
          have h64' : (p : Int) < 64 := by omega
          have h64n : ¬ 64 = p := by omega
          clear hO hgr hW hx hy hn' hcw
          go_wp2
          refine wp_region_sched' (G := But g2) (by kernel_rfl) (But.refl g2) (But.trans g2) (by kernel_rfl) [(0, true), (1, true), (2, true), (3, true), (4, true), (5, true), (6, true), (7, true), (8, true), (9, true), (10, true), (11, false), (12, false)] rfl (by kernel_rfl) ?_
          intro KK hKK
          rw [HW.out]
          iterate 11 (refine sched_take rfl (by rfl) (v := ?_) ?_ ?_; rotate_left; (intro w' hw'; have q1 := hld1 w' hw'; have q2 := hld2 w' hw'; go_simp; with_reducible rfl); go_simp)
          refine sched_call (f := 45) (args := #[.slice none 0 0, .int .i64 4, .int .u64 (n : Int), .bool false]) rfl (by rfl) (by go_simp; rw [HU.out, HN64.out]) ?_
          refine (put_any none 0 0 4 n false [] _ (by omega) ⟨rfl, .inl rfl⟩ 4 (by decide)).mono ?_
          rintro e w8 ⟨g8, rfl, hg8, hb8, hB8⟩
          refine ⟨_, rfl, But.below g2 hb8, ?_⟩
          have hO8 := HOW.out.later hb8
          have hg28 : g2 < w8.heap.size := (Array.getElem?_eq_some_iff.1 hO8.out).1
          have hol := outTo_length key ctr nonce k hk
          have hcp := run_copy_row Try.prog w8 24 24 3 5 g2 p (64 - p) (64 - p) ⟨g8, 0, none⟩ (0 + 4) (0 + 4) _ _ ((putB 4 n false).map bv) Try.underlying24 Try.info1U8 hO8.out
            (by rw [List.length_map, putB_length]; show 4 = min (0 + 4) (64 - p); omega) (fun j v hj => hB8.cells _ rfl j v (by simpa using hj)) (by simp [putB_length, hol]; omega) (bv_oneCell _)
          have hl4 : ((putB 4 n false).map bv).length = 4 := by simp [putB_length]
          rw [hl4] at hcp
          simp only [] at hcp
          rw [HE.out] at hcp
          have HO9 : Hid (BO w g0 g1 g2 cl (turned 10 cl) (outTo key ctr nonce (k + 1)) (w8.setRow g2 (outTo key ctr nonce (k + 1)).toArray)) := hO8.put _
          have HG9 : Hid (But g2 w8 (w8.setRow g2 (outTo key ctr nonce (k + 1)).toArray)) := But.setRow _ _ _
          generalize w8.setRow g2 (outTo key ctr nonce (k + 1)).toArray = W9 at hcp HO9 HG9
          clear hld1 hld2 hO8 hB8 hb8 HE HU HOW hol
          go_simp
          refine sched_val (w' := W9) (v := goInt 4) rfl (by rfl) (by go_simp) HG9.out ?_
          go_simp
          refine sched_done hKK ?_
          go_wp2
          exact ⟨⟨k + 1, by omega, by go_num, HO9⟩, by simp [intOf]; omega⟩
        · have ek : k = 16 := by omega
          have hkr : ¬ (k : Int) < 16 := by omega
          obtain ⟨B, hB⟩ : ∃ B, blk key ctr nonce = B := ⟨_, rfl⟩
          have hBl : B.length = 64 := by rw [← hB]; exact blk_length key ctr nonce
          have HBe : Hid (blk key ctr nonce = B) := hB
          have HO : Hid (BO w g0 g1 g2 cl (turned 10 cl) (B.map bv) wr) := by
            have := hO.out
            rw [ek] at this
            have e : outTo key ctr nonce 16 = B.map bv := by rw [← hB]; simp [outTo, blk]
            rw [e] at this
            exact this
          have IB : Hid ((Try.prog.info? 70).map (·.size) = some (B.map bv).toArray.size) := by
            have e1 : (Try.prog.info? 70).map (·.size) = some 64 := by kernel_rfl
            show _ = _
            rw [e1]; simp [hBl]
          have hst := store_row wr (w.heap.size + 1 + 1) _ _ (B.map bv) HO.out.res (by simp [hBl, zero64]) (bv_oneCell B)
          have hrow := setRow_heap wr (w.heap.size + 1 + 1) _ (B.map bv).toArray _ _ HO.out.res
          have HBel : Hid (Below w.heap.size w (wr.setRow (w.heap.size + 1 + 1) (B.map bv).toArray)) := below_setRow HO.out.bel (by omega) _
          obtain ⟨W4, hW4⟩ : ∃ W4, wr.setRow (w.heap.size + 1 + 1) (B.map bv).toArray = W4 := ⟨_, rfl⟩
          rw [hW4] at hst hrow HBel
          have HRow : Hid (W4.heap[w.heap.size + 1 + 1]? = some (.cells (B.map bv).toArray 70 (0, 0))) := hrow
          clear hrow hW4 hO hB
          go_wp2_with (first | refine wpList_load_row rfl 70 _ rfl g2 rfl 70 _ (0, 0) _ HO.out.out Try.underlying70 rfl IB.out ?_)
          (try simp only [Exit.inBlock, Exit.then])
          refine bodyPost_ret (results_cell_row rfl _ _ (w.heap.size + 1 + 1) 70 _ (0, 0) _ rfl HRow.out Try.underlying70 rfl IB.out) rfl ?_
          exact ⟨by rw [HBe.out], HBel.out⟩
end Go.Proofs.Ytcnihgjibiidpaa
