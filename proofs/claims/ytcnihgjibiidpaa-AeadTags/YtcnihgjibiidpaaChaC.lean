/- The walk over the program's Stream. -/
import Derived.Test.YtcnihgjibiidpaaChaE
namespace Go.Proofs.Ytcnihgjibiidpaa
set_option linter.unusedVariables false
open Go.RowKit

/-- The key and the nonce, as Stream has them. -/
structure SK (w : World) (key nonce : List UInt8) (W : World) : Prop where
  k : W.heap[w.heap.size]? = some (.cells (key.map bv).toArray 23 (0, 0))
  n : W.heap[w.heap.size + 1]? = some (.cells (nonce.map bv).toArray 40 (0, 0))
  size : w.heap.size + 1 + 1 ≤ W.heap.size
  bel : Below w.heap.size w W
theorem SK.new (w : World) (key nonce : List UInt8) : SK w key nonce ((w.alloc (.cells (key.map bv).toArray 23)).alloc (.cells (nonce.map bv).toArray 40)) := by
  refine ⟨?_, ?_, by simp, ?_⟩
  · rw [Below.heap_alloc _ _ _ (by simp)]
    exact heap_alloc_new w _
  · have := heap_alloc_new (w.alloc (.cells (key.map bv).toArray 23)) (.cells (nonce.map bv).toArray 40)
    rwa [World.size_alloc] at this
  · exact ((Below.refl _ _).alloc (Nat.le_refl _) _).alloc (by simp) _
theorem SK.later {w W W' : World} {key nonce : List UInt8} (h : SK w key nonce W) (hb : Below (w.heap.size + 1 + 1) W W') : SK w key nonce W' :=
  ⟨by rw [hb.block _ (by omega)]; exact h.k, by rw [hb.block _ (by omega)]; exact h.n, Nat.le_trans h.size hb.size, h.bel.trans (hb.mono (by omega))⟩
theorem run_store_new64 (w : World) (B : List UInt8) (hn : B.length = 64) (c : Array Value) (hc : c.size = 64) :
    (storeCells ⟨w.heap.size, 0, none⟩ (B.map bv)).run Try.prog (w.alloc (.cells c 70)) = .ok () (w.alloc (.cells (B.map bv).toArray 70)) := by
  have e1 : (Try.prog.info? 70).map (·.size) = some 64 := by kernel_rfl
  exact run_storeCells_new (P := Try.prog) w 70 c (B.map bv).toArray (by rw [e1]; simp [hn]) (by simp [hc, hn]) (by
    rw [Array.all_eq_true_iff_forall_mem]
    intro u hu
    simp only [List.mem_toArray] at hu
    exact bv_oneCell B u hu)
theorem ctr_step (ctr : BitVec 32) (k : Nat) : (((ctr + BitVec.ofNat 32 k).toNat : Int) + 1) % 4294967296 = ((ctr + BitVec.ofNat 32 (k + 1)).toNat : Int) := by
  simp only [BitVec.toNat_add, BitVec.toNat_ofNat]
  omega

set_option maxHeartbeats 2000000 in
set_option maxRecDepth 100000 in
theorem stream_own (key nonce : List UInt8) (ctr : BitVec 32) (a : Option Addr) (len cap : Nat) (l : List UInt8) (w : World) (hk : key.length = 32) (hn : nonce.length = 12) (hB : Byt w a len l) (hlm : len ≤ 1000000) (hlc : len ≤ cap) (hcm : cap ≤ maxLen) :
    Calls Try.prog 22 #[.agg (key.map bv).toArray, .int .u32 (ctr.toNat : Int), .agg (nonce.map bv).toArray, .slice a len cap] w fun e w' => ∃ v, e = .returned v ∧ Below w.heap.size w w' ∧ w'.ownsRow w.heap.size 5 1 v len ((stm key ctr nonce l).map bv) := by
  have IK : Hid ((Try.prog.info? 23).map (·.size) = some (key.map bv).toArray.size) := by
    have e1 : (Try.prog.info? 23).map (·.size) = some 32 := by kernel_rfl
    show _ = _
    rw [e1]; simp [hk]
  have IN : Hid ((Try.prog.info? 40).map (·.size) = some (nonce.map bv).toArray.size) := by
    have e1 : (Try.prog.info? 40).map (·.size) = some 12 := by kernel_rfl
    show _ = _
    rw [e1]; simp [hn]
  have hl := hB.1
  have hcm' : cap ≤ 9223372036854775807 := by unfold maxLen at hcm; exact hcm
  clear hcm
  have HB : Hid (Byt w a len l) := hB
  clear hB
  have HS0 : Hid (SK w key nonce ((w.alloc (.cells (key.map bv).toArray 23)).alloc (.cells (nonce.map bv).toArray 40))) := SK.new w key nonce
  obtain ⟨Z, hZ, hmk⟩ := make_room ((w.alloc (.cells (key.map bv).toArray 23)).alloc (.cells (nonce.map bv).toArray 40)) len (by omega)
  rw [World.size_alloc, World.size_alloc] at hmk
  have HO0 : Hid ((((w.alloc (.cells (key.map bv).toArray 23)).alloc (.cells (nonce.map bv).toArray 40)).alloc (.cells Z.toArray 5)).ownsRow (w.heap.size + 1 + 1) 5 1 (.slice (some ⟨w.heap.size + 1 + 1, 0, none⟩) 0 len) 0 (([] : List UInt8).map bv)) := by
    have := World.ownsRow_made (base := w.heap.size + 1 + 1) (e := 5) (size := 1) ((w.alloc (.cells (key.map bv).toArray 23)).alloc (.cells (nonce.map bv).toArray 40)) Z.toArray len (by simp) (by unfold maxLen; omega) (by simp [hZ])
    rw [World.size_alloc, World.size_alloc] at this
    exact this
  have HS1 : Hid (SK w key nonce (((w.alloc (.cells (key.map bv).toArray 23)).alloc (.cells (nonce.map bv).toArray 40)).alloc (.cells Z.toArray 5))) :=
    HS0.out.later ((Below.refl _ _).alloc (by simp) _)
  clear HS0
  go_enter Try.func22, Try.ntmps22
  go_wp2
  clear hmk
  generalize ((w.alloc (.cells (key.map bv).toArray 23)).alloc (.cells (nonce.map bv).toArray 40)).alloc (.cells Z.toArray 5) = W1 at HO0 HS1 ⊢
  go_loopw [1, 9] (fun c v wr => ∃ (k n : Nat) (a' : Option Addr) (c' : Nat), n = min (64 * k) len ∧ 64 * k ≤ len + 63 ∧ c = .int .u32 ((ctr + BitVec.ofNat 32 k).toNat : Int) ∧ v = .slice a' n c' ∧ Hid (wr.ownsRow (w.heap.size + 1 + 1) 5 1 (.slice a' n c') n ((stm key ctr nonce (l.take n)).map bv)) ∧ Hid (SK w key nonce wr)) (fun _ v _ => match v with | .slice _ n _ => len - n | _ => 0)
  case atStart => exact ⟨0, 0, _, _, by omega, by omega, by rw [BitVec.add_zero], rfl, by rw [List.take_zero]; exact HO0, HS1⟩
  case round =>
    clear HO0 HS1
    obtain ⟨k, n, a', c', hnE, hk64, rfl, rfl, hO, hS⟩ := hrel
    by_cases hlt : n < len
    · have en : 64 * k = n := by omega
      have i1 : (n : Int) < (len : Int) := by omega
      obtain ⟨q, hq⟩ : ∃ q, q = min (n + 64) len := ⟨_, rfl⟩
      have hq1 : n < q := by omega
      have hq2 : q ≤ len := by omega
      have hq3 : q - n ≤ 64 := by omega
      have hqm : min (len - n) 64 = q - n := by omega
      obtain ⟨C, hC⟩ : ∃ C, ctr + BitVec.ofNat 32 k = C := ⟨_, rfl⟩
      rw [hC]
      obtain ⟨B, hBe⟩ : ∃ B, blk key C nonce = B := ⟨_, rfl⟩
      have hBl : B.length = 64 := by rw [← hBe]; exact blk_length key C nonce
      have HST : Hid (stm key ctr nonce (l.take q) = stm key ctr nonce (l.take n) ++ xorB (l.drop n) B) := by
        have e := stm_step key ctr nonce l k (by omega)
        rw [en, hl, ← hq, show min 64 (len - n) = q - n by omega, hC, stm_one key C nonce ((l.drop n).take (q - n)) (by simp; omega), hBe] at e
        show _ = _
        rw [e]
        congr 1
        unfold xorB
        apply List.ext_getElem
        · simp only [List.length_zipWith, List.length_take, List.length_drop, hl, hBl]; omega
        · intro i h1 h2
          simp
      have HQ : Hid (q = min (64 * (k + 1)) len) := by show _ = _; omega
      have HCt : Hid (((C.toNat : Int) + 1) % 4294967296 = ((ctr + BitVec.ofNat 32 (k + 1)).toNat : Int)) := by rw [← hC]; exact ctr_step ctr k
      have HBe : Hid (blk key C nonce = B) := hBe
      obtain ⟨ba, offa, rfl⟩ : ∃ ba offa, a = some ⟨ba, offa, none⟩ := by
        rcases HB.out.2 with h0 | ⟨b', off', e, _⟩
        · omega
        · exact ⟨b', off', e⟩
      have hba := HB.out.lt (by omega)
      have hnc : (n : Int) ≤ (cap : Int) := by omega
      have hnl : (n : Int) ≤ (len : Int) := by omega
      have HKQ : Hid (64 * (k + 1) ≤ len + 63) := by show _ ≤ _; omega
      clear hq hBe hC hnE hk64
      go_wp2_with (first | refine wpList_load_row rfl 23 _ rfl w.heap.size rfl 23 _ (0, 0) _ hS.out.k Try.underlying23 rfl IK.out ?_ | refine wpList_load_row rfl 40 _ rfl (w.heap.size + 1) rfl 40 _ (0, 0) _ hS.out.n Try.underlying40 rfl IN.out ?_)
      refine (block_any key nonce C _ hk hn).mono ?_
      rintro e w1 ⟨rfl, hb1⟩
      rw [HBe.out]
      have hst := run_store_new64 w1 B hBl
      obtain ⟨W1', hW1'⟩ : ∃ W, w1.alloc (.cells (B.map bv).toArray 70) = W := ⟨_, rfl⟩
      have hb1' : Below wr.heap.size wr W1' := by rw [← hW1']; exact hb1.alloc hb1.size _
      have HX1 : Hid (W1'.heap[w1.heap.size]? = some (.cells (B.map bv).toArray 70 (0, 0))) := by rw [← hW1']; exact heap_alloc_new w1 _
      rw [hW1'] at hst
      have HS1 : Hid (SK w key nonce W1') := hS.out.later (hb1'.mono hS.out.size)
      have HO1 : Hid (W1'.ownsRow (w.heap.size + 1 + 1) 5 1 (.slice a' n c') n ((stm key ctr nonce (l.take n)).map bv)) := hO.out.kept (grown_below hb1') (by
        rcases h : Value.ownBlock (.slice a' n c') with _ | j
        · exact .inl rfl
        · exact .inr (by simp))
      clear hW1' hb1 hb1' hS hO
      go_wp2
      clear hst
      generalize w1.heap.size = xb at HX1 ⊢
      obtain ⟨W, hW⟩ : ∃ W, W1'.drew = W := ⟨_, rfl⟩
      have hgr : Below W1'.heap.size W1' W := by rw [← hW]; exact (Below.refl _ _).drew
      have HSW : Hid (SK w key nonce W) := HS1.out.later (hgr.mono HS1.out.size)
      have HOW : Hid (W.ownsRow (w.heap.size + 1 + 1) 5 1 (.slice a' n c') n ((stm key ctr nonce (l.take n)).map bv)) := HO1.out.kept (grown_below hgr) (by
        rcases h : Value.ownBlock (.slice a' n c') with _ | j
        · exact .inl rfl
        · exact .inr (by simp))
      have HXW : Hid (Byt W (some ⟨xb, 0, none⟩) 64 B) := byt_row 64 hBl (by rw [hgr.block _ (Array.getElem?_eq_some_iff.1 HX1.out).1]; exact HX1.out)
      have HBW : Hid (Byt W (some ⟨ba, offa + n, none⟩) (len - n) (l.drop n)) := by
        have := (HB.out.below hba HSW.out.bel).sub (n := n) (q := len) (by omega) (Nat.le_refl _)
        rwa [List.take_of_length_le (by simp; omega)] at this
      have hWe : Hid (W1'.drew = W) := hW
      clear hW hgr HS1 HO1 HX1
      refine wp_region_sched' (G := Rest (.slice a' n c')) (by kernel_rfl) (Rest.refl _) (Rest.trans _) (by kernel_rfl) [(0, true), (1, true), (2, true), (3, true), (4, true), (5, true), (6, false), (7, false), (8, true)] rfl (by kernel_rfl) ?_
      intro KK hKK
      rw [hWe.out]
      have hcn : ¬ cap = n := by omega
      iterate 6 (refine sched_take rfl (by rfl) (v := ?_) ?_ ?_; rotate_left; (intro w' hw'; clear hw'; go_simp; with_reducible rfl); go_simp)
      refine sched_call (f := 40) (args := #[.slice (some ⟨ba, offa + n, none⟩) (len - n) (cap - n), .slice (some ⟨xb, 0, none⟩) 64 64]) rfl (by rfl) (by go_simp) ?_
      refine (xor_any (some ⟨ba, offa + n, none⟩) (some ⟨xb, 0, none⟩) (len - n) (cap - n) 64 64 (l.drop n) B _ HBW.out HXW.out (by omega) (by omega)).mono ?_
      rintro e w2 ⟨g2, rfl, hg2, hb2, hB2⟩
      rw [hqm] at hB2 ⊢
      refine ⟨_, rfl, Rest.below _ hb2, ?_⟩
      have hS2 := HSW.out.later (hb2.mono HSW.out.size)
      have hO2 := HOW.out.kept (grown_below hb2) (by
        rcases h : Value.ownBlock (.slice a' n c') with _ | j
        · exact .inl rfl
        · exact .inr (by simp))
      obtain ⟨v3, w3, hap3, own3, hg3⟩ := append_bytes w2 (w.heap.size + 1 + 1) _ n _ hO2 ⟨g2, 0, none⟩ (q - n) (q - n) _ hB2 hS2.size (by omega)
      rw [← HST.out, show n + (q - n) = q by omega] at own3
      obtain ⟨a3, c3, rfl, _, _, _⟩ := own_out own3
      have HO3 : Hid (w3.ownsRow (w.heap.size + 1 + 1) 5 1 (.slice a3 q c3) q ((stm key ctr nonce (l.take q)).map bv)) := own3
      have HS3 : Hid (SK w key nonce w3) := hS2.later ((Below.refl _ _).grown hg3 hS2.size (fun j hj => (hO2.lt j hj).1))
      have HA3 : Hid ((Builtin.append_ #[24, 24] 24 #[.slice a' n c', .slice (some ⟨g2, 0, none⟩) (q - n) (q - n)]).run Try.prog w2 = .ok (.slice a3 q c3) w3) := hap3
      have HG3 : Hid (Rest (.slice a' n c') w2 w3) := hg3
      clear hap3 own3 hg3 hO2 hB2 hb2 hS2 HSW HOW HXW HBW
      go_simp
      refine sched_append (s := .tmp 23) (x := .tmp 29) (t := 24) rfl (by rfl) rfl rfl rfl HA3.out HG3.out ?_
      go_simp
      iterate 1 (refine sched_take rfl (by rfl) (v := ?_) ?_ ?_; rotate_left; (intro w' hw'; clear hw'; go_simp; with_reducible rfl); go_simp)
      refine sched_done hKK ?_
      go_wp2
      rw [HCt.out]
      exact ⟨⟨k + 1, q, a3, c3, HQ.out, HKQ.out, rfl, rfl, HO3, HS3⟩, by simp; omega⟩
    · have en : n = len := by omega
      have i1 : ¬ (n : Int) < (len : Int) := by omega
      have HF : Hid (l.take n = l) := List.take_of_length_le (by omega)
      rw [HF.out] at hO
      clear hnE hk64
      go_wp2
      go_ret
      exact ⟨_, rfl, hS.out.bel, by rw [← en]; exact own_lower hO.out (by omega)⟩
theorem stream_any (key nonce : List UInt8) (ctr : BitVec 32) (a : Option Addr) (len cap : Nat) (l : List UInt8) (w : World) (hk : key.length = 32) (hn : nonce.length = 12) (hB : Byt w a len l) (hlm : len ≤ 1000000) (hlc : len ≤ cap) (hcm : cap ≤ maxLen) :
    Calls Try.prog 22 #[.agg (key.map bv).toArray, .int .u32 (ctr.toNat : Int), .agg (nonce.map bv).toArray, .slice a len cap] w fun e w' => ∃ a' cap', e = .returned (.slice a' len cap') ∧ Below w.heap.size w w' ∧ Byt w' a' len (stm key ctr nonce l) ∧ len ≤ cap' ∧ cap' ≤ maxLen :=
  (stream_own key nonce ctr a len cap l w hk hn hB hlm hlc hcm).mono fun e w' h => by
    obtain ⟨v, rfl, hb, ho⟩ := h
    obtain ⟨a', cap', rfl, hB', h1, h2⟩ := own_out ho
    exact ⟨a', cap', rfl, hb, hB', h1, h2⟩
end Go.Proofs.Ytcnihgjibiidpaa
