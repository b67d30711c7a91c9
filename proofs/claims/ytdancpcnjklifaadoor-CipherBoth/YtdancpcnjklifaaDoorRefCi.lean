/- The walks over the document's Open (aead), and over its Nonce, and its Cipher's Seal, Open, Rekey (stage 9). -/
import Derived.Test.YtdancpcnjklifaaDoorMathX
import Derived.Test.YtdancpcnjklifaaDoorRefAe
import Derived.Test.YtdancpcnjklifaaDoorArrB
namespace Go.Proofs.YtdancpcnjklifaaDoor
set_option linter.unusedVariables false
set_option maxRecDepth 100000
open Go.RowKit

theorem ci_hid {p : Prop} (h : p) : Hid p := h
/-- 'make([]byte, n)', as a block of its own. -/
theorem make_zero (w : World) (n : Nat) (h : n ≤ 2000000) :
    (Instr.makeSlice 29 (.int .i64 (n : Int)) (.int .i64 (n : Int))).run Tryd.prog w = .ok (.slice (some ⟨w.heap.size, 0, none⟩) n n) (w.alloc (.cells ((List.replicate n (0 : UInt8)).map bv).toArray 5)) := by
  obtain ⟨i0, hi, hz0, hz1, hz2⟩ := info_parts Tryd.infoU8
  have hr := run_make (P := Tryd.prog) w 29 5 i0 (.int .u8 0) Tryd.underlying29 hi hz0 .i64 .i64 (n : Int) (n : Int) (by omega) (by omega) (by rw [hz2]; omega) (by omega)
  have e1 : ((n : Int)).toNat = n := by omega
  rw [e1, hz1, Nat.mul_one] at hr
  have e : (madeCells (Value.int .u8 0).cells n).toList = List.replicate n (.int .u8 0) := toList_madeCells_one _ _
  have e2 : madeCells (Value.int .u8 0).cells n = ((List.replicate n (0 : UInt8)).map bv).toArray := by
    rw [← Array.toList_inj, e]
    simp [bv]
  rw [e2] at hr
  exact hr

theorem byt_rest9 {w : World} {bc oc p : Nat} {b : List UInt8} (h : Byt w (some ⟨bc, oc, none⟩) (p + 16) b) : Byt w (some ⟨bc, oc + p, none⟩) 16 (b.drop p) := by
  have hl := h.1
  have := h.sub (n := p) (q := p + 16) (by omega) (by omega)
  rw [List.take_of_length_le (by simp; omega), Nat.add_sub_cancel_left] at this
  exact this
set_option maxHeartbeats 1000000 in
theorem refOpen_any (kb koff nb noff kc nc : Nat) (key nonce : List UInt8) (a : Option Addr) (la ca : Nat) (ad : List UInt8) (c : Option Addr) (lc cc : Nat) (b : List UInt8) (w : World) (hkc : 32 ≤ kc) (hnc : 12 ≤ nc) (hkm : kc ≤ 9223372036854775807) (hnm : nc ≤ 9223372036854775807)
    (hK : Byt w (some ⟨kb, koff, none⟩) 32 key) (hN : Byt w (some ⟨nb, noff, none⟩) 12 nonce) (hA : Byt w a la ad) (hAn : a = none → ca = 0) (hC : Byt w c lc b) (hla : la ≤ 1000) (hlc : lc ≤ 1000) (hcc : lc ≤ cc) (hcm : cc ≤ maxLen) :
    Calls Tryd.prog 29 #[.slice (some ⟨kb, koff, none⟩) 32 kc, .slice (some ⟨nb, noff, none⟩) 12 nc, .slice a la ca, .slice c lc cc] w fun e w' => ∃ v, e = .returned (.tuple #[v, .bool (sealedB key nonce ad b)]) ∧ Below w.heap.size w w' ∧ ∃ n, w'.ownsRow w.heap.size 5 1 v n ((if sealedB key nonce ad b = true then openB key nonce b else []).map bv) := by
  have hbl := hC.1
  have HK : Hid (Byt w (some ⟨kb, koff, none⟩) 32 key) := hK
  have HN : Hid (Byt w (some ⟨nb, noff, none⟩) 12 nonce) := hN
  have HA : Hid (Byt w a la ad) := hA
  have HC : Hid (Byt w c lc b) := hC
  have HO0 : Hid (∀ W : World, W.ownsRow w.heap.size 5 1 (.slice none 0 0) 0 (([] : List UInt8).map bv)) := fun W => ⟨rfl, .inl ⟨rfl, rfl⟩⟩
  obtain ⟨sb, hsb⟩ : ∃ sb, sealedB key nonce ad b = sb := ⟨_, rfl⟩
  have HSb : Hid (sealedB key nonce ad b = sb) := hsb
  rw [hsb]
  clear hK hN hA hC hsb
  by_cases h16 : 16 ≤ lc
  · obtain ⟨p, rfl⟩ : ∃ p, lc = p + 16 := ⟨lc - 16, by omega⟩
    have i1 : ((p + 16 : Nat) : Int) - 16 = (p : Int) := by omega
    have i2 : ¬ (p : Int) < 0 := by omega
    have i3 : decide ((p : Int) < 0) = false := decide_eq_false i2
    obtain ⟨bc, oc, rfl⟩ : ∃ bc oc, c = some ⟨bc, oc, none⟩ := by
      obtain ⟨b', o', e, _⟩ := HC.out.at_ 0 (by omega)
      exact ⟨b', o', e⟩
    have hbc := HC.out.lt (by omega)
    obtain ⟨T, hT⟩ : ∃ T, aeadTag key nonce ad (b.take p) = T := ⟨_, rfl⟩
    have hTl : T.length = 16 := by rw [← hT, aeadTag_length]
    have HTT : Hid (aeadTag key nonce ad (b.take p) = T) := hT
    obtain ⟨E, hE⟩ : ∃ E, b.drop p = E := ⟨_, rfl⟩
    have hEl : E.length = 16 := by rw [← hE, List.length_drop]; omega
    have HEE : Hid (b.drop p = E) := hE
    have HS : Hid (decide (E = T) = sb) := by
      show _ = _
      rw [← HSb.out]
      unfold sealedB
      rw [hbl, Nat.add_sub_cancel, hE, hT, decide_eq_true (show 16 ≤ p + 16 by omega), Bool.true_and]
    have hpc : (p : Int) ≤ (cc : Int) := by omega
    have hpc2 : ¬ (cc : Int) < (p : Int) := by omega
    have hcn : ¬ cc = p := by omega
    have hp16 : (p : Int) ≤ (p : Int) + 16 := by omega
    have hccm' : cc ≤ 9223372036854775807 := by unfold maxLen at hcm; exact hcm
    clear hT hE h16
    go_enter Tryd.func29, Tryd.ntmps29
    go_wp2
    obtain ⟨W, hW⟩ : ∃ W, w.drew = W := ⟨_, rfl⟩
    have hgr : Below w.heap.size w W := by rw [← hW]; exact (Below.refl _ _).drew
    have HWW : Hid (Below w.heap.size w W) := hgr
    have HEW : Hid (Byt W (some ⟨bc, oc + p, none⟩) 16 E) := by
      have := byt_rest9 (HC.out.below hbc HWW.out)
      rw [HEE.out] at this
      exact this
    have HCW : Hid (Byt W (some ⟨bc, oc, none⟩) p (b.take p)) := (HC.out.below hbc HWW.out).cut (by omega)
    have hWe : Hid (w.drew = W) := hW
    have hz1 : (S E).size = 16 := hEl
    have hz2 : (S T).size = 16 := hTl
    clear hW hgr
    refine wp_region_sched' (G := Grows) (by kernel_rfl) Grows.refl Grows.trans (by kernel_rfl) [(0, true), (1, true), (2, true), (3, true), (4, true), (5, true), (6, true), (7, true), (8, true), (9, true), (10, true), (11, true), (12, true), (13, false), (14, true), (15, true), (16, true)] rfl (by kernel_rfl) ?_
    intro KK hKK
    rw [hWe.out]
    iterate 13 (refine sched_take rfl (by rfl) (v := ?_) ?_ ?_; rotate_left; (intro w' hw'; have q1 := conv_bytes w' (some ⟨bc, oc + p, none⟩) 16 (cc - p) E (HEW.out.on hw'); clear hw'; go_simp; with_reducible rfl); go_simp)
    refine sched_call (f := 41) (args := #[.slice (some ⟨kb, koff, none⟩) 32 kc, .slice (some ⟨nb, noff, none⟩) 12 nc, .slice a la ca, .slice (some ⟨bc, oc, none⟩) p cc]) rfl (by rfl) (by go_simp) ?_
    refine (refTag_any kb koff nb noff kc nc key nonce a la ca ad (some ⟨bc, oc, none⟩) p cc (b.take p) W hkc hnc hkm hnm (HK.out.later HWW.out) (HN.out.later HWW.out) (HA.out.later HWW.out) hAn HCW.out (fun e => by cases e) hla (by omega)).mono ?_
    rintro e w2 ⟨g2, rfl, hg2, hb2, hB2⟩
    rw [HTT.out] at hB2
    refine ⟨_, rfl, hb2, ?_⟩
    have HT2 : Hid (Byt w2 (some ⟨g2, 0, none⟩) 16 T) := hB2
    have HW2 : Hid (Below w.heap.size w w2) := HWW.out.trans (hb2.mono HWW.out.size)
    clear hb2 hB2 HEW HCW HWW
    go_simp
    have hcmp := S_beq E T
    rw [HS.out] at hcmp
    iterate 3 (refine sched_take rfl (by rfl) (v := ?_) ?_ ?_; rotate_left; (intro w' hw'; have q2 := conv_bytes w' (some ⟨g2, 0, none⟩) 16 16 T (HT2.out.on hw'); clear hw'; go_simp; with_reducible rfl); go_simp)
    refine sched_done hKK ?_
    clear hKK
    cases sb with
    | false =>
      go_wp2
      go_ret2
      exact ⟨_, rfl, HW2.out, _, HO0.out _⟩
    | true =>
      go_wp2_with fail
      refine (refStream_own kb koff nb noff kc nc key nonce 1#32 (some ⟨bc, oc, none⟩) p cc (b.take p) w2 hkc hnc hkm hnm (HK.out.later HW2.out) (HN.out.later HW2.out) ((HC.out.below hbc HW2.out).cut (by omega)) (by omega) (by omega) hcm).mono ?_
      rintro e w3 ⟨v3, rfl, hb3, own3⟩
      have HO3 : Hid (w3.ownsRow w.heap.size 5 1 v3 p ((openB key nonce b).map bv)) := by
        have := own_lower own3 HW2.out.size
        unfold openB
        rw [hbl, Nat.add_sub_cancel]
        exact this
      have HW3 : Hid (Below w.heap.size w w3) := HW2.out.trans (hb3.mono HW2.out.size)
      clear own3 hb3 HT2
      go_wp2
      go_ret2
      exact ⟨_, rfl, HW3.out, _, HO3.out⟩
  · have hn : sb = false := by
      rw [← HSb.out]
      refine sealedB_no _ _ _ _ fun h => ?_
      have := h.1
      omega
    subst hn
    have i1 : (lc : Int) - 16 < 0 := by omega
    obtain ⟨q, hq⟩ : ∃ q : Int, (lc : Int) - 16 = q := ⟨_, rfl⟩
    have hq2 : -16 ≤ q := by omega
    rw [hq] at i1
    go_enter Tryd.func29, Tryd.ntmps29
    go_wp2
    obtain ⟨W, hW⟩ : ∃ W, w.drew = W := ⟨_, rfl⟩
    have hgr : Below w.heap.size w W := by rw [← hW]; exact (Below.refl _ _).drew
    have HWW : Hid (Below w.heap.size w W) := hgr
    have hWe : Hid (w.drew = W) := hW
    clear hW hgr
    refine wp_region_sched' (G := Grows) (by kernel_rfl) Grows.refl Grows.trans (by kernel_rfl) [(0, true), (1, true), (2, true), (3, true), (4, true), (5, true), (6, true), (7, true), (8, true), (9, true), (10, true), (11, true), (12, true), (13, false), (14, true), (15, true), (16, true)] rfl (by kernel_rfl) ?_
    intro KK hKK
    rw [hWe.out]
    iterate 3 (refine sched_take rfl (by rfl) (v := ?_) ?_ ?_; rotate_left; (intro w' hw'; clear hw'; go_simp; with_reducible rfl); go_simp)
    iterate 13 (refine sched_skip rfl (by rfl) ?_; go_simp)
    iterate 1 (refine sched_take rfl (by rfl) (v := ?_) ?_ ?_; rotate_left; (intro w' hw'; clear hw'; go_simp; with_reducible rfl); go_simp)
    refine sched_done hKK ?_
    clear hKK
    go_wp2
    go_ret2
    exact ⟨_, rfl, HWW.out, _, HO0.out _⟩

theorem putTo_eq (l : List UInt8) (n k : Nat) : putTo l 8 n false k = (l ++ (putB 8 n false).take k).map bv := rfl
set_option maxHeartbeats 1000000 in
/-- 'Put(l, 8, n, false)': whose memory it is. -/
theorem refPut_own8 (a : Option Addr) (len cap : Nat) (n : Nat) (hn : n < 18446744073709551616) (l : List UInt8) (w : World) (hm : len ≤ 10000) (hB : Byt w a len l) (hnil : a = none → cap = 0) :
    Calls Tryd.prog 42 #[.slice a len cap, .int .i64 8, .int .u64 (n : Int), .bool false] w fun e w' => ∃ v, e = .returned v ∧ Below w.heap.size w w' ∧ w'.ownsRow w.heap.size 5 1 v (len + 8) ((l ++ putB 8 n false).map bv) := by
  have hl := hB.1
  have hal : Below w.heap.size w (w.alloc (.cells #[] 5)) := (Below.refl _ _).alloc (Nat.le_refl _) _
  obtain ⟨v1, w1, hap1, own1, hg1⟩ := append_own_any (w.alloc (.cells #[] 5)) w.heap.size (.slice (some ⟨w.heap.size, 0, none⟩) 0 0) 0 [] (World.ownsRow_made w #[] 0 (Nat.le_refl _) (Nat.zero_le _) rfl) a len cap l (hB.later hal) hnil (by simp) (by omega)
  have HW1 : Hid (Below w.heap.size w w1) := hal.grown hg1 (by simp) (fun k hk => by simp [Value.ownBlock] at hk; omega)
  rw [Nat.zero_add, List.nil_append] at own1
  have HO1 : Hid (w1.ownsRow w.heap.size 5 1 v1 (len + 0) ((l ++ (putB 8 n false).take 0).map bv)) := by show World.ownsRow _ _ _ _ _ _ _; simpa using own1
  have HAP : Hid _ := hap1
  clear hap1 own1 hg1 hal hB
  go_enter Tryd.func42, Tryd.ntmps42
  go_wp2_with (at_builtin; refine wpList_append_run rfl (.tmp 14) (.tmp 15) 29 rfl _ _ _ _ rfl rfl HAP.out ?_)
  clear HAP
  go_loopw [9, 10] (fun v i wr => ∃ (k : Nat), k ≤ 8 ∧ i = .int .i64 k ∧ Hid (wr.ownsRow w.heap.size 5 1 v (len + k) ((l ++ (putB 8 n false).take k).map bv)) ∧ Hid (Below w.heap.size w wr)) (fun _ i _ => 8 - (intOf i).toNat)
  case atStart => exact ⟨0, Nat.zero_le _, rfl, HO1, HW1⟩
  case round =>
    clear HO1 HW1
    obtain ⟨k, hk, rfl, hO, hW⟩ := hrel
    by_cases hlt : k < 8
    · have hbyte := divs_byte 8 n false k k hlt (by simp [posI])
      go_wp2
      go_loop [12, 13] (fun x j => ∃ q : Nat, q ≤ k ∧ j = .int .i64 q ∧ x = .int .u64 (divs n q : Int)) (fun _ j => k - (intOf j).toNat)
      case atStart => exact ⟨0, Nat.zero_le _, rfl, by simp [divs]⟩
      case round =>
        obtain ⟨q, hq, rfl, rfl⟩ := hrel
        have hdv := divs_lt n q hn
        by_cases hqp : q < k
        · have HQ : Hid ((divs n (q + 1) : Int) = (divs n q : Int) / 256) := by show _ = _; rw [divs_succ]; simp
          go_wp2
          exact ⟨⟨q + 1, by omega, by go_num, by rw [HQ.out]⟩, by simp [intOf]; omega⟩
        · have hqe : k = q := by omega
          subst hqe
          obtain ⟨x, hx⟩ : ∃ x, at8 (putB 8 n false) k = x := ⟨_, rfl⟩
          rw [hx] at hbyte
          have hone : Byt (wr.alloc (.cells #[.int .u8 (x.toNat : Int)] 5)) (some ⟨wr.heap.size, 0, none⟩) 1 [x] := byt_lit _ [x] wr.heap.size _ _ _ (heap_alloc_new wr _) rfl
          obtain ⟨v2, w2, hap2, own2, hg2⟩ := append_bytes (wr.alloc (.cells #[.int .u8 (x.toNat : Int)] 5)) w.heap.size _ (len + k) _ (hO.out.alloc _) ⟨wr.heap.size, 0, none⟩ 1 1 [x] hone (by have := hW.out.size; simp; omega) (by omega)
          have HA3 : Hid _ := hap2
          have HO2 : Hid (w2.ownsRow w.heap.size 5 1 v2 (len + (k + 1)) ((l ++ (putB 8 n false).take (k + 1)).map bv)) := by
            show World.ownsRow _ _ _ _ _ _ _
            rw [take_at _ _ (by rw [putB_length]; exact hlt), hx, ← List.append_assoc]
            exact own2
          have HW2 : Hid (Below w.heap.size w w2) := (hW.out.alloc hW.out.size _).grown hg2 (by have := hW.out.size; simp; omega) (fun k hk => (hO.out.lt k hk).1)
          clear hap2 own2 hg2 hone hO hW hx
          go_wp2_with (at_builtin; refine wpList_append_run rfl (.tmp 39) (.tmp 43) 29 rfl _ _ _ _ rfl rfl HA3.out ?_)
          exact ⟨⟨k + 1, by omega, by go_num, HO2, HW2⟩, by simp [intOf]; omega⟩
    · have ek : k = 8 := by omega
      subst ek
      have HO : Hid (wr.ownsRow w.heap.size 5 1 u9 (len + 8) ((l ++ putB 8 n false).map bv)) := by
        have := hO.out
        rw [List.take_of_length_le (by rw [putB_length]; exact Nat.le_refl _)] at this
        exact this
      clear hO
      go_wp2
      go_ret
      exact ⟨_, rfl, hW.out, HO.out⟩
set_option maxHeartbeats 1000000 in
theorem refNonce_any (n : Nat) (hn : n < 18446744073709551616) (w : World) :
    Calls Tryd.prog 26 #[.int .u64 (n : Int)] w fun e w' => ∃ g c, e = .returned (.slice (some ⟨g, 0, none⟩) 12 c) ∧ Below w.heap.size w w' ∧ 12 ≤ c ∧ c ≤ 9223372036854775807 ∧ Byt w' (some ⟨g, 0, none⟩) 12 (nonceB n) := by
  have hmk : (Instr.makeSlice 29 (.int .i64 4) (.int .i64 4)).run Tryd.prog w = .ok (.slice (some ⟨w.heap.size, 0, none⟩) 4 4) (w.alloc (.cells ((List.replicate 4 (0 : UInt8)).map bv).toArray 5)) := make_zero w 4 (by omega)
  have hb1 : Below w.heap.size w (w.alloc (.cells ((List.replicate 4 (0 : UInt8)).map bv).toArray 5)) := (Below.refl _ _).alloc (Nat.le_refl _) _
  have hA1 : Arr (w.alloc (.cells ((List.replicate 4 (0 : UInt8)).map bv).toArray 5)) w.heap.size 5 (List.replicate 4 0) := Arr.new w _ _
  obtain ⟨W1, hW1⟩ : ∃ W, w.alloc (.cells ((List.replicate 4 (0 : UInt8)).map bv).toArray 5) = W := ⟨_, rfl⟩
  rw [hW1] at hmk hb1 hA1
  have HB1 := ci_hid hb1
  have HA1 := ci_hid hA1
  clear hW1 hb1 hA1
  go_enter Tryd.func26, Tryd.ntmps26
  go_wp2_with fail
  refine (refPut_own8 (some ⟨w.heap.size, 0, none⟩) 4 4 n hn (List.replicate 4 0) W1 (by omega) (HA1.out.byt 4 rfl) (fun e => by cases e)).mono ?_
  rintro e w2 ⟨v, rfl, hb2, own2⟩
  obtain ⟨g, c, rfl, hg, hs⟩ := own_slice own2 (by omega)
  obtain ⟨a', c', e', hB, hc1, hc2, _⟩ := own_parts own2
  cases e'
  have HB2 : Hid (Byt w2 (some ⟨g, 0, none⟩) 12 (nonceB n)) := hB
  have HW2 : Hid (Below w.heap.size w w2) := HB1.out.trans (hb2.mono HB1.out.size)
  have hc2' : c ≤ 9223372036854775807 := by unfold maxLen at hc2; omega
  clear own2 hs hB hb2 hmk
  go_wp2
  go_ret
  exact ⟨g, c, rfl, HW2.out, by omega, hc2', HB2.out⟩
end Go.Proofs.YtdancpcnjklifaaDoor
