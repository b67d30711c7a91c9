/- The walks over the document's filled, Tag and Seal. -/
import Derived.Test.YtdancpcnjklifaaDoorMathX
import Derived.Test.YtdancpcnjklifaaDoorRef1
import Derived.Test.YtdancpcnjklifaaDoorRefP
namespace Go.Proofs.YtdancpcnjklifaaDoor
set_option linter.unusedVariables false
set_option maxRecDepth 100000
open Go.RowKit

theorem pad_to (l : List UInt8) (j : Nat) : l ++ List.replicate (j + 1) 0 = l ++ List.replicate j 0 ++ [0] := by
  rw [List.append_assoc, List.replicate_succ']

set_option maxHeartbeats 400000 in
set_option maxRecDepth 100000 in
theorem refFilled_any (a : Option Addr) (len cap : Nat) (l : List UInt8) (w : World) (hB : Byt w a len l) (hnil : a = none → cap = 0) (hlm : len ≤ 10000) :
    Calls Tryd.prog 57 #[.slice a len cap] w fun e w' => ∃ v, e = .returned v ∧ Below w.heap.size w w' ∧ w'.ownsRow w.heap.size 5 1 v (len + padN len) ((pad16 l).map bv) := by
  have hl := hB.1
  have hal : Below w.heap.size w (w.alloc (.cells #[] 5)) := (Below.refl _ _).alloc (Nat.le_refl _) _
  obtain ⟨v1, w1, hap1, own1, hg1⟩ := append_own_any (w.alloc (.cells #[] 5)) w.heap.size (.slice (some ⟨w.heap.size, 0, none⟩) 0 0) 0 [] (World.ownsRow_made w #[] 0 (Nat.le_refl _) (Nat.zero_le _) rfl) a len cap l (hB.later hal) hnil (by simp) (by omega)
  have HW1 : Hid (Below w.heap.size w w1) := hal.grown hg1 (by simp) (fun k hk => by simp [Value.ownBlock] at hk; omega)
  rw [Nat.zero_add, List.nil_append] at own1
  obtain ⟨a1, c1, rfl, _, _, _, _⟩ := own_parts own1
  have HO1 : Hid (w1.ownsRow w.heap.size 5 1 (.slice a1 len c1) (len + 0) ((l ++ List.replicate 0 0).map bv)) := by show World.ownsRow _ _ _ _ _ _ _; simpa using own1
  have HA1 : Hid ((Builtin.append_ #[29, 29] 29 #[.slice (some ⟨w.heap.size, 0, none⟩) 0 0, .slice a len cap]).run Tryd.prog (w.alloc (.cells #[] 5)) = .ok (.slice a1 len c1) w1) := hap1
  clear hap1 own1 hg1 hal hB
  go_enter Tryd.func57, Tryd.ntmps57
  go_wp2_with (at_builtin; refine wpList_append_run rfl (.tmp 4) (.tmp 5) 29 rfl _ _ _ _ rfl rfl HA1.out ?_)
  clear HA1
  go_loopw [3] (fun v wr => ∃ (j n c : Nat) (a' : Option Addr), j ≤ padN len ∧ n = len + j ∧ v = .slice a' n c ∧ Hid (wr.ownsRow w.heap.size 5 1 (.slice a' n c) n ((l ++ List.replicate j 0).map bv)) ∧ Hid (Below w.heap.size w wr)) (fun v _ => match v with | .slice _ n _ => len + padN len - n | _ => 0)
  case atStart => exact ⟨0, len, c1, a1, Nat.zero_le _, rfl, rfl, HO1, HW1⟩
  case round =>
    clear HO1 HW1
    obtain ⟨j, n, c, a', hj, hn, rfl, hO, hW⟩ := hrel
    by_cases hlt : j < padN len
    · have hr : (n : Int).tmod 16 = ((n % 16 : Nat) : Int) := by rw [Int.tmod_eq_emod_of_nonneg (by omega)]; omega
      have hne : ¬ ((n % 16 : Nat) : Int) = 0 := by unfold padN at hlt; omega
      obtain ⟨r, hr2⟩ : ∃ r, n % 16 = r := ⟨_, rfl⟩
      rw [hr2] at hr hne
      have hr3 : (n : Int) % 16 = (r : Int) := by omega
      have hone : Byt (wr.alloc (.cells #[.int .u8 0] 5)) (some ⟨wr.heap.size, 0, none⟩) 1 [0] := byt_lit _ [0] wr.heap.size _ _ _ (heap_alloc_new wr _) rfl
      obtain ⟨v2, w2, hap2, own2, hg2⟩ := append_bytes (wr.alloc (.cells #[.int .u8 0] 5)) w.heap.size _ n _ (hO.out.alloc _) ⟨wr.heap.size, 0, none⟩ 1 1 [0] hone (by have := hW.out.size; simp; omega) (by unfold padN at hlt; omega)
      rw [← pad_to] at own2
      obtain ⟨a2, c2, rfl, _, _, _, _⟩ := own_parts own2
      have HA2 : Hid ((Builtin.append_ #[29, 29] 29 #[.slice a' n c, .slice (some ⟨wr.heap.size, 0, none⟩) 1 1]).run Tryd.prog (wr.alloc (.cells #[.int .u8 0] 5)) = .ok (.slice a2 (n + 1) c2) w2) := hap2
      have HO2 : Hid (w2.ownsRow w.heap.size 5 1 (.slice a2 (n + 1) c2) (n + 1) ((l ++ List.replicate (j + 1) 0).map bv)) := own2
      have HW2 : Hid (Below w.heap.size w w2) := (hW.out.alloc hW.out.size _).grown hg2 (by have := hW.out.size; simp; omega) (fun k hk => (hO.out.lt k hk).1)
      have HN : Hid (n + 1 = len + (j + 1)) := by show _ = _; omega
      have HM : Hid (len + padN len - (n + 1) < len + padN len - n) := by show _ < _; omega
      clear hap2 own2 hg2 hone hO hW hn hr2
      go_wp2_with (at_builtin; refine wpList_append_run rfl (.tmp 11) (.tmp 12) 29 rfl _ _ _ _ rfl rfl HA2.out ?_)
      exact ⟨⟨j + 1, n + 1, c2, a2, by omega, HN.out, rfl, HO2, HW2⟩, by simpa using HM.out⟩
    · have ej : j = padN len := by omega
      have hr3 : (n : Int) % 16 = 0 := by
        have := pad16_mod l
        rw [hl] at this
        omega
      have hr : (n : Int).tmod 16 = 0 := by rw [Int.tmod_eq_emod_of_nonneg (by omega)]; exact hr3
      have HO : Hid (wr.ownsRow w.heap.size 5 1 (.slice a' n c) (len + padN len) ((pad16 l).map bv)) := by
        have h1 := hO.out
        unfold pad16
        rw [hl, ← ej, ← hn]
        exact h1
      clear hn ej hO
      go_wp2
      go_ret
      exact ⟨_, rfl, hW.out, HO.out⟩

set_option maxHeartbeats 1000000 in
set_option maxRecDepth 100000 in
theorem refTag_any (kb koff nb noff kc nc : Nat) (key nonce : List UInt8) (a : Option Addr) (la ca : Nat) (ad : List UInt8) (c : Option Addr) (lc cc : Nat) (ct : List UInt8) (w : World) (hkc : 32 ≤ kc) (hnc : 12 ≤ nc) (hkm : kc ≤ 9223372036854775807) (hnm : nc ≤ 9223372036854775807)
    (hK : Byt w (some ⟨kb, koff, none⟩) 32 key) (hN : Byt w (some ⟨nb, noff, none⟩) 12 nonce) (hA : Byt w a la ad) (hAn : a = none → ca = 0) (hC : Byt w c lc ct) (hCn : c = none → cc = 0) (hla : la ≤ 1000) (hlc : lc ≤ 1000) :
    Calls Tryd.prog 41 #[.slice (some ⟨kb, koff, none⟩) 32 kc, .slice (some ⟨nb, noff, none⟩) 12 nc, .slice a la ca, .slice c lc cc] w fun e w' => ∃ g, e = .returned (.slice (some ⟨g, 0, none⟩) 16 16) ∧ w.heap.size ≤ g ∧ Below w.heap.size w w' ∧ Byt w' (some ⟨g, 0, none⟩) 16 (aeadTag key nonce ad ct) := by
  have hll := hA.1
  have hlt := hC.1
  have HK : Hid (Byt w (some ⟨kb, koff, none⟩) 32 key) := hK
  have HN : Hid (Byt w (some ⟨nb, noff, none⟩) 12 nonce) := hN
  have HA : Hid (Byt w a la ad) := hA
  have HC : Hid (Byt w c lc ct) := hC
  clear hK hN hA hC
  go_enter Tryd.func41, Tryd.ntmps41
  go_wp2_with fail
  refine (refFilled_any a la ca ad _ HA.out hAn (by omega)).mono ?_
  rintro e w1 ⟨v1, rfl, hb1, own1⟩
  have HO1 : Hid (w1.ownsRow w.heap.size 5 1 v1 (la + padN la) ((pad16 ad).map bv)) := own1
  have HW1 : Hid (Below w.heap.size w w1) := hb1
  clear own1 hb1
  go_wp2_with fail
  refine (refFilled_any c lc cc ct _ (HC.out.later HW1.out) hCn (by omega)).mono ?_
  rintro e w2 ⟨v2, rfl, hb2, own2⟩
  obtain ⟨a2, c2, rfl, hB2, _, _, hn2⟩ := own_parts own2
  have own1' := HO1.out.kept (grown_below hb2) (by
    rcases h : Value.ownBlock v1 with _ | j
    · exact .inl rfl
    · exact .inr (by simp))
  have bel2 : Below w.heap.size w w2 := HW1.out.trans (hb2.mono HW1.out.size)
  have hp1 : padN la < 16 := by unfold padN; omega
  have hp2 : padN lc < 16 := by unfold padN; omega
  obtain ⟨v3, w3, hap3, own3, hg3⟩ := append_own_any w2 w.heap.size v1 _ _ own1' a2 _ c2 _ hB2 hn2 bel2.size (by omega)
  obtain ⟨a3, c3, rfl, hB3, _, _, hn3⟩ := own_parts own3
  have HA3 : Hid (_) := hap3
  have HW3 : Hid (Below w.heap.size w w3) := bel2.grown hg3 bel2.size (fun k hk => (own1'.lt k hk).1)
  obtain ⟨m, hm⟩ : ∃ m, la + padN la + (lc + padN lc) = m := ⟨_, rfl⟩
  have hmb : m ≤ 2040 := by omega
  rw [hm] at hB3
  have HB3 : Hid (Byt w3 a3 m (pad16 ad ++ pad16 ct)) := hB3
  have Hn3 : Hid (a3 = none → c3 = 0) := hn3
  have hm' : Hid (la + padN la + (lc + padN lc) = m) := hm
  have Hll : Hid (ad.length = la) := hll
  have Hlt : Hid (ct.length = lc) := hlt
  clear hap3 own3 hg3 own1' bel2 own2 hB2 hb2 hB3 hn3 hn2 HO1 HW1 hp1 hp2 hll hlt
  go_wp2_with (at_builtin; refine wpList_append_run rfl (.tmp 11) (.tmp 13) 29 rfl _ _ _ _ rfl rfl HA3.out ?_)
  refine (refPut_seg a3 m c3 8 la (by omega) false _ _ (by omega) HB3.out Hn3.out 8 (by decide)).mono ?_
  rintro e w4 ⟨a4, c4, rfl, hb4, hs4, _⟩
  have hB4 := Byt.ofSeg hs4
  have hn4 : a4 = none → c4 = 0 := by
    intro e
    rcases hs4.2 with ⟨_, _, h0⟩ | ⟨_, _, _, h0, _⟩
    · exact h0
    · rw [e] at h0; cases h0
  have HB4 : Hid (Byt w4 a4 (m + 8) (pad16 ad ++ pad16 ct ++ leB 8 la)) := hB4
  have Hn4 : Hid (a4 = none → c4 = 0) := hn4
  have HW4 : Hid (Below w.heap.size w w4) := HW3.out.trans (hb4.mono HW3.out.size)
  clear hb4 hs4 hB4 hn4 HB3 Hn3 HW3 HA3
  go_wp2_with fail
  refine (refPut_seg a4 (m + 8) c4 8 lc (by omega) false _ _ (by omega) HB4.out Hn4.out 8 (by decide)).mono ?_
  rintro e w5 ⟨a5, c5, rfl, hb5, hs5, _⟩
  have hB5 := Byt.ofSeg hs5
  have hc5 : m + 8 + 8 ≤ c5 := by rcases hs5.2 with ⟨_, h0, _⟩ | ⟨_, _, _, _, _, _, h0, _⟩ <;> omega
  have HB5 : Hid (Byt w5 a5 (m + 8 + 8) (tagged ad ct)) := by
    unfold tagged
    rw [Hll.out, Hlt.out]
    exact hB5
  have HW5 : Hid (Below w.heap.size w w5) := HW4.out.trans (hb5.mono HW4.out.size)
  clear hb5 hs5 hB5 HB4 Hn4 HW4
  go_wp2_with fail
  refine (refBlock_cap kb koff nb noff kc nc key nonce 0#32 _ hkc hnc hkm hnm (HK.out.later HW5.out) (HN.out.later HW5.out)).mono ?_
  rintro e w6 ⟨a6, c6, rfl, hb6, hB6, hc6⟩
  obtain ⟨b6, o6, rfl, _⟩ := hB6.at_ 0 (by omega)
  have HB6 : Hid (Byt w6 (some ⟨b6, o6, none⟩) 32 ((blk key 0#32 nonce).take 32)) := hB6.cut (by omega)
  have HB5' : Hid (Byt w6 a5 (m + 8 + 8) (tagged ad ct)) := HB5.out.later hb6
  have HW6 : Hid (Below w.heap.size w w6) := HW5.out.trans (hb6.mono HW5.out.size)
  have hc6i : (32 : Int) ≤ (c6 : Int) := by omega
  clear hb6 hB6 HB5 HW5
  go_wp2_with fail
  refine (refSum_any b6 o6 c6 _ a5 (m + 8 + 8) c5 _ _ (by omega) HB6.out HB5'.out (by omega) hc5).mono ?_
  rintro e w7 ⟨g7, rfl, hg7, hb7, hB7⟩
  have HB7 : Hid (Byt w7 (some ⟨g7, 0, none⟩) 16 (aeadTag key nonce ad ct)) := hB7
  have HW7 : Hid (Below w.heap.size w w7) := HW6.out.trans (hb7.mono HW6.out.size)
  have hg7' : w.heap.size ≤ g7 := Nat.le_trans HW6.out.size hg7
  clear hB7 hb7 HB6 HB5' HW6
  go_wp2
  go_ret
  exact ⟨g7, rfl, hg7', HW7.out, HB7.out⟩

set_option maxHeartbeats 1000000 in
set_option maxRecDepth 100000 in
theorem refSeal_any (kb koff nb noff kc nc : Nat) (key nonce : List UInt8) (a : Option Addr) (la ca : Nat) (ad : List UInt8) (c : Option Addr) (lc cc : Nat) (b : List UInt8) (w : World) (hkc : 32 ≤ kc) (hnc : 12 ≤ nc) (hkm : kc ≤ 9223372036854775807) (hnm : nc ≤ 9223372036854775807)
    (hK : Byt w (some ⟨kb, koff, none⟩) 32 key) (hN : Byt w (some ⟨nb, noff, none⟩) 12 nonce) (hA : Byt w a la ad) (hAn : a = none → ca = 0) (hC : Byt w c lc b) (hla : la ≤ 1000) (hlc : lc ≤ 1000) (hcc : lc ≤ cc) (hcm : cc ≤ maxLen) :
    Calls Tryd.prog 25 #[.slice (some ⟨kb, koff, none⟩) 32 kc, .slice (some ⟨nb, noff, none⟩) 12 nc, .slice a la ca, .slice c lc cc] w fun e w' => ∃ v, e = .returned v ∧ Below w.heap.size w w' ∧ w'.ownsRow w.heap.size 5 1 v (lc + 16) ((sealB key nonce ad b).map bv) := by
  have HK : Hid (Byt w (some ⟨kb, koff, none⟩) 32 key) := hK
  have HN : Hid (Byt w (some ⟨nb, noff, none⟩) 12 nonce) := hN
  have HA : Hid (Byt w a la ad) := hA
  have HC : Hid (Byt w c lc b) := hC
  clear hK hN hA hC
  go_enter Tryd.func25, Tryd.ntmps25
  go_wp2_with fail
  refine (refStream_own kb koff nb noff kc nc key nonce 1#32 c lc cc b _ hkc hnc hkm hnm HK.out HN.out HC.out (by omega) hcc hcm).mono ?_
  rintro e w1 ⟨v1, rfl, hb1, own1⟩
  obtain ⟨a1, c1, rfl, hB1, _, _, hn1⟩ := own_parts own1
  have HO1 : Hid (w1.ownsRow w.heap.size 5 1 (.slice a1 lc c1) lc ((stm key 1#32 nonce b).map bv)) := own1
  have HB1 : Hid (Byt w1 a1 lc (stm key 1#32 nonce b)) := hB1
  have Hn1 : Hid (a1 = none → c1 = 0) := hn1
  have HW1 : Hid (Below w.heap.size w w1) := hb1
  clear own1 hb1 hB1 hn1
  go_wp2_with fail
  refine (refTag_any kb koff nb noff kc nc key nonce a la ca ad a1 lc c1 _ _ hkc hnc hkm hnm (HK.out.later HW1.out) (HN.out.later HW1.out) (HA.out.later HW1.out) hAn HB1.out Hn1.out hla hlc).mono ?_
  rintro e w2 ⟨g2, rfl, hg2, hb2, hB2⟩
  have own1' := HO1.out.kept (grown_below hb2) (by
    rcases h : Value.ownBlock (.slice a1 lc c1) with _ | j
    · exact .inl rfl
    · exact .inr (by simp))
  have bel2 : Below w.heap.size w w2 := HW1.out.trans (hb2.mono HW1.out.size)
  obtain ⟨v3, w3, hap3, own3, hg3⟩ := append_bytes w2 w.heap.size _ lc _ own1' ⟨g2, 0, none⟩ 16 16 _ hB2 bel2.size (by omega)
  have HA3 : Hid (_) := hap3
  have HO3 : Hid (w3.ownsRow w.heap.size 5 1 v3 (lc + 16) ((sealB key nonce ad b).map bv)) := own3
  have HW3 : Hid (Below w.heap.size w w3) := bel2.grown hg3 bel2.size (fun k hk => (own1'.lt k hk).1)
  clear hap3 own3 hg3 own1' bel2 hb2 hB2 HO1 HB1 Hn1 HW1
  go_wp2_with (at_builtin; refine wpList_append_run rfl (.tmp 14) (.tmp 19) 29 rfl _ _ _ _ rfl rfl HA3.out ?_)
  go_ret
  exact ⟨_, rfl, HW3.out, HO3.out⟩
end Go.Proofs.YtdancpcnjklifaaDoor
