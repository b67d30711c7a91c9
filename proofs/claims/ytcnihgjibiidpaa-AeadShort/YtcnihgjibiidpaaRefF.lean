/- The walk over the document's stream. -/
import Derived.Test.YtcnihgjibiidpaaRefE
namespace Go.Proofs.Ytcnihgjibiidpaa
set_option linter.unusedVariables false
open Go.RowKit
theorem ctr_val (ctr : BitVec 32) (k n : Nat) (h : 64 * k = n) : ((ctr.toNat : Int) + (n : Int) / 64) % 4294967296 = ((ctr + BitVec.ofNat 32 k).toNat : Int) := by
  rw [BitVec.toNat_add, BitVec.toNat_ofNat]
  omega

set_option maxHeartbeats 2000000 in
set_option maxRecDepth 100000 in
theorem refStream_own (kb koff nb noff kc nc : Nat) (key nonce : List UInt8) (ctr : BitVec 32) (a : Option Addr) (len cap : Nat) (l : List UInt8) (w : World) (hkc : 32 ≤ kc) (hnc : 12 ≤ nc) (hkm : kc ≤ 1000000) (hnm : nc ≤ 1000000)
    (hK : Byt w (some ⟨kb, koff, none⟩) 32 key) (hN : Byt w (some ⟨nb, noff, none⟩) 12 nonce) (hB : Byt w a len l) (hlm : len ≤ 2000) (hlc : len ≤ cap) (hcm : cap ≤ maxLen) :
    Calls Try.prog 37 #[.slice (some ⟨kb, koff, none⟩) 32 kc, .int .u32 (ctr.toNat : Int), .slice (some ⟨nb, noff, none⟩) 12 nc, .slice a len cap] w fun e w' => ∃ v, e = .returned v ∧ Below w.heap.size w w' ∧ w'.ownsRow w.heap.size 5 1 v len ((stm key ctr nonce l).map bv) := by
  have hkb := hK.lt (by omega)
  have hnb := hN.lt (by omega)
  have hl := hB.1
  have hcm : cap ≤ 9223372036854775807 := by unfold maxLen at hcm; exact hcm
  have HK : Hid (Byt w (some ⟨kb, koff, none⟩) 32 key) := hK
  have HN : Hid (Byt w (some ⟨nb, noff, none⟩) 12 nonce) := hN
  have HB : Hid (Byt w a len l) := hB
  clear hK hN hB
  go_enter Try.func37, Try.ntmps37
  go_wp2
  go_loopw [9, 10] (fun v i wr => ∃ k n : Nat, n = min (64 * k) len ∧ 64 * k ≤ len + 63 ∧ i = .int .i64 ((64 * k : Nat) : Int) ∧ Hid (wr.ownsRow w.heap.size 5 1 v n ((stm key ctr nonce (l.take n)).map bv)) ∧ Hid (Below w.heap.size w wr)) (fun _ i _ => 3000 - (intOf i).toNat)
  case atStart =>
    refine ⟨0, 0, by omega, by omega, rfl, ?_, (Below.refl _ _).alloc (Nat.le_refl _) _⟩
    exact World.ownsRow_made w #[] 0 (Nat.le_refl _) (Nat.zero_le _) rfl
  case round =>
    obtain ⟨k, n, hn, hk, rfl, hO, hW⟩ := hrel
    obtain ⟨p, hp⟩ : ∃ p, 64 * k = p := ⟨_, rfl⟩
    rw [hp] at hn hk ⊢
    by_cases hlt : p < len
    · have en : n = p := by omega
      subst en
      clear hn
      have i1 : (n : Int) < (len : Int) := by omega
      have HCt : Hid (((ctr.toNat : Int) + (n : Int) / 64) % 4294967296 = ((ctr + BitVec.ofNat 32 k).toNat : Int)) := ctr_val ctr k n hp
      obtain ⟨q, hq⟩ : ∃ q, q = min (n + 64) len := ⟨_, rfl⟩
      have hq1 : n < q := by omega
      have hq2 : q ≤ len := by omega
      have hq3 : q - n ≤ 64 := by omega
      have hmin : (if (len : Int) < (n : Int) + 64 then (len : Int) else (n : Int) + 64) = (q : Int) := by split <;> omega
      have HST : Hid (stm key ctr nonce (l.take q) = stm key ctr nonce (l.take n) ++ xorB ((l.drop n).take (q - n)) (blk key (ctr + BitVec.ofNat 32 k) nonce)) := by
        have e := stm_step key ctr nonce l k (by omega)
        rw [hp, hl, ← hq, show min 64 (len - n) = q - n by omega, stm_one key (ctr + BitVec.ofNat 32 k) nonce ((l.drop n).take (q - n)) (by simp; omega)] at e
        exact e
      have HQ : Hid (q = min (64 * (k + 1)) len) := by show _ = _; omega
      clear hq
      obtain ⟨ba, offa, rfl⟩ : ∃ ba offa, a = some ⟨ba, offa, none⟩ := by
        rcases HB.out.2 with h0 | ⟨b', off', e, _⟩
        · omega
        · exact ⟨b', off', e⟩
      have hba := HB.out.lt (by omega)
      have i2 : (n : Int) ≤ (q : Int) := by omega
      have i3 : (q : Int) ≤ (cap : Int) := by omega
      go_wp2_with fail
      rw [HCt.out]
      refine (refBlock_any kb koff nb noff kc nc key nonce (ctr + BitVec.ofNat 32 k) _ hkc hnc hkm hnm (HK.out.below hkb hW.out) (HN.out.below hnb hW.out)).mono ?_
      rintro e w1 ⟨a1, c1, rfl, hb1, hB1⟩
      have HB1 : Hid (Byt w1 a1 64 (blk key (ctr + BitVec.ofNat 32 k) nonce)) := hB1
      have hW1 : Hid (Below w.heap.size w w1) := hW.out.trans (hb1.mono hW.out.size)
      clear hB1
      go_wp2_with fail
      refine (refXor_any (some ⟨ba, offa + n, none⟩) a1 (q - n) (cap - n) 64 c1 _ _ _ ((HB.out.below hba hW1.out).sub (by omega) hq2) HB1.out (by omega) (by omega)).mono ?_
      rintro e w2 ⟨a2, c2, rfl, hb2, hB2⟩
      rw [Nat.min_eq_left hq3] at hB2
      obtain ⟨b2, o2, rfl⟩ : ∃ b2 o2, a2 = some ⟨b2, o2, none⟩ := by
        rcases hB2.2 with h0 | ⟨b', off', e, _⟩
        · omega
        · exact ⟨b', off', e⟩
      have hW2 : Hid (Below w.heap.size w w2) := hW1.out.trans (hb2.mono hW1.out.size)
      have hO2 := (hO.out.kept (grown_below hb1) (by
        rcases h : Value.ownBlock u9 with _ | j
        · exact .inl rfl
        · exact .inr (by simp))).kept (grown_below hb2) (by
        rcases h : Value.ownBlock u9 with _ | j
        · exact .inl rfl
        · exact .inr (by simp))
      obtain ⟨v3, w3, hap3, own3, hg3⟩ := append_bytes w2 w.heap.size _ n _ hO2 ⟨b2, o2, none⟩ (q - n) c2 _ hB2 hW2.out.size (by omega)
      rw [← HST.out, show n + (q - n) = q by omega] at own3
      have HO3 : Hid (w3.ownsRow w.heap.size 5 1 v3 q ((stm key ctr nonce (l.take q)).map bv)) := own3
      have hW3 : Hid (Below w.heap.size w w3) := hW2.out.grown hg3 hW2.out.size (fun j hj => (hO2.lt j hj).1)
      have HA3 : Hid (_) := hap3
      clear hap3 own3 hg3 hO2 hB2 hb2 hb1
      rw [Nat.min_eq_left hq3]
      go_wp2_with (at_builtin; refine wpList_append_run rfl (.tmp 27) (.tmp 37) 24 rfl _ _ _ _ rfl rfl HA3.out ?_)
      exact ⟨⟨k + 1, q, HQ.out, by omega, by go_num, HO3, hW3⟩, by simp [intOf]; omega⟩
    · have en : n = len := by omega
      subst en
      clear hn
      have i1 : ¬ (p : Int) < (n : Int) := by omega
      have HF : Hid (l.take n = l) := List.take_of_length_le (by omega)
      rw [HF.out] at hO
      go_wp2
      go_ret
      exact ⟨_, rfl, hW.out, hO.out⟩
theorem refStream_any (kb koff nb noff kc nc : Nat) (key nonce : List UInt8) (ctr : BitVec 32) (a : Option Addr) (len cap : Nat) (l : List UInt8) (w : World) (hkc : 32 ≤ kc) (hnc : 12 ≤ nc) (hkm : kc ≤ 1000000) (hnm : nc ≤ 1000000)
    (hK : Byt w (some ⟨kb, koff, none⟩) 32 key) (hN : Byt w (some ⟨nb, noff, none⟩) 12 nonce) (hB : Byt w a len l) (hlm : len ≤ 2000) (hlc : len ≤ cap) (hcm : cap ≤ maxLen) :
    Calls Try.prog 37 #[.slice (some ⟨kb, koff, none⟩) 32 kc, .int .u32 (ctr.toNat : Int), .slice (some ⟨nb, noff, none⟩) 12 nc, .slice a len cap] w fun e w' => ∃ a' cap', e = .returned (.slice a' len cap') ∧ Below w.heap.size w w' ∧ Byt w' a' len (stm key ctr nonce l) :=
  (refStream_own kb koff nb noff kc nc key nonce ctr a len cap l w hkc hnc hkm hnm hK hN hB hlm hlc hcm).mono fun e w' h => by
    obtain ⟨v, rfl, hb, ho⟩ := h
    obtain ⟨a', cap', rfl, hs, _⟩ := Seg.ofOwn' ho
    exact ⟨a', cap', rfl, hb, Byt.ofSeg hs⟩
end Go.Proofs.Ytcnihgjibiidpaa
