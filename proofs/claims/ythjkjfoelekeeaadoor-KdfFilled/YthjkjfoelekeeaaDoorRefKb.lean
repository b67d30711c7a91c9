/- The walk over the document's Mac (kdf). -/
import Derived.Test.YthjkjfoelekeeaaDoorRefK
namespace Go.Proofs.YthjkjfoelekeeaaDoor
set_option linter.unusedVariables false
open Go.RowKit

theorem KP.later {w W W' : World} {a : Option Addr} {n cap : Nat} {l : List UInt8} (t : KP w a n cap l W) (hb : Below W.heap.size W W') : KP w a n cap l W' :=
  ⟨t.seg.later hb, t.isnew, t.bel.trans (hb.mono t.bel.size)⟩
set_option maxHeartbeats 2000000 in
set_option maxRecDepth 100000 in
theorem refMac_any (a : Option Addr) (klen kcap : Nat) (key : List UInt8) (b : Option Addr) (blen bcap : Nat) (bl : List UInt8) (w : World) (hK : Byt w a klen key) (hknil : a = none → kcap = 0) (hkm : klen ≤ 5000) (hkc : klen ≤ kcap) (hB : Byt w b blen bl) (hbnil : b = none → bcap = 0) (hbm : blen ≤ 5000) (hbc : blen ≤ bcap) :
    Calls Tryd.prog 10 #[.slice a klen kcap, .slice b blen bcap] w fun e w' => ∃ a' cap', e = .returned (.slice a' 32 cap') ∧ Below w.heap.size w w' ∧ Seg w' 5 a' 32 cap' ((macB key bl).map bv) ∧ ∀ j, blockOf a' = some j → w.heap.size ≤ j := by
  have hkl := hK.1
  have HB : Hid (Byt w b blen bl) := hB
  obtain ⟨a2, cap2, w2, hap, hs2, hb2, hbl2⟩ := append_all w a klen kcap key hK hknil (by omega)
  have HP2 : Hid (KP w a2 klen cap2 key w2) := ⟨hs2, hbl2, hb2⟩
  have HA2 : Hid ((Builtin.append_ #[22, 22] 22 #[.slice (some ⟨w.heap.size, 0, none⟩) 0 0, .slice a klen kcap]).run Tryd.prog (w.alloc (.cells #[] 5)) = .ok (.slice a2 klen cap2) w2) := hap
  clear hap hs2 hb2 hbl2 hK hB
  have hks := kshort_length key
  by_cases hlong : 64 < klen
  · have hli : (64 : Int) < (klen : Int) := by omega
    have eks : kshort key = blakeB key := by unfold kshort; rw [if_pos (by omega)]
    have hkl32 : (kshort key).length = 32 := by rw [eks, blakeB_length]
    have hnil2 : a2 = none → cap2 = 0 := fun e => by
      rcases HP2.out.seg.2 with ⟨_, h0, _⟩ | ⟨_, _, _, e2, _⟩
      · omega
      · rw [e] at e2; cases e2
    go_enter Tryd.func10, Tryd.ntmps10
    go_wp2_with (at_builtin; refine wpList_append_run rfl (.tmp 7) (.tmp 8) 22 rfl _ _ _ _ rfl rfl HA2.out ?_)
    clear HA2
    refine (refSumB_any a2 klen cap2 key w2 (Byt.ofSeg HP2.out.seg) hnil2 (by omega) HP2.out.seg.cap_le).mono ?_
    rintro e w3 ⟨a3, c3, rfl, hb3, hs3, hk3⟩
    have HK0 : Hid (KP w a3 32 c3 (kshort key ++ List.replicate (32 - (kshort key).length) 0) w3) := by
      rw [hkl32, Nat.sub_self, List.replicate_zero, List.append_nil, eks]
      exact ⟨hs3, fun j hj => Nat.le_trans HP2.out.bel.size (hk3 j hj), HP2.out.bel.trans (hb3.mono HP2.out.bel.size)⟩
    clear hb3 hs3 hk3 HP2 eks
    go_wp2
    go_loopw [5] (fun v wr => ∃ (n : Nat) (a' : Option Addr) (c' : Nat), v = .slice a' n c' ∧ (kshort key).length ≤ n ∧ n ≤ 64 ∧ Hid (KP w a' n c' (kshort key ++ List.replicate (n - (kshort key).length) 0) wr)) (fun v _ => 64 - lenOf v)
    case atStart => exact ⟨_, _, _, rfl, by omega, by omega, HK0⟩
    case round =>
      clear HK0
      obtain ⟨n, a3, c3, rfl, hn1, hn2, hP⟩ := hrel
      by_cases hn : n < 64
      · have hni : (n : Int) < 64 := by omega
        obtain ⟨a4, c4, w4, hap4, hP4⟩ := hP.out.app (by omega)
        have HP4 : Hid (KP w a4 (n + 1) c4 (kshort key ++ List.replicate (n + 1 - (kshort key).length) 0) w4) := by
          have e : kshort key ++ List.replicate (n + 1 - (kshort key).length) 0 = kshort key ++ List.replicate (n - (kshort key).length) 0 ++ [0] := by
            rw [show n + 1 - (kshort key).length = (n - (kshort key).length) + 1 by omega, List.replicate_succ', List.append_assoc]
          rw [e]; exact hP4
        have HA4 : Hid _ := hap4
        clear hap4 hP4 hP
        go_wp2_with (at_builtin; refine wpList_append_run rfl (.tmp 18) (.tmp 19) 22 rfl _ _ _ _ rfl rfl HA4.out ?_)
        exact ⟨⟨n + 1, a4, c4, rfl, by omega, by omega, HP4⟩, by show 64 - (n + 1) < 64 - n; omega⟩
      · have e64 : n = 64 := by omega
        have hni : ¬ (n : Int) < 64 := by omega
        have hP' : KP w a3 64 c3 (kpad key) wr := by
          have := hP.out
          rw [e64] at this
          exact this
        subst e64
        have HP : Hid (KP w a3 64 c3 (kpad key) wr) := hP'
        clear hP hP'
        have HBr : Hid (Byt wr b blen bl) := HB.out.later HP.out.bel
        go_wp2_with fail
        refine (refAll_any 0x36 wr).mono ?_
        rintro e w5 ⟨v5, rfl, hb5, ho5⟩
        obtain ⟨a5, c5, rfl, hB5, hnc5, hcm5, hnil5⟩ := own_parts ho5
        have HP5 : Hid (KP w a3 64 c3 (kpad key) w5) := HP.out.later hb5
        have HB5 : Hid (Byt w5 a5 64 (allB 0x36)) := hB5
        have HBb5 : Hid (Byt w5 b blen bl) := HBr.out.later hb5
        clear hb5 ho5 hB5 HP HBr
        go_wp2_with fail
        refine (refXor_own a3 a5 64 c3 64 c5 (kpad key) (allB 0x36) w5 (Byt.ofSeg HP5.out.seg) HB5.out (by omega) (by omega)).mono ?_
        rintro e w6 ⟨v6, rfl, hb6, ho6⟩
        obtain ⟨v7, w7, hap7, ho7, hg7⟩ := append_own_any w6 w5.heap.size v6 (min 64 64) _ ho6 b blen bcap bl (HBb5.out.later hb6) hbnil (by have := hb6.size; omega) (by omega)
        obtain ⟨a7, c7, rfl, hB7, hnc7, hcm7, hnil7⟩ := own_parts ho7
        have hbel7 : Below w5.heap.size w5 w7 := hb6.grown hg7 hb6.size (fun k hk => (ho6.lt k hk).1)
        have HP7 : Hid (KP w a3 64 c3 (kpad key) w7) := HP5.out.later hbel7
        have HB7 : Hid (Byt w7 a7 (64 + blen) (kin key bl)) := hB7
        have HBb7 : Hid (Byt w7 b blen bl) := HBb5.out.later hbel7
        have HA7 : Hid ((Builtin.append_ #[22, 22] 22 #[v6, .slice b blen bcap]).run Tryd.prog w6 = .ok (.slice a7 (64 + blen) c7) w7) := hap7
        clear hap7 ho7 hg7 hB7 hbel7 hb6 ho6 HP5 HB5 HBb5
        go_wp2_with (at_builtin; refine wpList_append_run rfl (.tmp 23) (.tmp 24) 22 rfl _ _ _ _ rfl rfl HA7.out ?_)
        clear HA7
        refine (refSumB_any a7 (64 + blen) c7 (kin key bl) w7 HB7.out hnil7 (by omega) hnc7).mono ?_
        rintro e w8 ⟨a8, c8, rfl, hb8, hs8, hk8⟩
        have HP8 : Hid (KP w a3 64 c3 (kpad key) w8) := HP7.out.later hb8
        have HS8 : Hid (Seg w8 5 a8 32 c8 ((blakeB (kin key bl)).map bv)) := hs8
        clear hb8 hs8 hk8 HP7 HB7 HBb7
        go_wp2_with fail
        refine (refAll_any 0x5c w8).mono ?_
        rintro e w9 ⟨v9, rfl, hb9, ho9⟩
        obtain ⟨a9, c9, rfl, hB9, hnc9, hcm9, hnil9⟩ := own_parts ho9
        have HP9 : Hid (KP w a3 64 c3 (kpad key) w9) := HP8.out.later hb9
        have HB9 : Hid (Byt w9 a9 64 (allB 0x5c)) := hB9
        have HS9 : Hid (Seg w9 5 a8 32 c8 ((blakeB (kin key bl)).map bv)) := HS8.out.later hb9
        clear hb9 ho9 hB9 HP8 HS8
        go_wp2_with fail
        refine (refXor_own a3 a9 64 c3 64 c9 (kpad key) (allB 0x5c) w9 (Byt.ofSeg HP9.out.seg) HB9.out (by omega) (by omega)).mono ?_
        rintro e w10 ⟨v10, rfl, hb10, ho10⟩
        have hnil8 : a8 = none → c8 = 0 := fun e => by
          rcases HS9.out.2 with ⟨_, h0, _⟩ | ⟨_, _, _, e2, _⟩
          · omega
          · rw [e] at e2; cases e2
        obtain ⟨v11, w11, hap11, ho11, hg11⟩ := append_own_any w10 w9.heap.size v10 (min 64 64) _ ho10 a8 32 c8 (blakeB (kin key bl)) (Byt.ofSeg (HS9.out.later hb10)) hnil8 (by have := hb10.size; omega) (by omega)
        obtain ⟨a11, c11, rfl, hB11, hnc11, hcm11, hnil11⟩ := own_parts ho11
        have hbel11 : Below w9.heap.size w9 w11 := hb10.grown hg11 hb10.size (fun k hk => (ho10.lt k hk).1)
        have HW11 : Hid (Below w.heap.size w w11) := (HP9.out.later hbel11).bel
        have HB11 : Hid (Byt w11 a11 96 (kout key bl)) := hB11
        have HA11 : Hid ((Builtin.append_ #[22, 22] 22 #[v10, .slice a8 32 c8]).run Tryd.prog w10 = .ok (.slice a11 96 c11) w11) := hap11
        clear hap11 ho11 hg11 hB11 hbel11 hb10 ho10 HP9 HB9 HS9
        go_wp2_with (at_builtin; refine wpList_append_run rfl (.tmp 29) (.tmp 30) 22 rfl _ _ _ _ rfl rfl HA11.out ?_)
        clear HA11
        refine (refSumB_any a11 96 c11 (kout key bl) w11 HB11.out hnil11 (by omega) hnc11).mono ?_
        rintro e w12 ⟨a12, c12, rfl, hb12, hs12, hk12⟩
        have HS12 : Hid (Seg w12 5 a12 32 c12 ((macB key bl).map bv)) := hs12
        have HW12 : Hid (Below w.heap.size w w12) := HW11.out.trans (hb12.mono HW11.out.size)
        have HK12 : Hid (∀ j, blockOf a12 = some j → w.heap.size ≤ j) := fun j hj => Nat.le_trans HW11.out.size (hk12 j hj)
        clear hb12 hs12 hk12 HW11 HB11
        go_wp2
        go_ret
        exact ⟨a12, c12, rfl, HW12.out, HS12.out, HK12.out⟩
  · have hli : ¬ (64 : Int) < (klen : Int) := by omega
    have eks : kshort key = key := by unfold kshort; rw [if_neg (by omega)]
    have hkl32 : (kshort key).length = klen := by rw [eks, hkl]
    go_enter Tryd.func10, Tryd.ntmps10
    have HK0 : Hid (KP w a2 klen cap2 (kshort key ++ List.replicate (klen - (kshort key).length) 0) w2) := by
      rw [hkl32, Nat.sub_self, List.replicate_zero, List.append_nil, eks]
      exact HP2
    clear HP2 eks
    go_wp2_with (at_builtin; refine wpList_append_run rfl (.tmp 7) (.tmp 8) 22 rfl _ _ _ _ rfl rfl HA2.out ?_)
    clear HA2
    go_loopw [5] (fun v wr => ∃ (n : Nat) (a' : Option Addr) (c' : Nat), v = .slice a' n c' ∧ (kshort key).length ≤ n ∧ n ≤ 64 ∧ Hid (KP w a' n c' (kshort key ++ List.replicate (n - (kshort key).length) 0) wr)) (fun v _ => 64 - lenOf v)
    case atStart => exact ⟨_, _, _, rfl, by omega, by omega, HK0⟩
    case round =>
      clear HK0
      obtain ⟨n, a3, c3, rfl, hn1, hn2, hP⟩ := hrel
      by_cases hn : n < 64
      · have hni : (n : Int) < 64 := by omega
        obtain ⟨a4, c4, w4, hap4, hP4⟩ := hP.out.app (by omega)
        have HP4 : Hid (KP w a4 (n + 1) c4 (kshort key ++ List.replicate (n + 1 - (kshort key).length) 0) w4) := by
          have e : kshort key ++ List.replicate (n + 1 - (kshort key).length) 0 = kshort key ++ List.replicate (n - (kshort key).length) 0 ++ [0] := by
            rw [show n + 1 - (kshort key).length = (n - (kshort key).length) + 1 by omega, List.replicate_succ', List.append_assoc]
          rw [e]; exact hP4
        have HA4 : Hid _ := hap4
        clear hap4 hP4 hP
        go_wp2_with (at_builtin; refine wpList_append_run rfl (.tmp 18) (.tmp 19) 22 rfl _ _ _ _ rfl rfl HA4.out ?_)
        exact ⟨⟨n + 1, a4, c4, rfl, by omega, by omega, HP4⟩, by show 64 - (n + 1) < 64 - n; omega⟩
      · have e64 : n = 64 := by omega
        have hni : ¬ (n : Int) < 64 := by omega
        have hP' : KP w a3 64 c3 (kpad key) wr := by
          have := hP.out
          rw [e64] at this
          exact this
        subst e64
        have HP : Hid (KP w a3 64 c3 (kpad key) wr) := hP'
        clear hP hP'
        have HBr : Hid (Byt wr b blen bl) := HB.out.later HP.out.bel
        go_wp2_with fail
        refine (refAll_any 0x36 wr).mono ?_
        rintro e w5 ⟨v5, rfl, hb5, ho5⟩
        obtain ⟨a5, c5, rfl, hB5, hnc5, hcm5, hnil5⟩ := own_parts ho5
        have HP5 : Hid (KP w a3 64 c3 (kpad key) w5) := HP.out.later hb5
        have HB5 : Hid (Byt w5 a5 64 (allB 0x36)) := hB5
        have HBb5 : Hid (Byt w5 b blen bl) := HBr.out.later hb5
        clear hb5 ho5 hB5 HP HBr
        go_wp2_with fail
        refine (refXor_own a3 a5 64 c3 64 c5 (kpad key) (allB 0x36) w5 (Byt.ofSeg HP5.out.seg) HB5.out (by omega) (by omega)).mono ?_
        rintro e w6 ⟨v6, rfl, hb6, ho6⟩
        obtain ⟨v7, w7, hap7, ho7, hg7⟩ := append_own_any w6 w5.heap.size v6 (min 64 64) _ ho6 b blen bcap bl (HBb5.out.later hb6) hbnil (by have := hb6.size; omega) (by omega)
        obtain ⟨a7, c7, rfl, hB7, hnc7, hcm7, hnil7⟩ := own_parts ho7
        have hbel7 : Below w5.heap.size w5 w7 := hb6.grown hg7 hb6.size (fun k hk => (ho6.lt k hk).1)
        have HP7 : Hid (KP w a3 64 c3 (kpad key) w7) := HP5.out.later hbel7
        have HB7 : Hid (Byt w7 a7 (64 + blen) (kin key bl)) := hB7
        have HBb7 : Hid (Byt w7 b blen bl) := HBb5.out.later hbel7
        have HA7 : Hid ((Builtin.append_ #[22, 22] 22 #[v6, .slice b blen bcap]).run Tryd.prog w6 = .ok (.slice a7 (64 + blen) c7) w7) := hap7
        clear hap7 ho7 hg7 hB7 hbel7 hb6 ho6 HP5 HB5 HBb5
        go_wp2_with (at_builtin; refine wpList_append_run rfl (.tmp 23) (.tmp 24) 22 rfl _ _ _ _ rfl rfl HA7.out ?_)
        clear HA7
        refine (refSumB_any a7 (64 + blen) c7 (kin key bl) w7 HB7.out hnil7 (by omega) hnc7).mono ?_
        rintro e w8 ⟨a8, c8, rfl, hb8, hs8, hk8⟩
        have HP8 : Hid (KP w a3 64 c3 (kpad key) w8) := HP7.out.later hb8
        have HS8 : Hid (Seg w8 5 a8 32 c8 ((blakeB (kin key bl)).map bv)) := hs8
        clear hb8 hs8 hk8 HP7 HB7 HBb7
        go_wp2_with fail
        refine (refAll_any 0x5c w8).mono ?_
        rintro e w9 ⟨v9, rfl, hb9, ho9⟩
        obtain ⟨a9, c9, rfl, hB9, hnc9, hcm9, hnil9⟩ := own_parts ho9
        have HP9 : Hid (KP w a3 64 c3 (kpad key) w9) := HP8.out.later hb9
        have HB9 : Hid (Byt w9 a9 64 (allB 0x5c)) := hB9
        have HS9 : Hid (Seg w9 5 a8 32 c8 ((blakeB (kin key bl)).map bv)) := HS8.out.later hb9
        clear hb9 ho9 hB9 HP8 HS8
        go_wp2_with fail
        refine (refXor_own a3 a9 64 c3 64 c9 (kpad key) (allB 0x5c) w9 (Byt.ofSeg HP9.out.seg) HB9.out (by omega) (by omega)).mono ?_
        rintro e w10 ⟨v10, rfl, hb10, ho10⟩
        have hnil8 : a8 = none → c8 = 0 := fun e => by
          rcases HS9.out.2 with ⟨_, h0, _⟩ | ⟨_, _, _, e2, _⟩
          · omega
          · rw [e] at e2; cases e2
        obtain ⟨v11, w11, hap11, ho11, hg11⟩ := append_own_any w10 w9.heap.size v10 (min 64 64) _ ho10 a8 32 c8 (blakeB (kin key bl)) (Byt.ofSeg (HS9.out.later hb10)) hnil8 (by have := hb10.size; omega) (by omega)
        obtain ⟨a11, c11, rfl, hB11, hnc11, hcm11, hnil11⟩ := own_parts ho11
        have hbel11 : Below w9.heap.size w9 w11 := hb10.grown hg11 hb10.size (fun k hk => (ho10.lt k hk).1)
        have HW11 : Hid (Below w.heap.size w w11) := (HP9.out.later hbel11).bel
        have HB11 : Hid (Byt w11 a11 96 (kout key bl)) := hB11
        have HA11 : Hid ((Builtin.append_ #[22, 22] 22 #[v10, .slice a8 32 c8]).run Tryd.prog w10 = .ok (.slice a11 96 c11) w11) := hap11
        clear hap11 ho11 hg11 hB11 hbel11 hb10 ho10 HP9 HB9 HS9
        go_wp2_with (at_builtin; refine wpList_append_run rfl (.tmp 29) (.tmp 30) 22 rfl _ _ _ _ rfl rfl HA11.out ?_)
        clear HA11
        refine (refSumB_any a11 96 c11 (kout key bl) w11 HB11.out hnil11 (by omega) hnc11).mono ?_
        rintro e w12 ⟨a12, c12, rfl, hb12, hs12, hk12⟩
        have HS12 : Hid (Seg w12 5 a12 32 c12 ((macB key bl).map bv)) := hs12
        have HW12 : Hid (Below w.heap.size w w12) := HW11.out.trans (hb12.mono HW11.out.size)
        have HK12 : Hid (∀ j, blockOf a12 = some j → w.heap.size ≤ j) := fun j hj => Nat.le_trans HW11.out.size (hk12 j hj)
        clear hb12 hs12 hk12 HW11 HB11
        go_wp2
        go_ret
        exact ⟨a12, c12, rfl, HW12.out, HS12.out, HK12.out⟩
end Go.Proofs.YthjkjfoelekeeaaDoor
