/- CipherWrong: what is refused does not count. For every key, number, row of bytes and number of times, where the program's tables are as its text lays them. -/
import Derived.Test.YtdancpcnjklifaaDoorCipShown
import Derived.Test.YtdancpcnjklifaaDoorCipF
namespace Go.Proofs.YtdancpcnjklifaaDoor.cipherWrong
open Go.ChangeShapes Go.WideShapes Go.ChangeAt Go.RowKit
set_option linter.unusedVariables false
set_option maxRecDepth 100000

set_option maxHeartbeats 4000000 in
theorem walk (l0 : List UInt8) (a1 : Int) (a2 : Option Addr) (len2 cap2 : Nat) (z2 : List Int) (a3 : Int) (w : World) (w0 : l0.length = 32) (w1 : (Lit.int .u64 a1).wf = true) (w2 : IsRow .u8 w a2 len2 cap2 z2) (w3 : (Lit.int .i64 a3).wf = true) (htab : Tab w) :
    Calls Tryd.prog 8 #[.agg (l0.map bv).toArray, .int .u64 a1, .slice a2 len2 cap2, .int .i64 a3] w fun e w' => e = .returned (.bool true) ∧ Below w.heap.size w w' := by
  obtain ⟨N, rfl, hN⟩ := u64_of a1 w1
  obtain ⟨n, hn⟩ : ∃ n, N / 2 = n := ⟨_, rfl⟩
  have hnl : n ≤ 9223372036854775807 := by omega
  have hN2 : (N : Int) / 2 = (n : Int) := by omega
  obtain ⟨q, hq0, hqn⟩ := cut16 a3 10
  have hq : (bits .and .i64 a3 65535).tmod 11 = (q : Int) := hq0
  have hnil := cip_nil w2
  obtain ⟨m, ln, hnE0, hn1, hn2, hnc, hncm, hBm⟩ := cut_row w2 100
  have hnE : (if (100 : Int) < (len2 : Int) then (100 : Int) else (len2 : Int)) = (ln : Int) := hnE0
  have hlm := hBm.1
  have HB0 : Hid (Byt w a2 ln m) := hBm
  have hIK : Hid ((Tryd.prog.info? 23).map (·.size) = some (l0.map bv).toArray.size) := info_size (by kernel_rfl) l0 w0
  have HTab := cipup htab
  clear hnE0 w1 w2 w3 hBm hq0 htab hn hN
  go_enter Tryd.func8, Tryd.ntmps8
  go_wp2_with fail
  have hbK : Below w.heap.size w (w.alloc (.cells (l0.map bv).toArray 23)) := (Below.refl _ _).alloc (Nat.le_refl _) _
  refine (cipShown_any _ (HTab.out.later hbK)).mono ?_
  rintro e w4 ⟨rfl, hb4⟩
  have HK4 : Hid (Arr w4 w.heap.size 23 l0) := (Arr.new w _ l0).later hb4
  have hw4 : Below w.heap.size w w4 := hbK.trans (hb4.mono hbK.size)
  obtain ⟨W1, hst1, hC1, hb1, hw1, hs1⟩ := ci_place w w4 hw4 l0 true n w0
  obtain ⟨W2, hst2, hC2, hb2, hw2, hs2⟩ := ci_place w W1 hw1 l0 true n w0
  have hlen : (CiV l0 true n).length = 34 := by rw [CiV_length, w0]
  have hg12 : w4.heap.size ≠ W1.heap.size := by omega
  have hwg : w.heap.size ≤ w4.heap.size := hw4.size
  have hg1s : w4.heap.size < W2.heap.size := by omega
  have hwg2 : w.heap.size ≤ W1.heap.size := by omega
  have hg2s : W1.heap.size < W2.heap.size := by omega
  have HC1 := cipup hC1
  have HC12 := cipup (hC1.later hb2)
  have HC2 := cipup hC2
  have HW2 := cipup hw2
  have HB2 := cipup (HB0.out.later hw2)
  simp only [ciZ] at hst1 hst2
  clear hbK hb4 hw4 hC1 hC2 hb1 hb2 hw1 hw2 hs1 hs2
  have e0 : (if (100 : Int) < (len2 : Int) then (100 : Int) else (len2 : Int)) = (ln : Int) := hnE
  go_wp2_with (first | refine wpList_load_row rfl 23 _ rfl w.heap.size rfl 23 _ (0, 0) _ HK4.out Tryd.underlying23 rfl hIK.out ?_ | refine wpList_ci3 l0 true n w0 rfl (.tmp 31) (.const (.bool true)) (.tmp 32) rfl rfl rfl rfl ?_ | refine wpList_load_row rfl 26 _ rfl w4.heap.size rfl 26 _ (0, 0) _ HC1.out.row Tryd.underlying26 rfl (ci_info l0 true n w0) ?_ | fail)
  clear hst1 hst2
  have hln : n ≠ 18446744073709551615 := by omega
  have hso : sOut l0 true n [] m = sealB l0 (nonceB n) [] m := by simp [sOut, lastN, hln]
  have hse : sErr true n = 0 := by simp [sErr, lastN, hln]
  have hsn : sNum true n = n + 1 := by simp [sNum, lastN, hln]
  refine (cseal_any w4.heap.size l0 true n none 0 0 [] a2 ln cap2 m W2 HC12.out (by omega) ⟨rfl, .inl rfl⟩ (fun _ => rfl) (by omega) (by omega) (by unfold maxLen; omega) HB2.out hnil (by omega) (by omega) hncm).mono ?_
  rintro e w5 ⟨v5, rfl, hG5, hC5, own5⟩
  obtain ⟨X, hX⟩ : ∃ X, sealB l0 (nonceB n) [] m = X := ⟨_, rfl⟩
  have hXl : X.length = ln + 16 := by rw [← hX, sealB_length, hlm]
  rw [hso, hX] at own5
  rw [hXl] at own5
  rw [hse]
  have hop := oOut_sOut l0 true n [] m hln
  rw [hso, hX, hsn] at hop
  have HOp := cipup hop
  have HX := cipup hX
  obtain ⟨a5, c5, rfl, hB5, hc5, hm5, hn5⟩ := own_parts own5
  have hk5 : ∀ j, blockOf a5 = some j → W2.heap.size ≤ j := fun j hj => (own_base own5 j (by cases a5 with | none => cases hj | some x => exact hj)).1
  have HK5 := cipup hk5
  have HB5 := cipup hB5
  have Hn5 := cipup hn5
  have HC2_5 := cipup (HC2.out.but hG5 (fun e => hg12 e.symm))
  have HW5 := cipup (below_but HW2.out hG5 hwg)
  have hs5 : W2.heap.size ≤ w5.heap.size := hG5.size
  have hal : Below w5.heap.size w5 (w5.alloc (.cells #[] 5)) := (Below.refl _ _).alloc (Nat.le_refl _) _
  obtain ⟨v6, w6, hap6, own6, hg6⟩ := append_own_any (w5.alloc (.cells #[] 5)) w5.heap.size (.slice (some ⟨w5.heap.size, 0, none⟩) 0 0) 0 [] (World.ownsRow_made w5 #[] 0 (Nat.le_refl _) (Nat.zero_le _) rfl) a5 (ln + 16) c5 X (hB5.later hal) hn5 (by simp) (by omega)
  have hb6 : Below w5.heap.size w5 w6 := hal.grown hg6 (by simp) (fun k hk => by simp [Value.ownBlock] at hk; omega)
  rw [Nat.zero_add, List.nil_append] at own6
  obtain ⟨g6, c6, rfl, hg6l, hs6⟩ := own_slice own6 (by omega)
  obtain ⟨_, c6', e6, _, hc6, hm6, _⟩ := own_parts own6
  cases e6
  have HAP : Hid _ := hap6
  obtain ⟨d, hd, hdne⟩ := cip_xor1 (at8 X (ln + 15))
  obtain ⟨_, _, e6, hcell, hfr⟩ := hs6.cell (ln + 15) (by omega)
  cases e6
  have hcl : w6.cell? ⟨g6, ln + 15, none⟩ = some (.int .u8 ((at8 X (ln + 15)).toNat : Int)) := by
    have h := hcell
    rw [Nat.zero_add, List.getElem?_map] at h
    rw [h, at8_get X (ln + 15) (by omega)]
    simp [bv, show ln + 15 < X.length by omega]
  have hfr' : w6.frozen? ⟨g6, ln + 15, none⟩ = false := by rw [Nat.zero_add] at hfr; exact hfr
  have hs7 := hs6.set (ln + 15) (by omega) (.int .u8 (d.toNat : Int))
  rw [Nat.zero_add] at hs7
  have hb7 := hb6.setCell (p := ⟨g6, ln + 15, none⟩) hg6l (.int .u8 (d.toNat : Int))
  obtain ⟨w7, hw7⟩ : ∃ W, w6.setCell ⟨g6, ln + 15, none⟩ (.int .u8 (d.toNat : Int)) = W := ⟨_, rfl⟩
  rw [hw7] at hs7 hb7
  have hms : (X.map bv).set (ln + 15) (.int .u8 (d.toNat : Int)) = (X.set (ln + 15) d).map bv := by rw [List.map_set]; rfl
  rw [hms] at hs7
  obtain ⟨Y, hY⟩ : ∃ Y, X.set (ln + 15) d = Y := ⟨_, rfl⟩
  rw [hY] at hs7
  have HY : Hid (sealedB l0 (nonceB n) [] Y = false) := by
    show _ = _
    rw [← hY, ← HX.out]
    rw [← HX.out] at hdne
    exact cip_changed l0 (nonceB n) [] m (ln + 15) d (by omega) (by omega) hdne
  have HB6 : Hid (Byt w7 (some ⟨g6, 0, none⟩) (ln + 16) Y) := Byt.ofSeg hs7
  have HB57 := cipup (HB5.out.later hb7)
  have HC2_7 := cipup (HC2_5.out.later hb7)
  have HW7 := cipup (HW5.out.trans (hb7.mono HW5.out.size))
  have hg62 : g6 ≠ W1.heap.size := by omega
  have hi1 : (ln : Int) + 16 - 1 = ((ln + 15 : Nat) : Int) := by omega
  have hi2 : (ln : Int) + 15 < (ln : Int) + 16 := by omega
  have hi3 : (0 : Int) ≤ (ln : Int) + 15 := by omega
  clear hG5 hC5 own5 hX hB5 hn5 hk5 hal hap6 own6 hg6 hb6 hs6 hcell hfr hs7 hb7 hms hY hop HC12 HC1 HC2 HW2 HB2 HB5 HC2_5 HW5 hso hsn hse hdne hg6l hs5
  go_wp2_with (first | (at_builtin; refine wpList_append_run rfl (.tmp 50) (.tmp 51) 29 rfl _ _ _ _ rfl rfl HAP.out ?_) | fail)
  clear hcl hfr' HAP hi1 hi2 hi3 hd hw7 hq hN2 hnE e0
  go_loopw [15] (fun i wr => ∃ j : Nat, j ≤ q ∧ i = .int .i64 j ∧ Hid (CiIs wr W1.heap.size l0 true n) ∧ Hid (w7.grownBy wr (some W1.heap.size))) (fun i _ => q - (intOf i).toNat)
  case atStart => exact ⟨0, Nat.zero_le _, rfl, HC2_7, grownBy_refl _ _⟩
  case round =>
    clear HC2_7
    obtain ⟨j, hj, rfl, HC, HG⟩ := hrel
    have HWr := cipup (below_but HW7.out HG.out hwg2)
    have hBY := byt_but HB6.out HG.out (fun b o f e => by cases e; exact hg62)
    have hBX := byt_new HB57.out HG.out HK5.out hg2s
    have HBX := cipup hBX
    by_cases hjq : j < q
    · have j1 : (j : Int) < (q : Int) := by omega
      go_wp2_with fail
      refine (copen_any W1.heap.size l0 true n none 0 0 [] (some ⟨g6, 0, none⟩) (ln + 16) c6 Y wr HC.out (by omega) ⟨rfl, .inl rfl⟩ (fun _ => rfl) (by omega) (by omega) (by unfold maxLen; omega) hBY (fun e => by cases e) (by omega) hc6 hm6).mono ?_
      rintro e w8 ⟨a8, c8, rfl, hG8, hC8, _, _, _⟩
      have e1 : oErr l0 true n [] Y = 3 := by simp [oErr, lastN, hln, HY.out]
      have e2 : oNum l0 true n [] Y = n := by simp [oNum, lastN, hln, HY.out]
      have e3 : oOut l0 true n [] Y = [] := by simp [oOut, lastN, hln, HY.out]
      rw [e2] at hC8
      rw [e1, e3]
      have HC8 := cipup hC8
      have HG8 : Hid (w7.grownBy w8 (some W1.heap.size)) := World.grownBy.trans HG.out hG8
      obtain ⟨q1, q2⟩ := hC8.num
      clear hG8 hC8 hBY hBX e1 e2 e3 HC HG HBX HWr
      simp only [List.length_nil]
      go_wp2
      exact ⟨⟨j + 1, by omega, by go_num, HC8, HG8⟩, by simp [intOf]; omega⟩
    · have j1 : ¬ (j : Int) < (q : Int) := by omega
      have hBm := HB0.out.later HWr.out
      have HBm := cipup hBm
      clear hBY hBm
      go_wp2_with fail
      refine (copen_any W1.heap.size l0 true n none 0 0 [] a5 (ln + 16) c5 X wr HC.out (by omega) ⟨rfl, .inl rfl⟩ (fun _ => rfl) (by omega) (by omega) (by unfold maxLen; omega) hBX Hn5.out (by omega) hc5 hm5).mono ?_
      rintro e w8 ⟨a8, c8, rfl, hG8, hC8, hB8, _, _⟩
      obtain ⟨o1, o2, o3⟩ := HOp.out
      rw [o1, hlm] at hB8 ⊢
      rw [o2]
      rw [o3] at hC8
      have HW8 := cipup (below_but HWr.out hG8 hwg2)
      obtain ⟨q1, q2⟩ := hC8.num
      have q3 := conv_bytes w8 a8 ln c8 m hB8
      have q4 := conv_bytes w8 a2 ln cap2 m (HB0.out.later HW8.out)
      have q5 := S_beq m m
      have hw1 : IntKind.u64.wrap ((n : Int) + 1) = ((n + 1 : Nat) : Int) := by rw [IntKind.wrap_u64]; omega
      clear hG8 hC8 hB8 o1 o2 o3 hBX HWr HC HG HBX HBm
      go_wp2
      go_ret
      exact ⟨rfl, HW8.out⟩
end Go.Proofs.YtdancpcnjklifaaDoor.cipherWrong
