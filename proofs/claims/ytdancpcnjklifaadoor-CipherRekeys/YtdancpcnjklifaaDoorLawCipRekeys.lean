/- CipherRekeys: two that have another key at the same time go on. For every key, and row of rows of bytes, where the program's tables are as its text lays them. -/
import Derived.Test.YtdancpcnjklifaaDoorCipShown
import Derived.Test.YtdancpcnjklifaaDoorCipCq
import Derived.Test.YtdancpcnjklifaaDoorCipF
namespace Go.Proofs.YtdancpcnjklifaaDoor.cipherRekeys
open Go.ChangeShapes Go.WideShapes Go.ChangeAt Go.RowKit
set_option linter.unusedVariables false
set_option maxRecDepth 100000

/-- Both ciphers, alike. -/
structure Two (w : World) (g1 g2 : Nat) (key : List UInt8) (n : Nat) (W : World) : Prop where
  a : CiIs W g1 key true n
  b : CiIs W g2 key true n
  bel : Below w.heap.size w W
set_option maxHeartbeats 4000000 in
theorem walk (l0 : List UInt8) (a1 : Option Addr) (len1 cap1 : Nat) (w : World) (w0 : l0.length = 32) (w1 : IsRows w a1 len1 cap1) (htab : Tab w) :
    Calls Tryd.prog 7 #[.agg (l0.map bv).toArray, .slice a1 len1 cap1] w fun e w' => e = .returned (.bool true) ∧ Below w.heap.size w w' := by
  have HR0 : Hid (IsRows w a1 len1 cap1) := w1
  have hIK : Hid ((Tryd.prog.info? 23).map (·.size) = some (l0.map bv).toArray.size) := info_size (by kernel_rfl) l0 w0
  have HTab := cipup htab
  clear htab w1
  go_enter Tryd.func7, Tryd.ntmps7
  go_wp2_with fail
  have hbK : Below w.heap.size w (w.alloc (.cells (l0.map bv).toArray 23)) := (Below.refl _ _).alloc (Nat.le_refl _) _
  refine (cipShown_any _ (HTab.out.later hbK)).mono ?_
  rintro e w4 ⟨rfl, hb4⟩
  have HK4 : Hid (Arr w4 w.heap.size 23 l0) := (Arr.new w _ l0).later hb4
  have hw4 : Below w.heap.size w w4 := hbK.trans (hb4.mono hbK.size)
  obtain ⟨W1, hst1, hC1, hb1, hw1, hs1⟩ := ci_place w w4 hw4 l0 true 0 w0
  obtain ⟨W2, hst2, hC2, hb2, hw2, hs2⟩ := ci_place w W1 hw1 l0 true 0 w0
  have hlen : (CiV l0 true 0).length = 34 := by rw [CiV_length, w0]
  have hg12 : w4.heap.size ≠ W1.heap.size := by omega
  have hwg : w.heap.size ≤ w4.heap.size := hw4.size
  have hg1s : w4.heap.size < W2.heap.size := by omega
  have hg2s : W1.heap.size < W2.heap.size := by omega
  have hwg2 : w.heap.size ≤ W1.heap.size := by omega
  have HC1 := cipup hC1
  have HT2 : Hid (Two w w4.heap.size W1.heap.size l0 0 W2) := ⟨hC1.later hb2, hC2, hw2⟩
  simp only [ciZ] at hst1 hst2
  clear hbK hb4 hw4 hC1 hC2 hb1 hb2 hw1 hw2 hs1 hs2
  go_wp2_with (first | refine wpList_load_row rfl 23 _ rfl w.heap.size rfl 23 _ (0, 0) _ HK4.out Tryd.underlying23 rfl hIK.out ?_ | refine wpList_ci2 l0 true w0 rfl (.tmp 15) (.const (.bool true)) rfl rfl rfl ?_ | refine wpList_load_row rfl 26 _ rfl w4.heap.size rfl 26 _ (0, 0) _ HC1.out.row Tryd.underlying26 rfl (ci_info l0 true 0 w0) ?_ | fail)
  clear hst1 hst2 HC1 HK4 hIK hlen
  generalize w4.heap.size = g1 at *
  generalize W1.heap.size = g2 at *
  go_loopw [8] (fun i wr => ∃ (k : Nat) (key : List UInt8), k ≤ 20 ∧ i = .int .i64 k ∧ Hid (Two w g1 g2 key k wr)) (fun i _ => 20 - (intOf i).toNat)
  case atStart => exact ⟨0, l0, by omega, rfl, HT2⟩
  case round =>
    clear HT2
    obtain ⟨k, key, hk, rfl, HT⟩ := hrel
    by_cases hc : k < len1 ∧ k < 20
    · obtain ⟨hc1, hc2⟩ := hc
      have i1 : (k : Int) < (len1 : Int) := by omega
      have i2 : (k : Int) < 20 := by omega
      obtain ⟨b, off, rfl, hbw, hrows⟩ := rows_at HR0.out (by omega)
      obtain ⟨ai, li, ci, zs, hcell, hrow⟩ := hrows k hc1
      have hnil := cip_nil hrow
      obtain ⟨m, n, hnE0, hn1, hn2, hnc, hncm, hBm⟩ := cut_row hrow 50
      have hnE : (if (50 : Int) < (li : Int) then (50 : Int) else (li : Int)) = (n : Int) := hnE0
      have hml := hBm.1
      obtain ⟨W, hWd⟩ : ∃ W, wr.drew = W := ⟨_, rfl⟩
      have HWd : Hid (wr.drew = W) := hWd
      have hgr : Below wr.heap.size wr W := by rw [← hWd]; exact (Below.refl _ _).drew
      have HTW : Hid (Two w g1 g2 key k W) := ⟨HT.out.a.later hgr, HT.out.b.later hgr, HT.out.bel.trans (hgr.mono HT.out.bel.size)⟩
      have hcW : ∀ w', Grows W w' → w'.cell? ⟨b, off + k, none⟩ = some (.slice ai li ci) := fun w' hw' => by
        have h2 := HTW.out.bel.size
        rw [World.cell?_of_block (hw'.block b (by omega)), World.cell?_of_block (HTW.out.bel.block b hbw)]
        exact hcell
      have HBm : Hid (Byt w ai n m) := hBm
      have e1 : (n : Int) ≤ (ci : Int) := by omega
      have hcm' : ci ≤ 9223372036854775807 := by unfold maxLen at hncm; exact hncm
      clear hnE0 hBm hrow hcell hrows hWd hgr HT
      go_wp2
      refine wp_region_sched' (G := Grows) (by kernel_rfl) Grows.refl Grows.trans (by kernel_rfl) [(0, true), (1, true), (2, true), (3, true), (4, true), (5, true), (6, true), (7, true), (8, true), (9, true), (10, true), (11, true)] rfl (by kernel_rfl) ?_
      intro KK hKK
      rw [HWd.out]
      iterate 12 (refine sched_take rfl (by rfl) (v := ?_) ?_ ?_; rotate_left; (intro w' hw'; have q1 := hcW w' hw'; clear hw'; go_simp; with_reducible rfl); go_simp)
      refine sched_done hKK ?_
      clear hKK hcW HWd
      obtain ⟨x, hx⟩ : ∃ x : UInt8, x.toNat = k := ⟨UInt8.ofNat k, by rw [UInt8.toNat_ofNat', Nat.mod_eq_of_lt (by omega)]⟩
      have hwu : IntKind.u8.wrap (k : Int) = (k : Int) := by rw [IntKind.wrap_u8]; omega
      have hlit : Hid ((#[.int .u8 (k : Int)] : Array Value) = ([x].map bv).toArray) := by show _ = _; simp [bv, hx]
      have hbm := HBm.out.later HTW.out.bel
      have hal : Below W.heap.size W (W.alloc (.cells #[.int .u8 (k : Int)] 5)) := (Below.refl _ _).alloc (Nat.le_refl _) _
      have hA : Byt (W.alloc (.cells #[.int .u8 (k : Int)] 5)) (some ⟨W.heap.size, 0, none⟩) 1 [x] := byt_lit _ [x] W.heap.size _ _ _ (heap_alloc_new W _) hlit.out
      have hln : k ≠ lastN := by unfold lastN; omega
      have hso : sOut key true k [x] m = sealB key (nonceB k) [x] m := by simp [sOut, hln]
      have hse : sErr true k = 0 := by simp [sErr, hln]
      have hsn : sNum true k = k + 1 := by simp [sNum, hln]
      have hg1l := HTW.out.a.lt
      have hg2l := HTW.out.b.lt
      go_wp2_with fail
      refine (cseal_any g1 key true k (some ⟨W.heap.size, 0, none⟩) 1 1 [x] ai n ci m _ (HTW.out.a.later hal) (by omega) hA (fun e => by cases e) (by omega) (by omega) (by unfold maxLen; omega) (hbm.later hal) hnil (by omega) (by omega) hncm).mono ?_
      rintro e w5 ⟨v5, rfl, hG5, hC5, own5⟩
      obtain ⟨X, hX⟩ : ∃ X, sealB key (nonceB k) [x] m = X := ⟨_, rfl⟩
      have hXl : X.length = n + 16 := by rw [← hX, sealB_length, hml]
      rw [hso, hX] at own5
      rw [hXl] at own5
      rw [hse]
      rw [hsn] at hC5
      have hop := oOut_sOut key true k [x] m hln
      rw [hso, hX, hsn] at hop
      have HOp := cipup hop
      obtain ⟨a5, c5, rfl, hB5, hc5, hm5, hn5⟩ := own_parts own5
      have HB5 := cipup hB5
      have Hn5 := cipup hn5
      have HC1_5 := cipup hC5
      have HC2_5 := cipup ((HTW.out.b.later hal).but hG5 (fun e => hg12 e.symm))
      have HW5 := cipup (below_but (HTW.out.bel.trans (hal.mono HTW.out.bel.size)) hG5 hwg)
      clear hbm hal hA hG5 hC5 own5 hB5 hn5 hX hop hso hse hsn HTW hg1l hg2l
      go_wp2_with fail
      have hal : Below w5.heap.size w5 (w5.alloc (.cells #[.int .u8 (k : Int)] 5)) := (Below.refl _ _).alloc (Nat.le_refl _) _
      have hA : Byt (w5.alloc (.cells #[.int .u8 (k : Int)] 5)) (some ⟨w5.heap.size, 0, none⟩) 1 [x] := byt_lit _ [x] w5.heap.size _ _ _ (heap_alloc_new w5 _) hlit.out
      refine (copen_any g2 key true k (some ⟨w5.heap.size, 0, none⟩) 1 1 [x] a5 (n + 16) c5 X _ (HC2_5.out.later hal) (by omega) hA (fun e => by cases e) (by omega) (by omega) (by unfold maxLen; omega) (HB5.out.later hal) Hn5.out (by omega) hc5 hm5).mono ?_
      rintro e w6 ⟨a6, c6, rfl, hG6, hC6, hB6, _, _⟩
      obtain ⟨o1, o2, o3⟩ := HOp.out
      rw [o1, hml] at hB6 ⊢
      rw [o2]
      rw [o3] at hC6
      have hW6 := below_but (HW5.out.trans (hal.mono HW5.out.size)) hG6 hwg2
      have HT6 : Hid (Two w g1 g2 key (k + 1) w6) := ⟨(HC1_5.out.later hal).but hG6 hg12, hC6, hW6⟩
      obtain ⟨q1, q2⟩ := HT6.out.a.num
      have q3 := conv_bytes w6 a6 n c6 m hB6
      have q4 := conv_bytes w6 ai n ci m (HBm.out.later hW6)
      have q5 := S_beq m m
      have hw1 : IntKind.u64.wrap ((k : Int) + 1) = (k : Int) + 1 := by rw [IntKind.wrap_u64]; omega
      clear hal hA hG6 hC6 hB6 o1 o2 o3 hW6 HC1_5 HC2_5 HW5 HB5 Hn5 HOp hlit
      by_cases h3 : k % 3 = 2
      · have h3' : (k : Int).tmod 3 = 2 := by rw [Int.tmod_eq_emod_of_nonneg (by omega)]; omega
        go_wp2_with fail
        refine (crekey_any g1 key true (k + 1) w6 HT6.out.a).mono ?_
        rintro e w7 ⟨⟨v7, rfl⟩, hG7, hC7⟩
        obtain ⟨K2, hK2⟩ : ∃ K, rekB key true = K := ⟨_, rfl⟩
        rw [hK2] at hC7
        have HK2 := cipup hK2
        clear hK2
        have HC7 := cipup hC7
        have HC2_7 := cipup (HT6.out.b.but hG7 (fun e => hg12 e.symm))
        have HW7 := cipup (below_but HT6.out.bel hG7 hwg)
        clear hG7 hC7 HT6 q1 q2 q3 q4 q5
        go_wp2_with fail
        refine (crekey_any g2 key true (k + 1) w7 HC2_7.out).mono ?_
        rintro e w8 ⟨⟨v8, rfl⟩, hG8, hC8⟩
        rw [HK2.out] at hC8
        have HT8 : Hid (Two w g1 g2 K2 (k + 1) w8) := ⟨HC7.out.but hG8 hg12, hC8, below_but HW7.out hG8 hwg2⟩
        have q7 := ci_eq w8 K2 K2 true true (k + 1) (k + 1) HT8.out.a.k HT8.out.a.k
        rw [decide_eq_true (And.intro rfl (And.intro rfl rfl))] at q7
        have HQ7 := cipup q7
        clear q7
        clear hG8 hC8 HC7 HC2_7 HW7
        go_wp2_with (first | refine wpList_load_row rfl 26 _ rfl g1 rfl 26 _ (0, 0) _ HT8.out.a.row Tryd.underlying26 rfl (ci_info _ true (k + 1) HT8.out.a.k) ?_ | refine wpList_load_row rfl 26 _ rfl g2 rfl 26 _ (0, 0) _ HT8.out.b.row Tryd.underlying26 rfl (ci_info _ true (k + 1) HT8.out.a.k) ?_ | refine wpList_cmp true (by rfl) (.tmp 81) (.tmp 82) 26 26 rfl _ _ rfl rfl Tryd.eqGuardType26 true HQ7.out ?_ | fail)
        exact ⟨⟨k + 1, K2, by omega, by go_num, HT8⟩, by simp [intOf]; omega⟩
      · have h3' : ¬ (k : Int).tmod 3 = 2 := by rw [Int.tmod_eq_emod_of_nonneg (by omega)]; omega
        have HT8 := HT6
        have q7 := ci_eq w6 key key true true (k + 1) (k + 1) HT8.out.a.k HT8.out.a.k
        rw [decide_eq_true (And.intro rfl (And.intro rfl rfl))] at q7
        have HQ7 := cipup q7
        clear q7
        go_wp2_with (first | refine wpList_load_row rfl 26 _ rfl g1 rfl 26 _ (0, 0) _ HT8.out.a.row Tryd.underlying26 rfl (ci_info _ true (k + 1) HT8.out.a.k) ?_ | refine wpList_load_row rfl 26 _ rfl g2 rfl 26 _ (0, 0) _ HT8.out.b.row Tryd.underlying26 rfl (ci_info _ true (k + 1) HT8.out.a.k) ?_ | refine wpList_cmp true (by rfl) (.tmp 81) (.tmp 82) 26 26 rfl _ _ rfl rfl Tryd.eqGuardType26 true HQ7.out ?_ | fail)
        exact ⟨⟨k + 1, key, by omega, by go_num, HT8⟩, by simp [intOf]; omega⟩
    · by_cases hc1 : k < len1
      · have i1 : (k : Int) < (len1 : Int) := by omega
        have i2 : ¬ (k : Int) < 20 := by omega
        go_wp2
        go_ret
        exact ⟨rfl, HT.out.bel⟩
      · have i1 : ¬ (k : Int) < (len1 : Int) := by omega
        go_wp2
        go_ret
        exact ⟨rfl, HT.out.bel⟩
end Go.Proofs.YtdancpcnjklifaaDoor.cipherRekeys
