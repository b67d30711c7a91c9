/- CipherBoth: two that are mixed likewise open what the other one seals, and stay alike. For every name, and row of rows of bytes, where the program's tables are as its text lays them. -/
import Derived.Test.YtdancpcnjklifaaDoorCipShown
import Derived.Test.YtdancpcnjklifaaDoorCipF
import Derived.Test.YtdancpcnjklifaaDoorCipP
namespace Go.Proofs.YtdancpcnjklifaaDoor.cipherBoth
open Go.ChangeShapes Go.WideShapes Go.ChangeAt Go.RowKit
set_option linter.unusedVariables false
set_option maxRecDepth 100000

/-- Two mixers, alike. -/
structure TwoM (w : World) (g1 g2 : Nat) (C H K : List UInt8) (has : Bool) (n : Nat) (W : World) : Prop where
  a : MiIs W g1 C H K has n
  b : MiIs W g2 C H K has n
  bel : Below w.heap.size w W
set_option maxHeartbeats 4000000 in
theorem walk (l0 : List UInt8) (a1 : Option Addr) (len1 cap1 : Nat) (w : World) (w0 : l0.length ≤ maxLen) (w1 : IsRows w a1 len1 cap1) (htab : Tab w) :
    Calls Tryd.prog 5 #[.string (S l0), .slice a1 len1 cap1] w fun e w' => e = .returned (.bool true) ∧ Below w.heap.size w w' := by
  have HR0 : Hid (IsRows w a1 len1 cap1) := w1
  have HTab := cipup htab
  have hlt := htab.lt
  have hsz : (S l0).size = l0.length := rfl
  obtain ⟨ln, hln⟩ : ∃ ln, min l0.length 50 = ln := ⟨_, rfl⟩
  have hln1 : ln ≤ 50 := by omega
  have hmin : (if (50 : Int) < ((l0.length : Nat) : Int) then (50 : Int) else ((l0.length : Nat) : Int)) = (ln : Int) := by split <;> omega
  obtain ⟨l, hl⟩ : ∃ l, l0.take ln = l := ⟨_, rfl⟩
  have hll : l.length ≤ 50 := by rw [← hl, List.length_take]; omega
  have hex : (S l0).extract 0 ln = S l := by
    rw [← hl]
    apply ByteArray.ext
    simp [S, ByteArray.data_extract]
  have hle : ln ≤ (S l0).size := by rw [hsz]; omega
  clear htab w1 hl
  go_enter Tryd.func5, Tryd.ntmps5
  go_wp2_with fail
  refine (cipShown_any _ HTab.out).mono ?_
  rintro e w4 ⟨rfl, hw4⟩
  have HW4 := cipup hw4
  clear hw4
  go_wp2_with fail
  refine (cnew_any l w4 (by omega) (HTab.out.later HW4.out)).mono ?_
  rintro e w5 ⟨g1, rfl, hg1, hb5, hM5⟩
  have HM5 := cipup hM5
  have HW5 := cipup (HW4.out.trans (hb5.mono HW4.out.size))
  have hwg1 : w.heap.size ≤ g1 := Nat.le_trans HW4.out.size hg1
  have hg1l := hM5.lt
  clear hb5 hM5 hg1 HW4
  go_wp2_with fail
  refine (cnew_any l w5 (by omega) (HTab.out.later HW5.out)).mono ?_
  rintro e w6 ⟨g2, rfl, hg2, hb6, hM6⟩
  have hwg2 : w.heap.size ≤ g2 := by omega
  have hg12 : g1 ≠ g2 := by omega
  have hgt1 : g1 ≠ 0 ∧ g1 ≠ 1 := by omega
  have hgt2 : g2 ≠ 0 ∧ g2 ≠ 1 := by omega
  have HT6 : Hid (TwoM w g1 g2 (nameB l) (nameB l) (List.replicate 32 0) false 0 w6) := ⟨HM5.out.later hb6, hM6, HW5.out.trans (hb6.mono HW5.out.size)⟩
  have HIK : Hid ((Tryd.prog.info? 23).map (·.size) = some 32) := by show _ = _; kernel_rfl
  clear hb6 hM6 hg2 HM5 HW5 hg1l hlt hex hle hmin hsz hln
  go_wp2
  go_loopw [8] (fun i wr => ∃ (k : Nat) (C H K : List UInt8) (has : Bool) (n : Nat), k ≤ 20 ∧ n ≤ k ∧ i = .int .i64 k ∧ Hid (TwoM w g1 g2 C H K has n wr)) (fun i _ => 20 - (intOf i).toNat)
  case atStart => exact ⟨0, _, _, _, _, 0, by omega, by omega, rfl, HT6⟩
  case round =>
    clear HT6
    obtain ⟨k, C, H, K, has, n, hk, hnk, rfl, HT⟩ := hrel
    by_cases hc : k < len1 ∧ k < 20
    · obtain ⟨hc1, hc2⟩ := hc
      have i1 : (k : Int) < (len1 : Int) := by omega
      have i2 : (k : Int) < 20 := by omega
      obtain ⟨b, off, rfl, hbw, hrows⟩ := rows_at HR0.out (by omega)
      obtain ⟨ai, li, ci, zs, hcell, hrow⟩ := hrows k hc1
      have hnil := cip_nil hrow
      obtain ⟨m, ln, hnE0, hn1, hn2, hnc, hncm, hBm⟩ := cut_row hrow 50
      have hnE : (if (50 : Int) < (li : Int) then (50 : Int) else (li : Int)) = (ln : Int) := hnE0
      have hml := hBm.1
      obtain ⟨W, hWd⟩ : ∃ W, wr.drew = W := ⟨_, rfl⟩
      have HWd : Hid (wr.drew = W) := hWd
      have hgr : Below wr.heap.size wr W := by rw [← hWd]; exact (Below.refl _ _).drew
      have HTW : Hid (TwoM w g1 g2 C H K has n W) := ⟨HT.out.a.later hgr, HT.out.b.later hgr, HT.out.bel.trans (hgr.mono HT.out.bel.size)⟩
      have hcW : ∀ w', Grows W w' → w'.cell? ⟨b, off + k, none⟩ = some (.slice ai li ci) := fun w' hw' => by
        have h2 := HTW.out.bel.size
        rw [World.cell?_of_block (hw'.block b (by omega)), World.cell?_of_block (HTW.out.bel.block b hbw)]
        exact hcell
      have HBm : Hid (Byt w ai ln m) := hBm
      have e1 : (ln : Int) ≤ (ci : Int) := by omega
      have hcm' : ci ≤ 9223372036854775807 := by unfold maxLen at hncm; exact hncm
      clear hnE0 hBm hrow hcell hrows hWd hgr HT
      go_wp2
      refine wp_region_sched' (G := Grows) (by kernel_rfl) Grows.refl Grows.trans (by kernel_rfl) [(0, true), (1, true), (2, true), (3, true), (4, true), (5, true), (6, true), (7, true), (8, true), (9, true), (10, true), (11, true)] rfl (by kernel_rfl) ?_
      intro KK hKK
      rw [HWd.out]
      iterate 12 (refine sched_take rfl (by rfl) (v := ?_) ?_ ?_; rotate_left; (intro w' hw'; have q1 := hcW w' hw'; clear hw'; go_simp; with_reducible rfl); go_simp)
      refine sched_done hKK ?_
      clear hKK hcW HWd
      obtain ⟨r, hr⟩ : ∃ r, k % 3 = r := ⟨_, rfl⟩
      have hr3 : r < 3 := by omega
      have hrI : (k : Int).tmod 3 = (r : Int) := by rw [Int.tmod_eq_emod_of_nonneg (by omega)]; omega
      have Hbm := cipup (HBm.out.later HTW.out.bel)
      have hcases : r = 0 ∨ r = 1 ∨ r = 2 := by omega
      clear hr
      rcases hcases with rfl | rfl | rfl
      · -- sealed, and opened
        have hln : n ≠ lastN := by unfold lastN; omega
        have hse : sErr has n = 0 := by cases has <;> simp [sErr, hln]
        have hsn : sNum has n ≤ k + 1 := by unfold sNum; split <;> (try split) <;> omega
        obtain ⟨o1, o2, o3⟩ := oOut_sOut K has n H m hln
        have hsh : sHash H K has n m = mixH H (sOut K has n H m) := by rw [sHash, if_pos hse]
        have hoh : oHash H K has n (sOut K has n H m) = mixH H (sOut K has n H m) := by rw [oHash, if_pos o2]
        have hXl : (sOut K has n H m).length ≤ ln + 16 := by have := sOut_le K has n H m; omega
        obtain ⟨X, hX⟩ : ∃ X, sOut K has n H m = X := ⟨_, rfl⟩
        rw [hX] at o1 o2 o3 hsh hoh hXl
        obtain ⟨H', hH'⟩ : ∃ H', mixH H X = H' := ⟨_, rfl⟩
        rw [hH'] at hsh hoh
        obtain ⟨n', hn'⟩ : ∃ n', sNum has n = n' := ⟨_, rfl⟩
        rw [hn'] at hsn o3
        obtain ⟨lx, hlx⟩ : ∃ lx, X.length = lx := ⟨_, rfl⟩
        rw [hlx] at hXl
        have HO := cipup (And.intro o1 (And.intro o2 (And.intro o3 hoh)))
        have HS := cipup (And.intro hse (And.intro hsh (And.intro hX hn')))
        have HLx := cipup hlx
        clear hse o1 o2 o3 hsh hoh hX hH' hn' hlx hln
        go_wp2_with fail
        refine (csealmixed_any g1 C H K has n ai ln ci m W HTW.out.a (by omega) Hbm.out hnil (by omega) (by omega) hncm (HTab.out.later HTW.out.bel) hgt1).mono ?_
        rintro e w5 ⟨v5, rfl, hG5, hM5, own5⟩
        rw [HS.out.2.2.1, HLx.out] at own5
        rw [HS.out.2.1, HS.out.2.2.2] at hM5
        rw [HS.out.1]
        obtain ⟨a5, c5, rfl, hB5, hc5, hm5, hn5⟩ := own_parts own5
        have HN5 : Hid (∀ x o f, a5 = some ⟨x, o, f⟩ → x ≠ g2) := fun x o f e he => by
          have h1 := own_new own5 x (by rw [e]; rfl)
          have h2 := HTW.out.b.lt
          omega
        have HB5 := cipup hB5
        have Hn5 := cipup hn5
        have HM5 := cipup hM5
        have HM2 := cipup (HTW.out.b.but hG5 (fun e => hg12 e.symm))
        have HW5 := cipup (below_but HTW.out.bel hG5 hwg1)
        clear hG5 hM5 own5 hB5 hn5 HTW Hbm
        go_wp2_with fail
        refine (copenmixed_any g2 C H K has n a5 lx c5 X w5 HM2.out (by omega) HB5.out Hn5.out (by omega) hc5 hm5 HN5.out (HTab.out.later HW5.out) hgt2).mono ?_
        rintro e w8 ⟨a8, c8, rfl, hG8, hM8, hB8, _⟩
        rw [HO.out.1, hml] at hB8 ⊢
        rw [HO.out.2.1]
        rw [HO.out.2.2.1, HO.out.2.2.2] at hM8
        obtain ⟨C', hC'⟩ : ∃ C', C = C' := ⟨_, rfl⟩
        obtain ⟨K', hK'⟩ : ∃ K', K = K' := ⟨_, rfl⟩
        obtain ⟨has', hh'⟩ : ∃ h, has = h := ⟨_, rfl⟩
        have HT8 : Hid (TwoM w g1 g2 C' H' K' has' n' w8) := by
          subst hC' hK' hh'
          exact ⟨HM5.out.but hG8 hg12, hM8, below_but HW5.out hG8 hwg2⟩
        have q3 := conv_bytes w8 a8 ln c8 m hB8
        have q4 := conv_bytes w8 ai ln ci m (HBm.out.later HT8.out.bel)
        have q5 := S_beq m m
        clear hG8 hM8 hB8 HM5 HM2 HW5 HB5 Hn5 HO HS HLx hC' hK' hh'
        go_wp2
        clear q3 q4 q5
        have hCl := HT8.out.a.c
        have hHl := HT8.out.a.h
        obtain ⟨W, hW⟩ : ∃ W, w8.drew = W := ⟨_, rfl⟩
        have hgr : Below w8.heap.size w8 W := by rw [← hW]; exact (Below.refl _ _).drew
        have HTW : Hid (TwoM w g1 g2 C' H' K' has' n' W) := ⟨HT8.out.a.later hgr, HT8.out.b.later hgr, HT8.out.bel.trans (hgr.mono HT8.out.bel.size)⟩
        have hWe : Hid (w8.drew = W) := hW
        clear hW hgr HT8
        go_wp2
        refine wp_region_sched' (G := Grows) (by kernel_rfl) Grows.refl Grows.trans (by kernel_rfl) [(0, true), (1, true), (2, true), (3, true), (4, true), (5, true), (6, true), (7, true), (8, true), (9, true), (10, true), (11, true), (12, true), (13, true), (14, true), (15, true), (16, true), (17, true), (18, true), (19, true), (20, true), (21, true), (22, true), (23, true), (24, true), (25, true), (26, true), (27, true), (28, true), (29, true), (30, true), (31, true), (32, true)] rfl (by kernel_rfl) ?_
        intro KK hKK
        rw [hWe.out]
        iterate 3 (refine sched_take rfl (by rfl) (v := ?_) ?_ ?_; rotate_left; (intro w' hw'; clear hw'; go_simp; with_reducible rfl); go_simp)
        refine sched_take rfl (by rfl) (v := .agg (C'.map bv).toArray) (fun w' hw' => exec_load_part 23 _ rfl g1 0 rfl (C'.map bv) _ ((HTW.out.a.later hw').chainB) Tryd.underlying23 rfl (by rw [HIK.out]; simp [hCl])) ?_
        go_simp
        iterate 3 (refine sched_take rfl (by rfl) (v := ?_) ?_ ?_; rotate_left; (intro w' hw'; clear hw'; go_simp; with_reducible rfl); go_simp)
        refine sched_take rfl (by rfl) (v := .agg (C'.map bv).toArray) (fun w' hw' => exec_load_part 23 _ rfl g2 0 rfl (C'.map bv) _ ((HTW.out.b.later hw').chainB) Tryd.underlying23 rfl (by rw [HIK.out]; simp [hCl])) ?_
        go_simp
        iterate 5 (refine sched_take rfl (by rfl) (v := ?_) ?_ ?_; rotate_left; (intro w' hw'; have q1 := arr_eq w' 23 32 C' C' hCl hCl Tryd.underlying23; rw [decide_eq_true rfl] at q1; clear hw'; go_simp; with_reducible rfl); go_simp)
        refine sched_take rfl (by rfl) (v := .agg (H'.map bv).toArray) (fun w' hw' => exec_load_part 23 _ rfl g1 32 rfl (H'.map bv) _ ((HTW.out.a.later hw').hashB) Tryd.underlying23 rfl (by rw [HIK.out]; simp [hHl])) ?_
        go_simp
        iterate 3 (refine sched_take rfl (by rfl) (v := ?_) ?_ ?_; rotate_left; (intro w' hw'; clear hw'; go_simp; with_reducible rfl); go_simp)
        refine sched_take rfl (by rfl) (v := .agg (H'.map bv).toArray) (fun w' hw' => exec_load_part 23 _ rfl g2 32 rfl (H'.map bv) _ ((HTW.out.b.later hw').hashB) Tryd.underlying23 rfl (by rw [HIK.out]; simp [hHl])) ?_
        go_simp
        iterate 15 (refine sched_take rfl (by rfl) (v := ?_) ?_ ?_; rotate_left; (intro w' hw'; have q1 := arr_eq w' 23 32 H' H' hHl hHl Tryd.underlying23; rw [decide_eq_true rfl] at q1; have q2 := (HTW.out.a.later hw').num.1; have q3 := (HTW.out.b.later hw').num.1; clear hw'; go_simp; with_reducible rfl); go_simp)
        refine sched_done hKK ?_
        clear hKK
        go_wp2
        exact ⟨⟨k + 1, C', H', K', has', n', by omega, by omega, by go_num, HTW⟩, by simp [intOf]; omega⟩
      · -- mixed in as a key
        have n0 : (0 : Nat) ≤ k + 1 := Nat.zero_le _
        go_wp2_with fail
        refine (cmixkey_any g1 C H K has n ai ln ci m W HTW.out.a Hbm.out hnil (by omega) (by omega) hncm (HTab.out.later HTW.out.bel) hgt1).mono ?_
        rintro e w5 ⟨⟨v5, rfl⟩, hG5, hM5⟩
        obtain ⟨C', hC'⟩ : ∃ C', der1 C m = C' := ⟨_, rfl⟩
        obtain ⟨K', hK'⟩ : ∃ K', der2 C m = K' := ⟨_, rfl⟩
        rw [hC', hK'] at hM5
        have HCK := cipup (And.intro hC' hK')
        have HM5 := cipup hM5
        have HM2 := cipup (HTW.out.b.but hG5 (fun e => hg12 e.symm))
        have HW5 := cipup (below_but HTW.out.bel hG5 hwg1)
        clear hG5 hM5 HTW Hbm hC' hK'
        go_wp2_with fail
        refine (cmixkey_any g2 C H K has n ai ln ci m w5 HM2.out (HBm.out.later HW5.out) hnil (by omega) (by omega) hncm (HTab.out.later HW5.out) hgt2).mono ?_
        rintro e w8 ⟨⟨v8, rfl⟩, hG8, hM8⟩
        rw [HCK.out.1, HCK.out.2] at hM8
        obtain ⟨H', hH'⟩ : ∃ H', H = H' := ⟨_, rfl⟩
        obtain ⟨has', hh'⟩ : ∃ h, true = h := ⟨_, rfl⟩
        obtain ⟨n', hn'⟩ : ∃ n', 0 = n' := ⟨_, rfl⟩
        have HT8 : Hid (TwoM w g1 g2 C' H' K' has' n' w8) := by
          subst hH' hh' hn'
          exact ⟨HM5.out.but hG8 hg12, hM8, below_but HW5.out hG8 hwg2⟩
        have hsn : n' ≤ k + 1 := by omega
        clear hG8 hM8 HM5 HM2 HW5 HCK hH' hh' hn'
        go_wp2
        have hCl := HT8.out.a.c
        have hHl := HT8.out.a.h
        obtain ⟨W, hW⟩ : ∃ W, w8.drew = W := ⟨_, rfl⟩
        have hgr : Below w8.heap.size w8 W := by rw [← hW]; exact (Below.refl _ _).drew
        have HTW : Hid (TwoM w g1 g2 C' H' K' has' n' W) := ⟨HT8.out.a.later hgr, HT8.out.b.later hgr, HT8.out.bel.trans (hgr.mono HT8.out.bel.size)⟩
        have hWe : Hid (w8.drew = W) := hW
        clear hW hgr HT8
        go_wp2
        refine wp_region_sched' (G := Grows) (by kernel_rfl) Grows.refl Grows.trans (by kernel_rfl) [(0, true), (1, true), (2, true), (3, true), (4, true), (5, true), (6, true), (7, true), (8, true), (9, true), (10, true), (11, true), (12, true), (13, true), (14, true), (15, true), (16, true), (17, true), (18, true), (19, true), (20, true), (21, true), (22, true), (23, true), (24, true), (25, true), (26, true), (27, true), (28, true), (29, true), (30, true), (31, true), (32, true)] rfl (by kernel_rfl) ?_
        intro KK hKK
        rw [hWe.out]
        iterate 3 (refine sched_take rfl (by rfl) (v := ?_) ?_ ?_; rotate_left; (intro w' hw'; clear hw'; go_simp; with_reducible rfl); go_simp)
        refine sched_take rfl (by rfl) (v := .agg (C'.map bv).toArray) (fun w' hw' => exec_load_part 23 _ rfl g1 0 rfl (C'.map bv) _ ((HTW.out.a.later hw').chainB) Tryd.underlying23 rfl (by rw [HIK.out]; simp [hCl])) ?_
        go_simp
        iterate 3 (refine sched_take rfl (by rfl) (v := ?_) ?_ ?_; rotate_left; (intro w' hw'; clear hw'; go_simp; with_reducible rfl); go_simp)
        refine sched_take rfl (by rfl) (v := .agg (C'.map bv).toArray) (fun w' hw' => exec_load_part 23 _ rfl g2 0 rfl (C'.map bv) _ ((HTW.out.b.later hw').chainB) Tryd.underlying23 rfl (by rw [HIK.out]; simp [hCl])) ?_
        go_simp
        iterate 5 (refine sched_take rfl (by rfl) (v := ?_) ?_ ?_; rotate_left; (intro w' hw'; have q1 := arr_eq w' 23 32 C' C' hCl hCl Tryd.underlying23; rw [decide_eq_true rfl] at q1; clear hw'; go_simp; with_reducible rfl); go_simp)
        refine sched_take rfl (by rfl) (v := .agg (H'.map bv).toArray) (fun w' hw' => exec_load_part 23 _ rfl g1 32 rfl (H'.map bv) _ ((HTW.out.a.later hw').hashB) Tryd.underlying23 rfl (by rw [HIK.out]; simp [hHl])) ?_
        go_simp
        iterate 3 (refine sched_take rfl (by rfl) (v := ?_) ?_ ?_; rotate_left; (intro w' hw'; clear hw'; go_simp; with_reducible rfl); go_simp)
        refine sched_take rfl (by rfl) (v := .agg (H'.map bv).toArray) (fun w' hw' => exec_load_part 23 _ rfl g2 32 rfl (H'.map bv) _ ((HTW.out.b.later hw').hashB) Tryd.underlying23 rfl (by rw [HIK.out]; simp [hHl])) ?_
        go_simp
        iterate 15 (refine sched_take rfl (by rfl) (v := ?_) ?_ ?_; rotate_left; (intro w' hw'; have q1 := arr_eq w' 23 32 H' H' hHl hHl Tryd.underlying23; rw [decide_eq_true rfl] at q1; have q2 := (HTW.out.a.later hw').num.1; have q3 := (HTW.out.b.later hw').num.1; clear hw'; go_simp; with_reducible rfl); go_simp)
        refine sched_done hKK ?_
        clear hKK
        go_wp2
        exact ⟨⟨k + 1, C', H', K', has', n', by omega, by omega, by go_num, HTW⟩, by simp [intOf]; omega⟩
      · -- mixed in
        go_wp2_with fail
        refine (cmixhash_any g1 C H K has n ai ln ci m W HTW.out.a Hbm.out hnil (by omega) (by omega) hncm (HTab.out.later HTW.out.bel) hgt1).mono ?_
        rintro e w5 ⟨⟨v5, rfl⟩, hG5, hM5⟩
        obtain ⟨H', hH'⟩ : ∃ H', mixH H m = H' := ⟨_, rfl⟩
        rw [hH'] at hM5
        have HH := cipup hH'
        have HM5 := cipup hM5
        have HM2 := cipup (HTW.out.b.but hG5 (fun e => hg12 e.symm))
        have HW5 := cipup (below_but HTW.out.bel hG5 hwg1)
        clear hG5 hM5 HTW Hbm hH'
        go_wp2_with fail
        refine (cmixhash_any g2 C H K has n ai ln ci m w5 HM2.out (HBm.out.later HW5.out) hnil (by omega) (by omega) hncm (HTab.out.later HW5.out) hgt2).mono ?_
        rintro e w8 ⟨⟨v8, rfl⟩, hG8, hM8⟩
        rw [HH.out] at hM8
        obtain ⟨C', hC'⟩ : ∃ C', C = C' := ⟨_, rfl⟩
        obtain ⟨K', hK'⟩ : ∃ K', K = K' := ⟨_, rfl⟩
        obtain ⟨has', hh'⟩ : ∃ h, has = h := ⟨_, rfl⟩
        obtain ⟨n', hn'⟩ : ∃ n', n = n' := ⟨_, rfl⟩
        have HT8 : Hid (TwoM w g1 g2 C' H' K' has' n' w8) := by
          subst hC' hK' hh' hn'
          exact ⟨HM5.out.but hG8 hg12, hM8, below_but HW5.out hG8 hwg2⟩
        have hsn : n' ≤ k + 1 := by omega
        clear hG8 hM8 HM5 HM2 HW5 HH hC' hK' hh' hn'
        go_wp2
        have hCl := HT8.out.a.c
        have hHl := HT8.out.a.h
        obtain ⟨W, hW⟩ : ∃ W, w8.drew = W := ⟨_, rfl⟩
        have hgr : Below w8.heap.size w8 W := by rw [← hW]; exact (Below.refl _ _).drew
        have HTW : Hid (TwoM w g1 g2 C' H' K' has' n' W) := ⟨HT8.out.a.later hgr, HT8.out.b.later hgr, HT8.out.bel.trans (hgr.mono HT8.out.bel.size)⟩
        have hWe : Hid (w8.drew = W) := hW
        clear hW hgr HT8
        go_wp2
        refine wp_region_sched' (G := Grows) (by kernel_rfl) Grows.refl Grows.trans (by kernel_rfl) [(0, true), (1, true), (2, true), (3, true), (4, true), (5, true), (6, true), (7, true), (8, true), (9, true), (10, true), (11, true), (12, true), (13, true), (14, true), (15, true), (16, true), (17, true), (18, true), (19, true), (20, true), (21, true), (22, true), (23, true), (24, true), (25, true), (26, true), (27, true), (28, true), (29, true), (30, true), (31, true), (32, true)] rfl (by kernel_rfl) ?_
        intro KK hKK
        rw [hWe.out]
        iterate 3 (refine sched_take rfl (by rfl) (v := ?_) ?_ ?_; rotate_left; (intro w' hw'; clear hw'; go_simp; with_reducible rfl); go_simp)
        refine sched_take rfl (by rfl) (v := .agg (C'.map bv).toArray) (fun w' hw' => exec_load_part 23 _ rfl g1 0 rfl (C'.map bv) _ ((HTW.out.a.later hw').chainB) Tryd.underlying23 rfl (by rw [HIK.out]; simp [hCl])) ?_
        go_simp
        iterate 3 (refine sched_take rfl (by rfl) (v := ?_) ?_ ?_; rotate_left; (intro w' hw'; clear hw'; go_simp; with_reducible rfl); go_simp)
        refine sched_take rfl (by rfl) (v := .agg (C'.map bv).toArray) (fun w' hw' => exec_load_part 23 _ rfl g2 0 rfl (C'.map bv) _ ((HTW.out.b.later hw').chainB) Tryd.underlying23 rfl (by rw [HIK.out]; simp [hCl])) ?_
        go_simp
        iterate 5 (refine sched_take rfl (by rfl) (v := ?_) ?_ ?_; rotate_left; (intro w' hw'; have q1 := arr_eq w' 23 32 C' C' hCl hCl Tryd.underlying23; rw [decide_eq_true rfl] at q1; clear hw'; go_simp; with_reducible rfl); go_simp)
        refine sched_take rfl (by rfl) (v := .agg (H'.map bv).toArray) (fun w' hw' => exec_load_part 23 _ rfl g1 32 rfl (H'.map bv) _ ((HTW.out.a.later hw').hashB) Tryd.underlying23 rfl (by rw [HIK.out]; simp [hHl])) ?_
        go_simp
        iterate 3 (refine sched_take rfl (by rfl) (v := ?_) ?_ ?_; rotate_left; (intro w' hw'; clear hw'; go_simp; with_reducible rfl); go_simp)
        refine sched_take rfl (by rfl) (v := .agg (H'.map bv).toArray) (fun w' hw' => exec_load_part 23 _ rfl g2 32 rfl (H'.map bv) _ ((HTW.out.b.later hw').hashB) Tryd.underlying23 rfl (by rw [HIK.out]; simp [hHl])) ?_
        go_simp
        iterate 15 (refine sched_take rfl (by rfl) (v := ?_) ?_ ?_; rotate_left; (intro w' hw'; have q1 := arr_eq w' 23 32 H' H' hHl hHl Tryd.underlying23; rw [decide_eq_true rfl] at q1; have q2 := (HTW.out.a.later hw').num.1; have q3 := (HTW.out.b.later hw').num.1; clear hw'; go_simp; with_reducible rfl); go_simp)
        refine sched_done hKK ?_
        clear hKK
        go_wp2
        exact ⟨⟨k + 1, C', H', K', has', n', by omega, by omega, by go_num, HTW⟩, by simp [intOf]; omega⟩
    · by_cases hc1 : k < len1
      · have i1 : (k : Int) < (len1 : Int) := by omega
        have i2 : ¬ (k : Int) < 20 := by omega
        clear hc
        go_wp2_with fail
        refine (csplit_any g1 C H K has n wr HT.out.a (HTab.out.later HT.out.bel)).mono ?_
        rintro e w5 ⟨rfl, hb5⟩
        obtain ⟨D1, hD1⟩ : ∃ D, der1 C [] = D := ⟨_, rfl⟩
        obtain ⟨D2, hD2⟩ : ∃ D, der2 C [] = D := ⟨_, rfl⟩
        have d1l : D1.length = 32 := by rw [← hD1]; exact der1_length _ _
        have d2l : D2.length = 32 := by rw [← hD2]; exact der2_length _ _
        rw [hD1, hD2]
        have HD := cipup (And.intro hD1 hD2)
        have hlen1 : (CiV D1 true 0).length = 34 := by rw [CiV_length, d1l]
        have hlen2 : (CiV D2 true 0).length = 34 := by rw [CiV_length, d2l]
        obtain ⟨X1, X2, hst1, hst2, hc1, hc2, hbX⟩ := ci_place2 w5 D1 D2 true true 0 0 d1l d2l
        have HT2 : Hid (MiIs X2 g2 C H K has n) := (HT.out.b.later hb5).later hbX
        have HW2 := cipup ((HT.out.bel.trans (hb5.mono HT.out.bel.size)).trans (hbX.mono (Nat.le_trans HT.out.bel.size hb5.size)))
        have HC1 := cipup hc1
        have HC2 := cipup hc2
        simp only [ciZ] at hst1 hst2
        clear hb5 hD1 hD2 hc1 hc2 hbX HT
        go_wp2_with fail
        clear hst1 hst2
        generalize w5.heap.size = p1 at *
        refine (csplit_any g2 C H K has n X2 HT2.out (HTab.out.later HW2.out)).mono ?_
        rintro e w7 ⟨rfl, hb7⟩
        rw [HD.out.1, HD.out.2]
        obtain ⟨X3, X4, hst1, hst2, hc3, hc4, hbX⟩ := ci_place2 w7 D1 D2 true true 0 0 d1l d2l
        have HC3 := cipup hc3
        have HC4 := cipup hc4
        have HC1' := cipup ((HC1.out.later hb7).later hbX)
        have HC2' := cipup ((HC2.out.later hb7).later hbX)
        have HW4 := cipup ((HW2.out.trans (hb7.mono HW2.out.size)).trans (hbX.mono (Nat.le_trans HW2.out.size hb7.size)))
        have HQ1 := cipup (ci_eq X4 D1 D1 true true 0 0 d1l d1l)
        have HQ2 := cipup (ci_eq X4 D2 D2 true true 0 0 d2l d2l)
        have hd1 : decide (D1 = D1 ∧ true = true ∧ 0 = 0) = true := decide_eq_true (And.intro rfl (And.intro rfl rfl))
        have hd2 : decide (D2 = D2 ∧ true = true ∧ 0 = 0) = true := decide_eq_true (And.intro rfl (And.intro rfl rfl))
        rw [hd1] at HQ1
        rw [hd2] at HQ2
        simp only [ciZ] at hst1 hst2
        clear hb7 hc3 hc4 hbX HC1 HC2 HT2 HW2 HD hd1 hd2
        go_wp2_with (first | (refine wpList_load_metC (by rfl) 26 (.tmp 14) rfl p1 rfl 26 (CiV D1 true 0).toArray (0, 0) _ HC1'.out.row Tryd.underlying26 rfl (ci_info D1 true 0 HC1'.out.k) ?_; refine wpList_load_metC (by rfl) 26 (.tmp 16) rfl w7.heap.size rfl 26 (CiV D1 true 0).toArray (0, 0) _ HC3.out.row Tryd.underlying26 rfl (ci_info D1 true 0 HC3.out.k) ?_; refine wpList_cmp false (by rfl) (.tmp 145) (.tmp 146) 26 26 rfl (CiV D1 true 0).toArray (CiV D1 true 0).toArray rfl rfl Tryd.eqGuardType26 true HQ1.out ?_; go_wp2_with (first | (refine wpList_load_metC (by rfl) 26 (.tmp 15) rfl (p1 + 1) rfl 26 (CiV D2 true 0).toArray (0, 0) _ HC2'.out.row Tryd.underlying26 rfl (ci_info D2 true 0 HC2'.out.k) ?_; refine wpList_load_metC (by rfl) 26 (.tmp 17) rfl (w7.heap.size + 1) rfl 26 (CiV D2 true 0).toArray (0, 0) _ HC4.out.row Tryd.underlying26 rfl (ci_info D2 true 0 HC4.out.k) ?_; refine wpList_cmp false (by rfl) (.tmp 150) (.tmp 151) 26 26 rfl (CiV D2 true 0).toArray (CiV D2 true 0).toArray rfl rfl Tryd.eqGuardType26 true HQ2.out ?_; go_wp2) | fail)) | fail)
        go_ret
        exact ⟨rfl, HW4.out⟩
      · have i1 : ¬ (k : Int) < (len1 : Int) := by omega
        clear hc
        go_wp2_with fail
        refine (csplit_any g1 C H K has n wr HT.out.a (HTab.out.later HT.out.bel)).mono ?_
        rintro e w5 ⟨rfl, hb5⟩
        obtain ⟨D1, hD1⟩ : ∃ D, der1 C [] = D := ⟨_, rfl⟩
        obtain ⟨D2, hD2⟩ : ∃ D, der2 C [] = D := ⟨_, rfl⟩
        have d1l : D1.length = 32 := by rw [← hD1]; exact der1_length _ _
        have d2l : D2.length = 32 := by rw [← hD2]; exact der2_length _ _
        rw [hD1, hD2]
        have HD := cipup (And.intro hD1 hD2)
        have hlen1 : (CiV D1 true 0).length = 34 := by rw [CiV_length, d1l]
        have hlen2 : (CiV D2 true 0).length = 34 := by rw [CiV_length, d2l]
        obtain ⟨X1, X2, hst1, hst2, hc1, hc2, hbX⟩ := ci_place2 w5 D1 D2 true true 0 0 d1l d2l
        have HT2 : Hid (MiIs X2 g2 C H K has n) := (HT.out.b.later hb5).later hbX
        have HW2 := cipup ((HT.out.bel.trans (hb5.mono HT.out.bel.size)).trans (hbX.mono (Nat.le_trans HT.out.bel.size hb5.size)))
        have HC1 := cipup hc1
        have HC2 := cipup hc2
        simp only [ciZ] at hst1 hst2
        clear hb5 hD1 hD2 hc1 hc2 hbX HT
        go_wp2_with fail
        clear hst1 hst2
        generalize w5.heap.size = p1 at *
        refine (csplit_any g2 C H K has n X2 HT2.out (HTab.out.later HW2.out)).mono ?_
        rintro e w7 ⟨rfl, hb7⟩
        rw [HD.out.1, HD.out.2]
        obtain ⟨X3, X4, hst1, hst2, hc3, hc4, hbX⟩ := ci_place2 w7 D1 D2 true true 0 0 d1l d2l
        have HC3 := cipup hc3
        have HC4 := cipup hc4
        have HC1' := cipup ((HC1.out.later hb7).later hbX)
        have HC2' := cipup ((HC2.out.later hb7).later hbX)
        have HW4 := cipup ((HW2.out.trans (hb7.mono HW2.out.size)).trans (hbX.mono (Nat.le_trans HW2.out.size hb7.size)))
        have HQ1 := cipup (ci_eq X4 D1 D1 true true 0 0 d1l d1l)
        have HQ2 := cipup (ci_eq X4 D2 D2 true true 0 0 d2l d2l)
        have hd1 : decide (D1 = D1 ∧ true = true ∧ 0 = 0) = true := decide_eq_true (And.intro rfl (And.intro rfl rfl))
        have hd2 : decide (D2 = D2 ∧ true = true ∧ 0 = 0) = true := decide_eq_true (And.intro rfl (And.intro rfl rfl))
        rw [hd1] at HQ1
        rw [hd2] at HQ2
        simp only [ciZ] at hst1 hst2
        clear hb7 hc3 hc4 hbX HC1 HC2 HT2 HW2 HD hd1 hd2
        go_wp2_with (first | (refine wpList_load_metC (by rfl) 26 (.tmp 14) rfl p1 rfl 26 (CiV D1 true 0).toArray (0, 0) _ HC1'.out.row Tryd.underlying26 rfl (ci_info D1 true 0 HC1'.out.k) ?_; refine wpList_load_metC (by rfl) 26 (.tmp 16) rfl w7.heap.size rfl 26 (CiV D1 true 0).toArray (0, 0) _ HC3.out.row Tryd.underlying26 rfl (ci_info D1 true 0 HC3.out.k) ?_; refine wpList_cmp false (by rfl) (.tmp 145) (.tmp 146) 26 26 rfl (CiV D1 true 0).toArray (CiV D1 true 0).toArray rfl rfl Tryd.eqGuardType26 true HQ1.out ?_; go_wp2_with (first | (refine wpList_load_metC (by rfl) 26 (.tmp 15) rfl (p1 + 1) rfl 26 (CiV D2 true 0).toArray (0, 0) _ HC2'.out.row Tryd.underlying26 rfl (ci_info D2 true 0 HC2'.out.k) ?_; refine wpList_load_metC (by rfl) 26 (.tmp 17) rfl (w7.heap.size + 1) rfl 26 (CiV D2 true 0).toArray (0, 0) _ HC4.out.row Tryd.underlying26 rfl (ci_info D2 true 0 HC4.out.k) ?_; refine wpList_cmp false (by rfl) (.tmp 150) (.tmp 151) 26 26 rfl (CiV D2 true 0).toArray (CiV D2 true 0).toArray rfl rfl Tryd.eqGuardType26 true HQ2.out ?_; go_wp2) | fail)) | fail)
        go_ret
        exact ⟨rfl, HW4.out⟩
end Go.Proofs.YtdancpcnjklifaaDoor.cipherBoth
