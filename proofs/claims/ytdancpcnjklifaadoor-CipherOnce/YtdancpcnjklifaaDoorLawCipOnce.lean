/- CipherOnce: no number is used twice, and none behind the last. For every key, number, and row of rows of bytes, where the program's tables are as its text lays them. -/
import Derived.Test.YtdancpcnjklifaaDoorCipShown
import Derived.Test.YtdancpcnjklifaaDoorCipF
import Derived.Test.YtdancpcnjklifaaDoorAead
namespace Go.Proofs.YtdancpcnjklifaaDoor.cipherOnce
open Go.ChangeShapes Go.WideShapes Go.ChangeAt Go.RowKit
set_option linter.unusedVariables false
set_option maxRecDepth 100000

/-- What has been laid of a nonce, when k bytes of the number have been put. -/
def idTo (n k : Nat) : List UInt8 := List.replicate 4 0 ++ ((leB 8 n).take k ++ List.replicate (8 - k) 0)
theorem idTo_zero (n : Nat) : idTo n 0 = List.replicate 12 0 := rfl
theorem idTo_all (n : Nat) : idTo n 8 = nonceB n := by
  unfold idTo nonceB putB
  rw [List.take_of_length_le (by rw [leB_length]; exact Nat.le_refl _)]
  simp
theorem idTo_length (n k : Nat) (h : k ≤ 8) : (idTo n k).length = 12 := by simp [idTo, leB_length]; omega
theorem idTo_set (n k : Nat) (h : k < 8) : (idTo n k).set (4 + k) (at8 (leB 8 n) k) = idTo n (k + 1) := by
  have hl : (leB 8 n).length = 8 := leB_length 8 n
  unfold idTo
  rw [List.set_append_right _ _ (by simp), List.length_replicate, Nat.add_sub_cancel_left, List.set_append_right _ _ (by simp [hl]; omega), List.length_take, hl, Nat.min_eq_left (by omega), Nat.sub_self, show 8 - k = (8 - (k + 1)) + 1 by omega, List.replicate_succ (n := 8 - (k + 1)), List.set_cons_zero]
  rw [take_at _ _ (by omega), List.append_assoc]
  rfl
theorem byte_of (n k : Nat) (h : k < 8) : ((n : Int) / 2 ^ (8 * k)) % 256 = ((at8 (leB 8 n) k).toNat : Int) := by
  have h1 := putB_at 8 n false k h
  have e : (8 * posI false ((8 : Nat) : Int) (k : Int)).toNat = 8 * k := by simp [posI]; omega
  rw [e] at h1
  exact h1.symm
set_option maxHeartbeats 4000000 in
theorem walk (l0 : List UInt8) (a1 : Int) (a2 : Option Addr) (len2 cap2 : Nat) (w : World) (w0 : l0.length = 32) (w1 : (Lit.int .i64 a1).wf = true) (w2 : IsRows w a2 len2 cap2) (htab : Tab w) :
    Calls Tryd.prog 4 #[.agg (l0.map bv).toArray, .int .i64 a1, .slice a2 len2 cap2] w fun e w' => e = .returned (.bool true) ∧ Below w.heap.size w w' := by
  obtain ⟨q, hq0, hqn⟩ := cut16 a1 20
  have hq : (bits .and .i64 a1 65535).tmod 21 = (q : Int) := hq0
  obtain ⟨N0, hN0⟩ : ∃ N0 : Nat, 18446744073709551615 - q = N0 := ⟨_, rfl⟩
  have hu1 : IntKind.u64.wrap (q : Int) = (q : Int) := by rw [IntKind.wrap_u64]; omega
  have hu2 : IntKind.u64.wrap ((18446744073709551615 : Int) - (q : Int)) = (N0 : Int) := by rw [IntKind.wrap_u64]; omega
  have HR0 : Hid (IsRows w a2 len2 cap2) := w2
  have hIK : Hid ((Tryd.prog.info? 23).map (·.size) = some (l0.map bv).toArray.size) := info_size (by kernel_rfl) l0 w0
  have HTab := cipup htab
  clear htab w1 w2 hq0
  go_enter Tryd.func4, Tryd.ntmps4
  go_wp2_with fail
  have hbK : Below w.heap.size w (w.alloc (.cells (l0.map bv).toArray 23)) := (Below.refl _ _).alloc (Nat.le_refl _) _
  refine (cipShown_any _ (HTab.out.later hbK)).mono ?_
  rintro e w4 ⟨rfl, hb4⟩
  have HK4 : Hid (Arr w4 w.heap.size 23 l0) := (Arr.new w _ l0).later hb4
  have hw4 : Below w.heap.size w w4 := hbK.trans (hb4.mono hbK.size)
  obtain ⟨W1, hst1, hC1, hb1, hw1, hs1⟩ := ci_place w w4 hw4 l0 true N0 w0
  have hlen : (CiV l0 true N0).length = 34 := by rw [CiV_length, w0]
  have hwg : w.heap.size < w4.heap.size := by have := hb4.size; simp at this; omega
  have HC1 := cipup hC1
  have HW1 := cipup hw1
  have HK1 := cipup (HK4.out.later hb1)
  simp only [ciZ] at hst1
  clear hbK hb4 hw4 hC1 hb1 hw1 hs1
  go_wp2_with (first | refine wpList_load_row rfl 23 _ rfl w.heap.size rfl 23 _ (0, 0) _ HK4.out Tryd.underlying23 rfl hIK.out ?_ | refine wpList_ci3 l0 true N0 w0 rfl (.tmp 20) (.const (.bool true)) (.tmp 23) rfl rfl rfl rfl ?_ | fail)
  clear hst1 hlen HK4 hq hu1 hu2
  generalize w4.heap.size = g1 at *
  go_loopw [9] (fun i wr => ∃ (k N : Nat), k ≤ 30 ∧ N = N0 + min k q ∧ i = .int .i64 k ∧ Hid (CiIs wr g1 l0 true N) ∧ Hid (Arr wr w.heap.size 23 l0) ∧ Hid (Below w.heap.size w wr)) (fun i _ => 30 - (intOf i).toNat)
  case atStart => exact ⟨0, N0, by omega, by simp, rfl, HC1, HK1, HW1⟩
  case round =>
    clear HC1 HK1 HW1
    obtain ⟨k, N, hk, hN, rfl, HC, HK, HW⟩ := hrel
    have HN := cipup hN
    have hNl : N ≤ 18446744073709551615 := by omega
    have hNq : k < q → N < 18446744073709551615 := by omega
    clear hN
    by_cases hc : k < len2 ∧ k < 30
    · obtain ⟨hc1, hc2⟩ := hc
      have i1 : (k : Int) < (len2 : Int) := by omega
      have i2 : (k : Int) < 30 := by omega
      obtain ⟨b, off, rfl, hbw, hrows⟩ := rows_at HR0.out (by omega)
      obtain ⟨ai, li, ci, zs, hcell, hrow⟩ := hrows k hc1
      have hnil := cip_nil hrow
      obtain ⟨m, n, hnE0, hn1, hn2, hnc, hncm, hBm⟩ := cut_row hrow 50
      have hnE : (if (50 : Int) < (li : Int) then (50 : Int) else (li : Int)) = (n : Int) := hnE0
      have hml := hBm.1
      obtain ⟨W, hWd⟩ : ∃ W, wr.drew = W := ⟨_, rfl⟩
      have HWd : Hid (wr.drew = W) := hWd
      have hgr : Below wr.heap.size wr W := by rw [← hWd]; exact (Below.refl _ _).drew
      have HCW := cipup (HC.out.later hgr)
      have HKW := cipup (HK.out.later hgr)
      have HWW := cipup (HW.out.trans (hgr.mono HW.out.size))
      have hcW : ∀ w', Grows W w' → w'.cell? ⟨b, off + k, none⟩ = some (.slice ai li ci) := fun w' hw' => by
        have h2 := HWW.out.size
        rw [World.cell?_of_block (hw'.block b (by omega)), World.cell?_of_block (HWW.out.block b hbw)]
        exact hcell
      have HBm : Hid (Byt w ai n m) := hBm
      have e1 : (n : Int) ≤ (ci : Int) := by omega
      have hcm' : ci ≤ 9223372036854775807 := by unfold maxLen at hncm; exact hncm
      obtain ⟨q1, _⟩ := HCW.out.num
      clear hnE0 hBm hrow hcell hrows hWd hgr HC HK HW
      go_wp2
      refine wp_region_sched' (G := Grows) (by kernel_rfl) Grows.refl Grows.trans (by kernel_rfl) [(0, true), (1, true), (2, true), (3, true), (4, true), (5, true), (6, true), (7, true), (8, true), (9, true), (10, true), (11, true)] rfl (by kernel_rfl) ?_
      intro KK hKK
      rw [HWd.out]
      iterate 12 (refine sched_take rfl (by rfl) (v := ?_) ?_ ?_; rotate_left; (intro w' hw'; have q1 := hcW w' hw'; clear hw'; go_simp; with_reducible rfl); go_simp)
      refine sched_done hKK ?_
      clear hKK hcW HWd
      have hbm := HBm.out.later HWW.out
      go_wp2_with fail
      refine (cseal_any g1 l0 true N none 0 0 [] ai n ci m _ HCW.out hNl ⟨rfl, .inl rfl⟩ (fun _ => rfl) (by omega) (by omega) (by unfold maxLen; omega) hbm hnil (by omega) (by omega) hncm).mono ?_
      rintro e w5 ⟨v5, rfl, hG5, hC5, own5⟩
      have HK5 : Hid (Arr w5 w.heap.size 23 l0) := by
        show w5.heap[w.heap.size]? = _
        rw [hG5.block _ HKW.out.lt (fun e => by cases e; omega)]
        exact HKW.out
      have HW5 := cipup (below_but HWW.out hG5 (by omega))
      by_cases hkq : k < q
      · have j1 : ¬ (q : Int) ≤ (k : Int) := by omega
        have hN1 := hNq hkq
        have hln : N ≠ lastN := by unfold lastN; omega
        have hso : sOut l0 true N [] m = sealB l0 (nonceB N) [] m := by simp [sOut, hln]
        have hse : sErr true N = 0 := by simp [sErr, hln]
        have hsn : sNum true N = N + 1 := by simp [sNum, hln]
        obtain ⟨X, hX⟩ : ∃ X, sealB l0 (nonceB N) [] m = X := ⟨_, rfl⟩
        have hXl : X.length = n + 16 := by rw [← hX, sealB_length, hml]
        rw [hso, hX] at own5
        rw [hXl] at own5
        rw [hse]
        rw [hsn] at hC5
        have HX := cipup hX
        have HC5 := cipup hC5
        obtain ⟨a5, c5, rfl, hB5, hc5, hm5, hn5⟩ := own_parts own5
        have HB5 := cipup hB5
        have hN64 : N < 18446744073709551616 := by omega
        have HI0 : Hid (Arr (w5.alloc (.cells ((idTo N 0).map bv).toArray 40)) w5.heap.size 40 (idTo N 0)) := Arr.new w5 _ _
        have HB0 : Hid (Below w5.heap.size w5 (w5.alloc (.cells ((idTo N 0).map bv).toArray 40))) := (Below.refl _ _).alloc (Nat.le_refl _) _
        clear hbm hG5 hC5 own5 hB5 hn5 hX hso hse hsn HCW HKW HWW q1
        go_wp2
        go_loopw [15] (fun i wr => ∃ t : Nat, t ≤ 8 ∧ i = .int .i64 t ∧ Hid (Arr wr w5.heap.size 40 (idTo N t)) ∧ Hid (Below w5.heap.size w5 wr)) (fun i _ => 8 - (intOf i).toNat)
        case atStart => exact ⟨0, by omega, rfl, HI0, HB0⟩
        case round =>
          clear HI0 HB0
          obtain ⟨t, ht, rfl, HI, HB⟩ := hrel
          by_cases htl : t < 8
          · have t1 : (t : Int) < 8 := by omega
            obtain ⟨p, hp⟩ : ∃ p, 4 + t = p := ⟨_, rfl⟩
            have t2 : (4 : Int) + (t : Int) = (p : Int) := by omega
            have t3 : (p : Int) < 12 := by omega
            obtain ⟨s, hs⟩ : ∃ s, 8 * t = s := ⟨_, rfl⟩
            have t5 : (8 : Int) * (t : Int) = (s : Int) := by omega
            have t6 : s < 64 := by omega
            obtain ⟨d, hd⟩ : ∃ d, at8 (leB 8 N) t = d := ⟨_, rfl⟩
            have hv : IntKind.u8.wrap ((N : Int) / 2 ^ s) = (d.toNat : Int) := by
              rw [IntKind.wrap_u8, ← hs, ← hd]
              exact byte_of N t htl
            obtain ⟨cI, fI⟩ := HI.out.at_ p (by rw [idTo_length N t ht]; omega)
            have hset := HI.out.set p d
            have e5 := idTo_set N t htl
            rw [hp, hd] at e5
            rw [e5] at hset
            have HI2 := cipup hset
            have HB2 := cipup (HB.out.setCell (p := ⟨w5.heap.size, p, none⟩) (Nat.le_refl _) (.int .u8 (d.toNat : Int)))
            clear hp hs hd hset e5 HI HB
            go_wp2
            exact ⟨⟨t + 1, by omega, by go_num, HI2, HB2⟩, by simp [intOf]; omega⟩
          · have et : t = 8 := by omega
            subst et
            have hI8 : Arr wr w5.heap.size 40 (nonceB N) := by rw [← idTo_all]; exact HI.out
            have hNn := nonceB_length N
            have hIKd : Hid ((Tryd.prog.info? 40).map (·.size) = some ((nonceB N).map bv).toArray.size) := info_size (by kernel_rfl) (nonceB N) hNn
            obtain ⟨W, hWd⟩ : ∃ W, wr.drew = W := ⟨_, rfl⟩
            have HWd : Hid (wr.drew = W) := hWd
            have hgr : Below wr.heap.size wr W := by rw [← hWd]; exact (Below.refl _ _).drew
            have hg5 : Below w5.heap.size w5 W := HB.out.trans (hgr.mono HB.out.size)
            have HCW := cipup (HC5.out.later hg5)
            have HKW := cipup (HK5.out.later hg5)
            have HIW := cipup (hI8.later hgr)
            have HBW := cipup (HB5.out.later hg5)
            have HWW := cipup (HW5.out.trans (hg5.mono HW5.out.size))
            have Hbm := cipup (HBm.out.later HWW.out)
            have hw1 : IntKind.u64.wrap ((N : Int) + 1) = (N : Int) + 1 := by rw [IntKind.wrap_u64]; omega
            have hz1 : (S X).size = n + 16 := hXl
            clear hI8 hWd hgr hg5 HC5 HK5 HB5 HW5 HI HB
            generalize w5.heap.size = gi at *
            go_wp2
            refine wp_region_sched' (G := Grows) (by kernel_rfl) Grows.refl Grows.trans (by kernel_rfl) [(0, true), (1, true), (2, true), (3, true), (4, true), (5, true), (6, true), (7, true), (8, true), (9, true), (10, true), (11, true), (12, true), (13, true), (14, true), (15, false), (16, true), (17, true), (18, true)] rfl (by kernel_rfl) ?_
            intro KK hKK
            rw [HWd.out]
            iterate 12 (refine sched_take rfl (by rfl) (v := ?_) ?_ ?_; rotate_left; (intro w' hw'; have q1 := (HCW.out.later hw').num.1; have q2 := conv_bytes w' a5 (n + 16) c5 X (HBW.out.on hw'); clear hw'; go_simp; with_reducible rfl); go_simp)
            refine sched_take rfl (by rfl) (v := .agg (l0.map bv).toArray) (fun w' hw' => exec_load_row 23 _ rfl w.heap.size rfl 23 _ (0, 0) _ (HKW.out.later hw') Tryd.underlying23 rfl hIK.out) ?_
            go_simp
            refine sched_take rfl (by rfl) (v := .agg ((nonceB N).map bv).toArray) (fun w' hw' => exec_load_row 40 _ rfl gi rfl 40 _ (0, 0) _ (HIW.out.later hw') Tryd.underlying40 rfl hIKd.out) ?_
            go_simp
            iterate 1 (refine sched_take rfl (by rfl) (v := ?_) ?_ ?_; rotate_left; (intro w' hw'; clear hw'; go_simp; with_reducible rfl); go_simp)
            refine sched_call (f := 16) (args := #[.agg (l0.map bv).toArray, .agg ((nonceB N).map bv).toArray, .slice none 0 0, .slice ai n ci]) rfl (by rfl) (by go_simp) ?_
            refine (seal_any l0 (nonceB N) none 0 0 [] ai n ci m W w0 hNn ⟨rfl, .inl rfl⟩ (fun _ => rfl) (by omega) (by omega) (by unfold maxLen; omega) Hbm.out hnil (by omega) (by omega) hncm).mono ?_
            rintro e w7 ⟨v7, rfl, hb7, own7⟩
            rw [HX.out] at own7
            refine ⟨_, rfl, hb7, ?_⟩
            obtain ⟨a7, c7, rfl, hB7, _, _, _⟩ := own_parts own7
            have HB7 := cipup hB7
            have HC7 := cipup (HCW.out.later hb7)
            have HK7 := cipup (HKW.out.later hb7)
            have HW7 := cipup (HWW.out.trans (hb7.mono HWW.out.size))
            have q5 := S_beq X X
            clear hb7 own7 hB7 HCW HKW HIW HBW HWW Hbm HWd hIKd
            go_simp
            iterate 3 (refine sched_take rfl (by rfl) (v := ?_) ?_ ?_; rotate_left; (intro w' hw'; have q1 := conv_bytes w' a7 (n + 16) c7 X (HB7.out.on hw'); clear hw'; go_simp; with_reducible rfl); go_simp)
            refine sched_done hKK ?_
            clear hKK q5
            go_wp2
            exact ⟨⟨k + 1, N + 1, by omega, by have := HN.out; omega, by go_num, HC7, HK7, HW7⟩, by simp [intOf]; omega⟩
      · have j1 : (q : Int) ≤ (k : Int) := by omega
        have hNe : N = 18446744073709551615 := by have := HN.out; omega
        subst hNe
        rw [show sErr true 18446744073709551615 = 5 from rfl]
        have e1 : sOut l0 true 18446744073709551615 [] m = [] := rfl
        have e2 : sNum true 18446744073709551615 = 18446744073709551615 := rfl
        rw [e1] at own5
        rw [e2] at hC5
        obtain ⟨a5, c5, rfl, _, _, _, _⟩ := own_parts own5
        have HC5 := cipup hC5
        obtain ⟨q1, _⟩ := hC5.num
        simp only [List.length_nil]
        clear hbm hG5 hC5 own5 HCW HKW HWW e1 e2
        go_wp2
        exact ⟨⟨k + 1, 18446744073709551615, by omega, by have := HN.out; omega, by go_num, HC5, HK5, HW5⟩, by simp [intOf]; omega⟩
    · by_cases hc1 : k < len2
      · have i1 : (k : Int) < (len2 : Int) := by omega
        have i2 : ¬ (k : Int) < 30 := by omega
        go_wp2
        go_ret
        exact ⟨rfl, HW.out⟩
      · have i1 : ¬ (k : Int) < (len2 : Int) := by omega
        go_wp2
        go_ret
        exact ⟨rfl, HW.out⟩
end Go.Proofs.YtdancpcnjklifaaDoor.cipherOnce
