/- ChachaSums: two texts of one stream differ just as they did. For every key, counter, nonce and two rows of bytes, without a condition. -/
import Derived.Test.YtgfpoedgbhfkaaaChaShown
namespace Go.Proofs.Ytgfpoedgbhfkaaa.chachaSums
open Go.ChangeShapes Go.WideShapes Go.ChangeAt Go.RowKit
set_option linter.unusedVariables false

set_option maxHeartbeats 2000000 in
set_option maxRecDepth 100000 in
theorem walk (l0 : List UInt8) (a1 : Int) (l2 : List UInt8) (a3 : Option Addr) (len3 cap3 : Nat) (z3 : List Int) (a4 : Option Addr) (len4 cap4 : Nat) (z4 : List Int) (w : World) (w0 : l0.length = 32) (w1 : (Lit.int .u32 a1).wf = true) (w2 : l2.length = 12) (w3 : IsRow .u8 w a3 len3 cap3 z3) (w4 : IsRow .u8 w a4 len4 cap4 z4) :
    Calls Try.prog 7 #[.agg (l0.map bv).toArray, .int .u32 a1, .agg (l2.map bv).toArray, .slice a3 len3 cap3, .slice a4 len4 cap4] w fun e w' => e = .returned (.bool true) ∧ Below w.heap.size w w' := by
  obtain ⟨X, rfl⟩ := u32_word a1 w1
  obtain ⟨n, hn⟩ : ∃ n, n = min (min len3 len4) 300 := ⟨_, rfl⟩
  obtain ⟨m, n3, hE3, _, hn32, hnc, hncm, hBm⟩ := cut_row w3 n
  obtain rfl : n3 = n := by split at hE3 <;> omega
  obtain ⟨p, n4, hE4, _, hn42, hpc, hpcm, hBp⟩ := cut_row w4 n3
  obtain rfl : n4 = n3 := by split at hE4 <;> omega
  have hn300 : n4 ≤ 300 := by omega
  obtain ⟨k0, hk0⟩ : ∃ k0, k0 = min len3 len4 := ⟨_, rfl⟩
  have hmin1 : (if len4 < len3 then (len4 : Int) else (len3 : Int)) = (k0 : Int) := by split <;> omega
  have hmin2 : (if (300 : Int) < (k0 : Int) then (300 : Int) else (k0 : Int)) = (n4 : Int) := by split <;> omega
  have hi3 : (n4 : Int) ≤ (cap3 : Int) := by omega
  have hi4 : (n4 : Int) ≤ (cap4 : Int) := by omega
  clear hk0
  have hlm := hBm.1
  have hlp := hBp.1
  clear hE3 hE4 w1 w3 w4 hn
  have HB0 : Hid (Byt w a3 n4 m) := hBm
  have HP0 : Hid (Byt w a4 n4 p) := hBp
  clear hBm hBp
  go_enter Try.func7, Try.ntmps7
  go_wp2_with fail
  refine (chaShown_any _).mono ?_
  rintro e w4 ⟨rfl, hb4⟩
  have HN4 : Hid (KN w4 w.heap.size (w.heap.size + 1) l0 l2) := (KN.new w l0 l2).later hb4
  have hbel0 : Below w.heap.size w ((w.alloc (.cells (l0.map bv).toArray 23)).alloc (.cells (l2.map bv).toArray 26)) := ((Below.refl _ _).alloc (Nat.le_refl _) _).alloc (by simp) _
  have HW4 : Hid (Below w.heap.size w w4) := hbel0.trans (hb4.mono hbel0.size)
  have HB4 : Hid (Byt w4 a3 n4 m) := HB0.out.later HW4.out
  have HP4 : Hid (Byt w4 a4 n4 p) := HP0.out.later HW4.out
  obtain ⟨ik, iN⟩ := KN.info w0 w2
  have IK : Hid ((Try.prog.info? 23).map (·.size) = some (l0.map bv).toArray.size) := ik
  have IN : Hid ((Try.prog.info? 26).map (·.size) = some (l2.map bv).toArray.size) := iN
  clear hb4 hbel0 ik iN
  go_wp2
  refine wp_region_sched' (G := Grows) (by kernel_rfl) Grows.refl Grows.trans (by kernel_rfl) [(0, true), (1, true), (2, true), (3, true), (4, true), (5, true), (6, false), (7, true)] rfl (by kernel_rfl) ?_
  intro KK5 hKK5
  obtain ⟨W5, hW5⟩ : ∃ W, w4.drew = W := ⟨_, rfl⟩
  have hgr5 : Below w4.heap.size w4 W5 := by rw [← hW5]; exact (Below.refl _ _).drew
  have HNW : Hid (KN W5 w.heap.size (w.heap.size + 1) l0 l2) := HN4.out.later hgr5
  have HWW : Hid (Below w.heap.size w W5) := HW4.out.trans (hgr5.mono HW4.out.size)
  have HBW : Hid (Byt W5 a3 n4 m) := HB4.out.later hgr5
  have HPW : Hid (Byt W5 a4 n4 p) := HP4.out.later hgr5
  rw [hW5]
  clear hgr5 hW5 HN4 HW4
  refine sched_take rfl (by rfl) (v := .agg (l0.map bv).toArray) (fun w' hw' => exec_load_row 23 _ rfl w.heap.size rfl 23 _ (0, 0) _ (HNW.out.later hw').k Try.underlying23 rfl IK.out) ?_
  go_simp
  iterate 1 (refine sched_take rfl (by rfl) (v := ?_) ?_ ?_; rotate_left; (intro w' hw'; go_simp; with_reducible rfl); go_simp)
  refine sched_take rfl (by rfl) (v := .agg (l2.map bv).toArray) (fun w' hw' => exec_load_row 26 _ rfl (w.heap.size + 1) rfl 26 _ (0, 0) _ (HNW.out.later hw').n Try.underlying26 rfl IN.out) ?_
  go_simp
  iterate 3 (refine sched_take rfl (by rfl) (v := ?_) ?_ ?_; rotate_left; (intro w' hw'; go_simp; with_reducible rfl); go_simp)
  refine sched_call (f := 11) (args := #[.agg (l0.map bv).toArray, .int .u32 (X.toNat : Int), .agg (l2.map bv).toArray, .slice a3 n4 cap3]) rfl (by rfl) (by go_simp) ?_
  refine (stream_any l0 l2 X a3 n4 cap3 _ _ w0 w2 HBW.out (by omega) (by omega) hncm).mono ?_
  rintro e w6 ⟨a6, c6, rfl, hb6, hB6, hc6, hc6m⟩
  refine ⟨_, rfl, hb6, ?_⟩
  have HN6 : Hid (KN w6 w.heap.size (w.heap.size + 1) l0 l2) := HNW.out.later hb6
  have HW6 : Hid (Below w.heap.size w w6) := HWW.out.trans (hb6.mono HWW.out.size)
  have HB6 : Hid (Byt w6 a3 n4 m) := HBW.out.later hb6
  have HP6 : Hid (Byt w6 a4 n4 p) := HPW.out.later hb6
  have HX6 : Hid (Byt w6 a6 n4 (stm l0 X l2 m)) := hB6
  clear hb6 hB6 HNW HWW HBW HPW HB4 HP4 HB0 HP0
  go_simp
  iterate 1 (refine sched_take rfl (by rfl) (v := ?_) ?_ ?_; rotate_left; (intro w' hw'; go_simp; with_reducible rfl); go_simp)
  refine sched_done hKK5 ?_
  go_wp2
  refine wp_region_sched' (G := Grows) (by kernel_rfl) Grows.refl Grows.trans (by kernel_rfl) [(0, true), (1, true), (2, true), (3, true), (4, true), (5, true), (6, false), (7, true)] rfl (by kernel_rfl) ?_
  intro KK7 hKK7
  obtain ⟨W7, hW7⟩ : ∃ W, w6.drew = W := ⟨_, rfl⟩
  have hgr7 : Below w6.heap.size w6 W7 := by rw [← hW7]; exact (Below.refl _ _).drew
  have HNW : Hid (KN W7 w.heap.size (w.heap.size + 1) l0 l2) := HN6.out.later hgr7
  have HWW : Hid (Below w.heap.size w W7) := HW6.out.trans (hgr7.mono HW6.out.size)
  have HBW : Hid (Byt W7 a3 n4 m) := HB6.out.later hgr7
  have HPW : Hid (Byt W7 a4 n4 p) := HP6.out.later hgr7
  have HXW : Hid (Byt W7 a6 n4 (stm l0 X l2 m)) := HX6.out.later hgr7
  rw [hW7]
  clear hgr7 hW7 HN6 HW6
  refine sched_take rfl (by rfl) (v := .agg (l0.map bv).toArray) (fun w' hw' => exec_load_row 23 _ rfl w.heap.size rfl 23 _ (0, 0) _ (HNW.out.later hw').k Try.underlying23 rfl IK.out) ?_
  go_simp
  iterate 1 (refine sched_take rfl (by rfl) (v := ?_) ?_ ?_; rotate_left; (intro w' hw'; go_simp; with_reducible rfl); go_simp)
  refine sched_take rfl (by rfl) (v := .agg (l2.map bv).toArray) (fun w' hw' => exec_load_row 26 _ rfl (w.heap.size + 1) rfl 26 _ (0, 0) _ (HNW.out.later hw').n Try.underlying26 rfl IN.out) ?_
  go_simp
  iterate 3 (refine sched_take rfl (by rfl) (v := ?_) ?_ ?_; rotate_left; (intro w' hw'; go_simp; with_reducible rfl); go_simp)
  refine sched_call (f := 11) (args := #[.agg (l0.map bv).toArray, .int .u32 (X.toNat : Int), .agg (l2.map bv).toArray, .slice a4 n4 cap4]) rfl (by rfl) (by go_simp) ?_
  refine (stream_any l0 l2 X a4 n4 cap4 _ _ w0 w2 HPW.out (by omega) (by omega) hpcm).mono ?_
  rintro e w8 ⟨a8, c8, rfl, hb8, hB8, hc8, hc8m⟩
  refine ⟨_, rfl, hb8, ?_⟩
  have HW8 : Hid (Below w.heap.size w w8) := HWW.out.trans (hb8.mono HWW.out.size)
  have HB8 : Hid (Byt w8 a3 n4 m) := HBW.out.later hb8
  have HP8 : Hid (Byt w8 a4 n4 p) := HPW.out.later hb8
  have HX8 : Hid (Byt w8 a6 n4 (stm l0 X l2 m)) := HXW.out.later hb8
  have HY8 : Hid (Byt w8 a8 n4 (stm l0 X l2 p)) := hB8
  clear hb8 hB8 HNW HWW HBW HPW HXW HB6 HP6 HX6
  go_simp
  iterate 1 (refine sched_take rfl (by rfl) (v := ?_) ?_ ?_; rotate_left; (intro w' hw'; go_simp; with_reducible rfl); go_simp)
  refine sched_done hKK7 ?_
  go_wp2
  go_loopw [15] (fun i wr => ∃ k : Nat, k ≤ n4 ∧ i = .int .i64 k ∧ Hid (Below w.heap.size w wr) ∧ Hid (Byt wr a3 n4 m) ∧ Hid (Byt wr a4 n4 p) ∧ Hid (Byt wr a6 n4 (stm l0 X l2 m)) ∧ Hid (Byt wr a8 n4 (stm l0 X l2 p))) (fun i _ => n4 - (intOf i).toNat)
  case atStart => exact ⟨0, Nat.zero_le _, rfl, HW8, HB8, HP8, HX8, HY8⟩
  case round =>
    clear HW8 HB8 HP8 HX8 HY8
    obtain ⟨k, hk, rfl, HW, HB, HP, HX, HY⟩ := hrel
    by_cases hlt : k < n4
    · have i1 : (k : Int) < (n4 : Int) := by omega
      have i2 : k < len3 := by omega
      have i3 : k < len4 := by omega
      obtain ⟨b3, o3, rfl, c3⟩ := HB.out.at_ k hlt
      obtain ⟨b4, o4, rfl, c4⟩ := HP.out.at_ k hlt
      obtain ⟨b6, o6, rfl, c6'⟩ := HX.out.at_ k hlt
      obtain ⟨b8, o8, rfl, c8'⟩ := HY.out.at_ k hlt
      obtain ⟨W, hW⟩ : ∃ W, wr.drew = W := ⟨_, rfl⟩
      have d3 : W.cell? ⟨b3, o3 + k, none⟩ = some (.int .u8 ((at8 m k).toNat : Int)) := by rw [← hW]; exact c3
      have d4 : W.cell? ⟨b4, o4 + k, none⟩ = some (.int .u8 ((at8 p k).toNat : Int)) := by rw [← hW]; exact c4
      have d6 : W.cell? ⟨b6, o6 + k, none⟩ = some (.int .u8 ((at8 (stm l0 X l2 m) k).toNat : Int)) := by rw [← hW]; exact c6'
      have d8 : W.cell? ⟨b8, o8 + k, none⟩ = some (.int .u8 ((at8 (stm l0 X l2 p) k).toNat : Int)) := by rw [← hW]; exact c8'
      have e1 := xor_val8 (at8 m k) (at8 p k)
      have e2 : bits .xor .u8 ((at8 (stm l0 X l2 m) k).toNat : Int) ((at8 (stm l0 X l2 p) k).toNat : Int) = ((at8 m k ^^^ at8 p k).toNat : Int) := by
        rw [xor_val8, stm_at _ _ _ _ _ (by omega), stm_at _ _ _ _ _ (by omega)]
        generalize at8 m k = x
        generalize at8 p k = y
        generalize stmAt l0 X l2 k = z
        rw [UInt8.xor_assoc, UInt8.xor_comm y z, ← UInt8.xor_assoc z z y, UInt8.xor_self, UInt8.zero_xor]
      have hgr : Below wr.heap.size wr W := by rw [← hW]; exact (Below.refl _ _).drew
      have HW2 : Hid (Below w.heap.size w W) := HW.out.trans (hgr.mono HW.out.size)
      have HB2 := HB.out.later hgr
      have HP2 := HP.out.later hgr
      have HX2 := HX.out.later hgr
      have HY2 := HY.out.later hgr
      have R2 : Hid (Hid (Byt W (some ⟨b3, o3, none⟩) n4 m) ∧ Hid (Byt W (some ⟨b4, o4, none⟩) n4 p) ∧ Hid (Byt W (some ⟨b6, o6, none⟩) n4 (stm l0 X l2 m)) ∧ Hid (Byt W (some ⟨b8, o8, none⟩) n4 (stm l0 X l2 p))) := ⟨HB2, HP2, HX2, HY2⟩
      clear HB2 HP2 HX2 HY2 HB HP HX HY hgr c3 c4 c6' c8'
      have HWd : Hid (wr.drew = W) := hW
      clear hW HW
      go_wp2
      refine wp_region_sched' (G := Stays) (by kernel_rfl) Stays.refl Stays.trans (by kernel_rfl) [(0, true), (1, true), (2, true), (3, true), (4, true), (5, true), (6, true), (7, true), (8, true), (9, true), (10, true), (11, true), (12, true), (13, true), (14, true), (15, true), (16, true), (17, true), (18, true)] rfl (by kernel_rfl) ?_
      intro KK hKK
      rw [HWd.out]
      iterate 19 (refine sched_take rfl (by rfl) (v := ?_) ?_ ?_; rotate_left; (rintro w' rfl; go_simp; with_reducible rfl); go_simp)
      refine sched_done hKK ?_
      go_wp2
      exact ⟨⟨k + 1, by omega, by go_num, HW2, R2.out⟩, by simp [intOf]; omega⟩
    · have i1 : ¬ (k : Int) < (n4 : Int) := by omega
      go_wp2
      go_ret
      exact ⟨rfl, HW.out⟩
end Go.Proofs.Ytgfpoedgbhfkaaa.chachaSums
