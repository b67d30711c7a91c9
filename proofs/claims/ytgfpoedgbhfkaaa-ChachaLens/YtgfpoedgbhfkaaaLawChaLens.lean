/- ChachaLens: a stream is as long as the bytes are, and the beginning of a longer one. For every key, counter, nonce, row of bytes and number, without a condition. -/
import Derived.Test.YtgfpoedgbhfkaaaChaShown
namespace Go.Proofs.Ytgfpoedgbhfkaaa.chachaLens
open Go.ChangeShapes Go.WideShapes Go.ChangeAt Go.RowKit
set_option linter.unusedVariables false

set_option maxHeartbeats 2000000 in
set_option maxRecDepth 100000 in
theorem walk (l0 : List UInt8) (a1 : Int) (l2 : List UInt8) (a3 : Option Addr) (len3 cap3 : Nat) (z3 : List Int) (a4 : Int) (w : World) (w0 : l0.length = 32) (w1 : (Lit.int .u32 a1).wf = true) (w2 : l2.length = 12) (w3 : IsRow .u8 w a3 len3 cap3 z3) (w4 : (Lit.int .i64 a4).wf = true) :
    Calls Try.prog 8 #[.agg (l0.map bv).toArray, .int .u32 a1, .agg (l2.map bv).toArray, .slice a3 len3 cap3, .int .i64 a4] w fun e w' => e = .returned (.bool true) ∧ Below w.heap.size w w' := by
  obtain ⟨X, rfl⟩ := u32_word a1 w1
  obtain ⟨m, n, hnE0, hn1, hn2, hnc, hncm, hBm⟩ := cut_row w3 300
  have hnE : (if (300 : Int) < (len3 : Int) then (300 : Int) else (len3 : Int)) = (n : Int) := hnE0
  have hlm := hBm.1
  clear hnE0 w1 w3
  have HB0 : Hid (Byt w a3 n m) := hBm
  clear hBm
  obtain ⟨q, hq, hqn⟩ := cut16 a4 n
  have hqi : (q : Int) ≤ (cap3 : Int) := by omega
  go_enter Try.func8, Try.ntmps8
  go_wp2_with fail
  refine (chaShown_any _).mono ?_
  rintro e w4 ⟨rfl, hb4⟩
  have HN4 : Hid (KN w4 w.heap.size (w.heap.size + 1) l0 l2) := (KN.new w l0 l2).later hb4
  have hbel0 : Below w.heap.size w ((w.alloc (.cells (l0.map bv).toArray 23)).alloc (.cells (l2.map bv).toArray 26)) := ((Below.refl _ _).alloc (Nat.le_refl _) _).alloc (by simp) _
  have HW4 : Hid (Below w.heap.size w w4) := hbel0.trans (hb4.mono hbel0.size)
  have HB4 : Hid (Byt w4 a3 n m) := HB0.out.later HW4.out
  obtain ⟨ik, iN⟩ := KN.info w0 w2
  have IK : Hid ((Try.prog.info? 23).map (·.size) = some (l0.map bv).toArray.size) := ik
  have IN : Hid ((Try.prog.info? 26).map (·.size) = some (l2.map bv).toArray.size) := iN
  clear hb4 hbel0 ik iN
  have hz : ¬ ((n : Int) + 1 = 0) := by omega
  go_wp2_with (first | refine wpList_load_row rfl 23 _ rfl w.heap.size rfl 23 _ (0, 0) _ HN4.out.k Try.underlying23 rfl IK.out ?_ | refine wpList_load_row rfl 26 _ rfl (w.heap.size + 1) rfl 26 _ (0, 0) _ HN4.out.n Try.underlying26 rfl IN.out ?_)
  refine (stream_any l0 l2 X a3 n cap3 m _ w0 w2 HB4.out (by omega) (by omega) hncm).mono ?_
  rintro e w5 ⟨a5, c5, rfl, hb5, hB5, hc5, hc5m⟩
  have HN5 : Hid (KN w5 w.heap.size (w.heap.size + 1) l0 l2) := HN4.out.later hb5
  have HW5 : Hid (Below w.heap.size w w5) := HW4.out.trans (hb5.mono HW4.out.size)
  have HB5 : Hid (Byt w5 a3 n m) := HB4.out.later hb5
  have HX5 : Hid (Byt w5 a5 n (stm l0 X l2 m)) := hB5
  clear hb5 hB5 HN4 HW4 HB4 HB0
  go_wp2
  refine wp_region_sched' (G := Grows) (by kernel_rfl) Grows.refl Grows.trans (by kernel_rfl) [(0, true), (1, true), (2, true), (3, true), (4, true), (5, true), (6, false), (7, true)] rfl (by kernel_rfl) ?_
  intro KK hKK
  obtain ⟨W, hW⟩ : ∃ W, w5.drew = W := ⟨_, rfl⟩
  have hgr : Below w5.heap.size w5 W := by rw [← hW]; exact (Below.refl _ _).drew
  have HNW : Hid (KN W w.heap.size (w.heap.size + 1) l0 l2) := HN5.out.later hgr
  have HWW : Hid (Below w.heap.size w W) := HW5.out.trans (hgr.mono HW5.out.size)
  have HBW : Hid (Byt W a3 q (m.take q)) := (HB5.out.later hgr).cut hqn
  have HXW : Hid (Byt W a5 n (stm l0 X l2 m)) := HX5.out.later hgr
  rw [hW]
  clear hgr HN5 HW5 HB5 HX5 hW
  refine sched_take rfl (by rfl) (v := .agg (l0.map bv).toArray) (fun w' hw' => exec_load_row 23 _ rfl w.heap.size rfl 23 _ (0, 0) _ (HNW.out.later hw').k Try.underlying23 rfl IK.out) ?_
  go_simp
  iterate 1 (refine sched_take rfl (by rfl) (v := ?_) ?_ ?_; rotate_left; (intro w' hw'; go_simp; with_reducible rfl); go_simp)
  refine sched_take rfl (by rfl) (v := .agg (l2.map bv).toArray) (fun w' hw' => exec_load_row 26 _ rfl (w.heap.size + 1) rfl 26 _ (0, 0) _ (HNW.out.later hw').n Try.underlying26 rfl IN.out) ?_
  go_simp
  iterate 3 (refine sched_take rfl (by rfl) (v := ?_) ?_ ?_; rotate_left; (intro w' hw'; go_simp; with_reducible rfl); go_simp)
  refine sched_call (f := 11) (args := #[.agg (l0.map bv).toArray, .int .u32 (X.toNat : Int), .agg (l2.map bv).toArray, .slice a3 q cap3]) rfl (by rfl) (by go_simp) ?_
  refine (stream_any l0 l2 X a3 q cap3 _ _ w0 w2 HBW.out (by omega) (by omega) hncm).mono ?_
  rintro e w6 ⟨a6, c6, rfl, hb6, hB6, hc6, hc6m⟩
  refine ⟨_, rfl, hb6, ?_⟩
  have HB6 : Hid (Byt w6 a6 q (stm l0 X l2 (m.take q))) := hB6
  have HX6 : Hid (Byt w6 a5 q (stm l0 X l2 (m.take q))) := by
    rw [← stm_take _ _ _ _ _ (by omega)]
    exact (HXW.out.later hb6).cut hqn
  have HW6 : Hid (Below w.heap.size w w6) := HWW.out.trans (hb6.mono HWW.out.size)
  clear hb6 hB6 HNW HWW HBW HXW
  go_simp
  iterate 1 (refine sched_take rfl (by rfl) (v := ?_) ?_ ?_; rotate_left; (intro w' hw'; go_simp; with_reducible rfl); go_simp)
  refine sched_done hKK ?_
  have hqc : (q : Int) ≤ (c5 : Int) := by omega
  go_wp2
  generalize stm l0 X l2 (m.take q) = s at HB6 HX6
  obtain ⟨W7, hW7⟩ : ∃ W7, w6.drew = W7 := ⟨_, rfl⟩
  have hgr7 : Below w6.heap.size w6 W7 := by rw [← hW7]; exact (Below.refl _ _).drew
  have HB7 : Hid (Byt W7 a6 q s) := HB6.out.later hgr7
  have HX7 : Hid (Byt W7 a5 q s) := HX6.out.later hgr7
  have HW7 : Hid (Below w.heap.size w W7) := HW6.out.trans (hgr7.mono HW6.out.size)
  have hS := S_beq s s
  refine wp_region_sched' (G := Grows) (by kernel_rfl) Grows.refl Grows.trans (by kernel_rfl) [(0, true), (1, true), (2, true), (3, true), (4, true), (5, true), (6, true), (7, true), (8, true), (9, true), (10, true), (11, true), (12, true), (13, true), (14, true), (15, true), (16, true), (17, true), (18, true), (19, true), (20, true), (21, true), (22, true), (23, true)] rfl (by kernel_rfl) ?_
  intro KK2 hKK2
  rw [hW7]
  clear hgr7 hW7 HB6 HX6 HW6
  iterate 24 (refine sched_take rfl (by rfl) (v := ?_) ?_ ?_; rotate_left; (intro w' hw'; have q1 := conv_bytes w' a6 q c6 s (HB7.out.on hw'); have q2 := conv_bytes w' a5 q c5 s (HX7.out.on hw'); go_simp; with_reducible rfl); go_simp)
  refine sched_done hKK2 ?_
  go_wp2
  go_ret
  exact ⟨rfl, HW7.out⟩
end Go.Proofs.Ytgfpoedgbhfkaaa.chachaLens
