/- ChachaTells: a block, and a stream, are what the document says. For every key, counter, nonce and row of bytes, without a condition. -/
import Derived.Test.YtgfpoedgbhfkaaaChaShown
namespace Go.Proofs.Ytgfpoedgbhfkaaa.chachaTells
open Go.ChangeShapes Go.WideShapes Go.ChangeAt Go.RowKit
set_option linter.unusedVariables false

set_option maxHeartbeats 2000000 in
set_option maxRecDepth 100000 in
theorem walk (l0 : List UInt8) (a1 : Int) (l2 : List UInt8) (a3 : Option Addr) (len3 cap3 : Nat) (z3 : List Int) (w : World) (w0 : l0.length = 32) (w1 : (Lit.int .u32 a1).wf = true) (w2 : l2.length = 12) (w3 : IsRow .u8 w a3 len3 cap3 z3) :
    Calls Try.prog 3 #[.agg (l0.map bv).toArray, .int .u32 a1, .agg (l2.map bv).toArray, .slice a3 len3 cap3] w fun e w' => e = .returned (.bool true) ∧ Below w.heap.size w w' := by
  obtain ⟨X, rfl⟩ := u32_word a1 w1
  obtain ⟨m, n, hnE0, hn1, hn2, hnc, hncm, hBm⟩ := cut_row w3 300
  have hnE : (if (300 : Int) < (len3 : Int) then (300 : Int) else (len3 : Int)) = (n : Int) := hnE0
  have hlm := hBm.1
  clear hnE0 w1 w3
  have HB0 : Hid (Byt w a3 n m) := hBm
  clear hBm
  go_enter Try.func3, Try.ntmps3
  go_wp2_with fail
  refine (chaShown_any _).mono ?_
  rintro e w4 ⟨rfl, hb4⟩
  have HN4 : Hid (KN w4 w.heap.size (w.heap.size + 1) l0 l2) := (KN.new w l0 l2).later hb4
  have hbel0 : Below w.heap.size w ((w.alloc (.cells (l0.map bv).toArray 23)).alloc (.cells (l2.map bv).toArray 26)) := ((Below.refl _ _).alloc (Nat.le_refl _) _).alloc (by simp) _
  have HW4 : Hid (Below w.heap.size w w4) := hbel0.trans (hb4.mono hbel0.size)
  have HB4 : Hid (Byt w4 a3 n m) := HB0.out.later HW4.out
  obtain ⟨ik, iN⟩ := KN.info w0 w2
  have IK : Hid ((Try.prog.info? 23).map (·.size) = some (l0.map bv).toArray.size) := ik
  have IN : Hid ((Try.prog.info? 26).map (·.size) = some (l2.map bv).toArray.size) := iN
  clear hb4 hbel0 ik iN
  have hS0 := conv_bytes w4 a3 n cap3 m HB4.out
  go_wp2_with (first | refine wpList_load_row rfl 23 _ rfl w.heap.size rfl 23 _ (0, 0) _ HN4.out.k Try.underlying23 rfl IK.out ?_ | refine wpList_load_row rfl 26 _ rfl (w.heap.size + 1) rfl 26 _ (0, 0) _ HN4.out.n Try.underlying26 rfl IN.out ?_)
  refine (block_any l0 l2 X _ w0 w2).mono ?_
  rintro e w5 ⟨rfl, hb5⟩
  have hB := blk_length l0 X l2
  obtain ⟨B, hBe⟩ : ∃ B, blk l0 X l2 = B := ⟨_, rfl⟩
  rw [hBe] at hB ⊢
  have HBe : Hid (blk l0 X l2 = B) := hBe
  have hst := run_store_arr w5 29 B 64 hB (by kernel_rfl)
  obtain ⟨W5, hW5⟩ : ∃ W5, w5.alloc (.cells (B.map bv).toArray 29) = W5 := ⟨_, rfl⟩
  have hgr5 : Below w4.heap.size w4 W5 := by rw [← hW5]; exact hb5.alloc hb5.size _
  have HX5 : Hid (W5.heap[w5.heap.size]? = some (.cells (B.map bv).toArray 29 (0, 0))) := by rw [← hW5]; exact heap_alloc_new w5 _
  have HN5 : Hid (KN W5 w.heap.size (w.heap.size + 1) l0 l2) := HN4.out.later hgr5
  have HW5 : Hid (Below w.heap.size w W5) := HW4.out.trans (hgr5.mono HW4.out.size)
  have HB5 : Hid (Byt W5 a3 n m) := HB4.out.later hgr5
  rw [hW5] at hst
  clear hb5 hBe hgr5 HN4 HW4 HB4 HB0 hS0 hW5
  go_wp2_with (first | refine wpList_load_row rfl 23 _ rfl w.heap.size rfl 23 _ (0, 0) _ HN5.out.k Try.underlying23 rfl IK.out ?_ | refine wpList_load_row rfl 26 _ rfl (w.heap.size + 1) rfl 26 _ (0, 0) _ HN5.out.n Try.underlying26 rfl IN.out ?_)
  refine (stream_any l0 l2 X a3 n cap3 m _ w0 w2 HB5.out (by omega) (by omega) hncm).mono ?_
  rintro e w6 ⟨a6, c6, rfl, hb6, hB6, hc6, hc6m⟩
  obtain ⟨W, hW⟩ : ∃ W, w6.drew = W := ⟨_, rfl⟩
  have hgr : Below w6.heap.size w6 W := by rw [← hW]; exact (Below.refl _ _).drew
  have hgr2 : Below W5.heap.size W5 W := hb6.trans (hgr.mono hb6.size)
  have HNW : KN W w.heap.size (w.heap.size + 1) l0 l2 := HN5.out.later hgr2
  have HWW : Hid (Below w.heap.size w W) := HW5.out.trans (hgr2.mono HW5.out.size)
  have HBW : Hid (Byt W a3 n m) := HB5.out.later hgr2
  have HYW : Hid (Byt W a6 n (stm l0 X l2 m)) := hB6.later hgr
  have HXW : Hid (Byt W (some ⟨w5.heap.size, 0, none⟩) 64 B) := by
    have := byt_lit W B w5.heap.size _ _ (0, 0) (by rw [hgr2.block _ (Array.getElem?_eq_some_iff.1 HX5.out).1]; exact HX5.out) rfl
    rwa [hB] at this
  have HKW : Hid (Byt W (some ⟨w.heap.size, 0, none⟩) 32 l0) := by
    have := byt_lit W l0 w.heap.size _ _ (0, 0) HNW.k rfl
    rwa [w0] at this
  have HIW : Hid (Byt W (some ⟨w.heap.size + 1, 0, none⟩) 12 l2) := by
    have := byt_lit W l2 (w.heap.size + 1) _ _ (0, 0) HNW.n rfl
    rwa [w2] at this
  have HWd : Hid (w6.drew = W) := hW
  obtain ⟨s, hs⟩ : ∃ s, stm l0 X l2 m = s := ⟨_, rfl⟩
  have HSe : Hid (stm l0 X l2 m = s) := hs
  rw [hs] at HYW
  clear hb6 hB6 hW hgr hgr2 HNW HN5 HW5 HB5 HX5 hst hs
  generalize w5.heap.size = xb at HXW ⊢
  go_wp2
  refine wp_region_sched' (G := Grows) (by kernel_rfl) Grows.refl Grows.trans (by kernel_rfl) [(0, true), (1, true), (2, true), (3, true), (4, true), (5, true), (6, true), (7, false), (8, true), (9, true), (10, true), (11, true), (12, true), (13, true), (14, true), (15, true), (16, true), (17, true), (18, false), (19, true), (20, true), (21, true), (22, true), (23, true), (24, true), (25, true), (26, true), (27, true), (28, true)] rfl (by kernel_rfl) ?_
  intro KK hKK
  rw [HWd.out]
  clear HWd
  have hS1 := S_beq B B
  have hS2 := S_beq s s
  have hS3 := S_beq m m
  iterate 7 (refine sched_take rfl (by rfl) (v := ?_) ?_ ?_; rotate_left; (intro w' hw'; have q1 := conv_bytes w' (some ⟨xb, 0, none⟩) 64 64 B (HXW.out.on hw'); go_simp; with_reducible rfl); go_simp)
  refine sched_call (f := 12) (args := #[.slice (some ⟨w.heap.size, 0, none⟩) 32 32, .int .u32 (X.toNat : Int), .slice (some ⟨w.heap.size + 1, 0, none⟩) 12 12]) rfl (by rfl) (by go_simp) ?_
  refine (refBlock_any w.heap.size 0 (w.heap.size + 1) 0 32 12 l0 l2 X _ (by omega) (by omega) (by omega) (by omega) HKW.out HIW.out).mono ?_
  rintro e w7 ⟨a7, c7, rfl, hb7, hB7⟩
  refine ⟨_, rfl, hb7, ?_⟩
  rw [HBe.out] at hB7
  have HB7 : Hid (Byt w7 a7 64 B) := hB7
  have HW7 : Hid (Below w.heap.size w w7) := HWW.out.trans (hb7.mono HWW.out.size)
  have HM7 : Hid (Byt w7 a3 n m) := HBW.out.later hb7
  have HY7 : Hid (Byt w7 a6 n s) := HYW.out.later hb7
  have HK7 : Hid (Byt w7 (some ⟨w.heap.size, 0, none⟩) 32 l0) := HKW.out.later hb7
  have HI7 : Hid (Byt w7 (some ⟨w.heap.size + 1, 0, none⟩) 12 l2) := HIW.out.later hb7
  clear hb7 hB7 HWW HBW HYW HXW HKW HIW
  go_simp
  iterate 10 (refine sched_take rfl (by rfl) (v := ?_) ?_ ?_; rotate_left; (intro w' hw'; have q1 := conv_bytes w' a7 64 c7 B (HB7.out.on hw'); have q2 := conv_bytes w' a6 n c6 s (HY7.out.on hw'); go_simp; with_reducible rfl); go_simp)
  refine sched_call (f := 13) (args := #[.slice (some ⟨w.heap.size, 0, none⟩) 32 32, .int .u32 (X.toNat : Int), .slice (some ⟨w.heap.size + 1, 0, none⟩) 12 12, .slice a3 n cap3]) rfl (by rfl) (by go_simp) ?_
  refine (refStream_any w.heap.size 0 (w.heap.size + 1) 0 32 12 l0 l2 X a3 n cap3 m _ (by omega) (by omega) (by omega) (by omega) HK7.out HI7.out HM7.out (by omega) (by omega) hncm).mono ?_
  rintro e w8 ⟨a8, c8, rfl, hb8, hB8⟩
  refine ⟨_, rfl, hb8, ?_⟩
  rw [HSe.out] at hB8
  have HB8 : Hid (Byt w8 a8 n s) := hB8
  have HW8 : Hid (Below w.heap.size w w8) := HW7.out.trans (hb8.mono HW7.out.size)
  have HM8 : Hid (Byt w8 a3 n m) := HM7.out.later hb8
  clear hb8 hB8 HW7 HM7 HY7 HK7 HI7 HB7
  go_simp
  iterate 10 (refine sched_take rfl (by rfl) (v := ?_) ?_ ?_; rotate_left; (intro w' hw'; have q1 := conv_bytes w' a8 n c8 s (HB8.out.on hw'); have q2 := conv_bytes w' a3 n cap3 m (HM8.out.on hw'); go_simp; with_reducible rfl); go_simp)
  refine sched_done hKK ?_
  go_wp2
  go_ret
  exact ⟨rfl, HW8.out⟩
end Go.Proofs.Ytgfpoedgbhfkaaa.chachaTells
