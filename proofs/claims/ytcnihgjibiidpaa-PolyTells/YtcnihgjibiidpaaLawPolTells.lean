/- PolyTells: a tag is what the document says. For every key and row of bytes, without a condition. -/
import Derived.Test.YtcnihgjibiidpaaPolShown
namespace Go.Proofs.Ytcnihgjibiidpaa.polyTells
open Go.ChangeShapes Go.WideShapes Go.ChangeAt Go.RowKit
set_option linter.unusedVariables false

set_option maxHeartbeats 2000000 in
set_option maxRecDepth 100000 in
theorem walk (l0 : List UInt8) (a1 : Option Addr) (len1 cap1 : Nat) (z1 : List Int) (w : World) (w0 : l0.length = 32) (w1 : IsRow .u8 w a1 len1 cap1 z1) :
    Calls Try.prog 3 #[.agg (l0.map bv).toArray, .slice a1 len1 cap1] w fun e w' => e = .returned (.bool true) ∧ Below w.heap.size w w' := by
  obtain ⟨m, n, hnE0, hn1, hn2, hnc, hncm, hBm⟩ := cut_row w1 300
  have hnE : (if (300 : Int) < (len1 : Int) then (300 : Int) else (len1 : Int)) = (n : Int) := hnE0
  have hlm := hBm.1
  clear hnE0 w1
  have HB0 : Hid (Byt w a1 n m) := hBm
  clear hBm
  have IK : (Try.prog.info? 23).map (·.size) = some 32 := by kernel_rfl
  have hIK : Hid ((Try.prog.info? 23).map (·.size) = some (l0.map bv).toArray.size) := info_size IK l0 w0
  clear IK
  go_enter Try.func3, Try.ntmps3
  go_wp2_with fail
  refine (polShown_any _).mono ?_
  rintro e w4 ⟨rfl, hb4⟩
  have HK4 : Hid (Arr w4 w.heap.size 23 l0) := (Arr.new w _ l0).later hb4
  have hbel0 : Below w.heap.size w (w.alloc (.cells (l0.map bv).toArray 23)) := (Below.refl _ _).alloc (Nat.le_refl _) _
  have HW4 : Hid (Below w.heap.size w w4) := hbel0.trans (hb4.mono hbel0.size)
  have HB4 : Hid (Byt w4 a1 n m) := HB0.out.later HW4.out
  clear hb4 hbel0
  have hS0 := conv_bytes w4 a1 n cap1 m HB4.out
  go_wp2_with (first | refine wpList_load_row rfl 23 _ rfl w.heap.size rfl 23 _ (0, 0) _ HK4.out Try.underlying23 rfl hIK.out ?_)
  refine (sum_any l0 a1 n cap1 m _ w0 HB4.out (by omega) (by omega) hncm).mono ?_
  rintro e w5 ⟨rfl, hb5⟩
  have hB := tag_length l0 m
  obtain ⟨B, hBe⟩ : ∃ B, tag l0 m = B := ⟨_, rfl⟩
  rw [hBe] at hB ⊢
  have HBe : Hid (tag l0 m = B) := hBe
  have hst := run_store_arr w5 26 B 16 hB (by kernel_rfl)
  obtain ⟨W5, hW5⟩ : ∃ W5, w5.alloc (.cells (B.map bv).toArray 26) = W5 := ⟨_, rfl⟩
  have hgr5 : Below w4.heap.size w4 W5 := by rw [← hW5]; exact hb5.alloc hb5.size _
  have hX5 : Arr W5 w5.heap.size 26 B := by rw [← hW5]; exact Arr.new w5 _ _
  have hdr : Below W5.heap.size W5 W5.drew := (Below.refl _ _).drew
  have HKW : Hid (Byt W5.drew (some ⟨w.heap.size, 0, none⟩) 32 l0) := ((HK4.out.later hgr5).byt 32 w0).later hdr
  have HXW : Hid (Byt W5.drew (some ⟨w5.heap.size, 0, none⟩) 16 B) := (hX5.byt 16 hB).later hdr
  have HWW : Hid (Below w.heap.size w W5.drew) := (HW4.out.trans (hgr5.mono HW4.out.size)).drew
  have HBW : Hid (Byt W5.drew a1 n m) := (HB4.out.later hgr5).later hdr
  rw [hW5] at hst
  clear hb5 hBe hgr5 HK4 HW4 HB4 HB0 hS0 hW5 hX5 hdr
  go_wp2
  clear hst
  generalize w5.heap.size = xb at HXW ⊢
  refine wp_region_sched' (G := Grows) (by kernel_rfl) Grows.refl Grows.trans (by kernel_rfl) [(0, true), (1, true), (2, true), (3, true), (4, true), (5, true), (6, false), (7, true), (8, true), (9, true), (10, true), (11, true), (12, true), (13, true), (14, true), (15, true), (16, true)] rfl (by kernel_rfl) ?_
  intro KK hKK
  generalize W5.drew = W at HKW HXW HWW HBW ⊢
  have hS1 := S_beq B B
  have hS3 := S_beq m m
  iterate 6 (refine sched_take rfl (by rfl) (v := ?_) ?_ ?_; rotate_left; (intro w' hw'; have q1 := conv_bytes w' (some ⟨xb, 0, none⟩) 16 16 B (HXW.out.on hw'); go_simp; with_reducible rfl); go_simp)
  refine sched_call (f := 16) (args := #[.slice (some ⟨w.heap.size, 0, none⟩) 32 32, .slice a1 n cap1]) rfl (by rfl) (by go_simp) ?_
  refine (refSum_any w.heap.size 0 32 l0 a1 n cap1 m _ (by omega) HKW.out HBW.out (by omega) (by omega)).mono ?_
  rintro e w7 ⟨g7, rfl, hg7, hb7, hB7⟩
  refine ⟨_, rfl, hb7, ?_⟩
  rw [HBe.out] at hB7
  have HB7 : Hid (Byt w7 (some ⟨g7, 0, none⟩) 16 B) := hB7
  have HW7 : Hid (Below w.heap.size w w7) := HWW.out.trans (hb7.mono HWW.out.size)
  have HM7 : Hid (Byt w7 a1 n m) := HBW.out.later hb7
  clear hb7 hB7 HWW HBW HXW HKW
  go_simp
  iterate 10 (refine sched_take rfl (by rfl) (v := ?_) ?_ ?_; rotate_left; (intro w' hw'; have q1 := conv_bytes w' (some ⟨g7, 0, none⟩) 16 16 B (HB7.out.on hw'); have q2 := conv_bytes w' a1 n cap1 m (HM7.out.on hw'); go_simp; with_reducible rfl); go_simp)
  refine sched_done hKK ?_
  go_wp2
  go_ret
  exact ⟨rfl, HW7.out⟩
end Go.Proofs.Ytcnihgjibiidpaa.polyTells
