/- BlakeTells: a sum is what the document says. For every row of bytes, where the program's tables are as its text lays them. -/
import Derived.Test.YtfalekfddeaioaaDoorBlkShown
import Derived.Test.YtfalekfddeaioaaDoorRefBd
namespace Go.Proofs.YtfalekfddeaioaaDoor.blakeTells
open Go.ChangeShapes Go.WideShapes Go.ChangeAt Go.RowKit
set_option linter.unusedVariables false

set_option maxHeartbeats 2000000 in
set_option maxRecDepth 100000 in
theorem walk (a0 : Option Addr) (len0 cap0 : Nat) (z0 : List Int) (w : World) (w0 : IsRow .u8 w a0 len0 cap0 z0) (htab : Tab w) :
    Calls Tryd.prog 3 #[.slice a0 len0 cap0] w fun e w' => e = .returned (.bool true) ∧ Below w.heap.size w w' := by
  have hnil := brow_nil w0
  obtain ⟨m, n, hnE0, hn1, hn2, hnc, hncm, hBm⟩ := cut_row w0 400
  have hnE : (if (400 : Int) < (len0 : Int) then (400 : Int) else (len0 : Int)) = (n : Int) := hnE0
  have hlm := hBm.1
  clear hnE0 w0
  have HB0 : Hid (Byt w a0 n m) := hBm
  have HTab : Hid (Tab w) := htab
  clear hBm htab
  go_enter Tryd.func3, Tryd.ntmps3
  go_wp2_with fail
  refine (blkShown_any _ HTab.out).mono ?_
  rintro e w4 ⟨rfl, hb4⟩
  have HW4 : Hid (Below w.heap.size w w4) := hb4
  have HB4 : Hid (Byt w4 a0 n m) := HB0.out.later hb4
  clear hb4
  have hS0 := conv_bytes w4 a0 n cap0 m HB4.out
  go_wp2_with fail
  refine (bsum_any a0 n cap0 m _ HB4.out hnil (by omega) hncm (by omega) (HTab.out.later HW4.out)).mono ?_
  rintro e w5 ⟨rfl, hb5⟩
  have hB := blakeB_length m
  obtain ⟨B, hBe⟩ : ∃ B, blakeB m = B := ⟨_, rfl⟩
  rw [hBe] at hB ⊢
  have HBe : Hid (blakeB m = B) := hBe
  have hst := run_store_arr w5 25 B 32 hB (by kernel_rfl)
  obtain ⟨W5, hW5⟩ : ∃ W5, w5.alloc (.cells (B.map bv).toArray 25) = W5 := ⟨_, rfl⟩
  have hgr5 : Below w4.heap.size w4 W5 := by rw [← hW5]; exact hb5.alloc hb5.size _
  have hX5 : Arr W5 w5.heap.size 25 B := by rw [← hW5]; exact Arr.new w5 _ _
  have hdr : Below W5.heap.size W5 W5.drew := (Below.refl _ _).drew
  have HXW : Hid (Byt W5.drew (some ⟨w5.heap.size, 0, none⟩) 32 B) := (hX5.byt 32 hB).later hdr
  have HWW : Hid (Below w.heap.size w W5.drew) := (HW4.out.trans (hgr5.mono HW4.out.size)).drew
  have HBW : Hid (Byt W5.drew a0 n m) := (HB4.out.later hgr5).later hdr
  rw [hW5] at hst
  clear hb5 hBe hgr5 HW4 HB4 HB0 hS0 hW5 hX5 hdr
  go_wp2
  clear hst
  generalize w5.heap.size = xb at HXW ⊢
  refine wp_region_sched' (G := Grows) (by kernel_rfl) Grows.refl Grows.trans (by kernel_rfl) [(0, true), (1, true), (2, true), (3, true), (4, true), (5, false), (6, true), (7, true), (8, true), (9, true), (10, true), (11, true), (12, true), (13, true), (14, true), (15, true)] rfl (by kernel_rfl) ?_
  intro KK hKK
  generalize W5.drew = W at HXW HWW HBW ⊢
  have hS1 := S_beq B B
  have hS3 := S_beq m m
  iterate 5 (refine sched_take rfl (by rfl) (v := ?_) ?_ ?_; rotate_left; (intro w' hw'; have q1 := conv_bytes w' (some ⟨xb, 0, none⟩) 32 32 B (HXW.out.on hw'); go_simp; with_reducible rfl); go_simp)
  refine sched_call (f := 10) (args := #[.slice a0 n cap0]) rfl (by rfl) (by go_simp) ?_
  refine (refSumB_any a0 n cap0 m _ HBW.out hnil (by omega) (by omega)).mono ?_
  rintro e w7 ⟨a7, c7, rfl, hb7, hB7, _⟩
  refine ⟨_, rfl, hb7, ?_⟩
  rw [HBe.out] at hB7
  have HB7 : Hid (Byt w7 a7 32 B) := Byt.ofSeg hB7
  have HW7 : Hid (Below w.heap.size w w7) := HWW.out.trans (hb7.mono HWW.out.size)
  have HM7 : Hid (Byt w7 a0 n m) := HBW.out.later hb7
  clear hb7 hB7 HWW HBW HXW
  go_simp
  iterate 10 (refine sched_take rfl (by rfl) (v := ?_) ?_ ?_; rotate_left; (intro w' hw'; have q1 := conv_bytes w' a7 32 c7 B (HB7.out.on hw'); have q2 := conv_bytes w' a0 n cap0 m (HM7.out.on hw'); go_simp; with_reducible rfl); go_simp)
  refine sched_done hKK ?_
  go_wp2
  go_ret
  exact ⟨rfl, HW7.out⟩
end Go.Proofs.YtfalekfddeaioaaDoor.blakeTells
