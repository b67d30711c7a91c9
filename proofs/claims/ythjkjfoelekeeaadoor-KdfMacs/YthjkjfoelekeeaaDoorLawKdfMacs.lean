/- KdfMacs: a sum of a key is what the document says. For every two rows of bytes, where the program's tables are as its text lays them. -/
import Derived.Test.YthjkjfoelekeeaaDoorKdfShown
import Derived.Test.YthjkjfoelekeeaaDoorRefKc
namespace Go.Proofs.YthjkjfoelekeeaaDoor.kdfMacs
open Go.ChangeShapes Go.WideShapes Go.ChangeAt Go.RowKit
set_option linter.unusedVariables false

set_option maxHeartbeats 4000000 in
set_option maxRecDepth 100000 in
theorem walk (a0 : Option Addr) (len0 cap0 : Nat) (z0 : List Int) (a1 : Option Addr) (len1 cap1 : Nat) (z1 : List Int) (w : World) (w0 : IsRow .u8 w a0 len0 cap0 z0) (w1 : IsRow .u8 w a1 len1 cap1 z1) (htab : Tab w) :
    Calls Tryd.prog 3 #[.slice a0 len0 cap0, .slice a1 len1 cap1] w fun e w' => e = .returned (.bool true) ∧ Below w.heap.size w w' := by
  have hnil0 := krow_nil w0
  obtain ⟨ad, la, hnE20, hn1a, hn2a, hnca, hncma, hBma⟩ := cut_row w0 150
  have hnEa : (if (150 : Int) < (len0 : Int) then (150 : Int) else (len0 : Int)) = (la : Int) := hnE20
  have hlma := hBma.1
  have HB0a : Hid (Byt w a0 la ad) := hBma
  clear hnE20 w0 hBma
  have hnil1 := krow_nil w1
  obtain ⟨m, n, hnE30, hn1b, hn2b, hncb, hncmb, hBmb⟩ := cut_row w1 200
  have hnEb : (if (200 : Int) < (len1 : Int) then (200 : Int) else (len1 : Int)) = (n : Int) := hnE30
  have hlmb := hBmb.1
  have HB0b : Hid (Byt w a1 n m) := hBmb
  clear hnE30 w1 hBmb
  have HTab : Hid (Tab w) := htab
  clear htab
  go_enter Tryd.func3, Tryd.ntmps3
  go_wp2_with fail
  refine (kdfShown_any _ HTab.out).mono ?_
  rintro e w4 ⟨rfl, hb4⟩
  have HW4 : Hid (Below w.heap.size w w4) := hb4
  clear hb4
  have hS0 := conv_bytes w4 a0 la cap0 ad (HB0a.out.later HW4.out)
  have hS1 := conv_bytes w4 a1 n cap1 m (HB0b.out.later HW4.out)
  have hz1 : (S ad).size = la := hlma
  have hz2 : (S m).size = n := hlmb
  have hz3 : (la : Int) + (n : Int) ≤ 400 := by omega
  have hz4 : ¬ 9223372036854775807 < la + n := by omega
  go_wp2_with fail
  refine (mac_any a0 la cap0 ad a1 n cap1 m _ (HB0a.out.later HW4.out) hnil0 (by omega) (by omega) hncma (HB0b.out.later HW4.out) hnil1 (by omega) (by omega) hncmb (HTab.out.later HW4.out)).mono ?_
  rintro e w5 ⟨rfl, hb5⟩
  have hB := macB_length ad m
  obtain ⟨B, hBe⟩ : ∃ B, macB ad m = B := ⟨_, rfl⟩
  rw [hBe] at hB ⊢
  have HBe : Hid (macB ad m = B) := hBe
  have hst := run_store_arr w5 25 B 32 hB (by kernel_rfl)
  obtain ⟨W5, hW5⟩ : ∃ W5, w5.alloc (.cells (B.map bv).toArray 25) = W5 := ⟨_, rfl⟩
  have hgr5 : Below w4.heap.size w4 W5 := by rw [← hW5]; exact hb5.alloc hb5.size _
  have hX5 : Arr W5 w5.heap.size 25 B := by rw [← hW5]; exact Arr.new w5 _ _
  have hdr : Below W5.heap.size W5 W5.drew := (Below.refl _ _).drew
  have HXW : Hid (Byt W5.drew (some ⟨w5.heap.size, 0, none⟩) 32 B) := (hX5.byt 32 hB).later hdr
  have HWW : Hid (Below w.heap.size w W5.drew) := (HW4.out.trans (hgr5.mono HW4.out.size)).drew
  have HAW : Hid (Byt W5.drew a0 la ad) := HB0a.out.later HWW.out
  have HMW : Hid (Byt W5.drew a1 n m) := HB0b.out.later HWW.out
  rw [hW5] at hst
  clear hb5 hBe hgr5 HW4 HB0a HB0b hS0 hS1 hW5 hX5 hdr
  go_wp2
  clear hst
  generalize w5.heap.size = xb at HXW ⊢
  refine wp_region_sched' (G := Grows) (by kernel_rfl) Grows.refl Grows.trans (by kernel_rfl) [(0, true), (1, true), (2, true), (3, true), (4, true), (5, true), (6, false), (7, true), (8, true), (9, true), (10, true), (11, true), (12, true), (13, true), (14, true), (15, true), (16, true), (17, true), (18, true), (19, true)] rfl (by kernel_rfl) ?_
  intro KK hKK
  generalize W5.drew = W at HXW HWW HAW HMW ⊢
  have hS1 := S_beq B B
  iterate 6 (refine sched_take rfl (by rfl) (v := ?_) ?_ ?_; rotate_left; (intro w' hw'; have q1 := conv_bytes w' (some ⟨xb, 0, none⟩) 32 32 B (HXW.out.on hw'); go_simp; with_reducible rfl); go_simp)
  refine sched_call (f := 10) (args := #[.slice a0 la cap0, .slice a1 n cap1]) rfl (by rfl) (by go_simp) ?_
  refine (refMac_any a0 la cap0 ad a1 n cap1 m _ HAW.out hnil0 (by omega) (by omega) HMW.out hnil1 (by omega) (by omega)).mono ?_
  rintro e w7 ⟨a7, c7, rfl, hb7, hs7, hk7⟩
  refine ⟨_, rfl, hb7, ?_⟩
  have hB7 := Byt.ofSeg hs7
  rw [HBe.out] at hB7
  have HB7 : Hid (Byt w7 a7 32 B) := hB7
  have HW7 : Hid (Below w.heap.size w w7) := HWW.out.trans (hb7.mono HWW.out.size)
  have HA7 : Hid (Byt w7 a0 la ad) := HAW.out.later hb7
  have HM7 : Hid (Byt w7 a1 n m) := HMW.out.later hb7
  clear hb7 hs7 hk7 hB7 HWW HAW HMW HXW
  go_simp
  iterate 13 (refine sched_take rfl (by rfl) (v := ?_) ?_ ?_; rotate_left; (intro w' hw'; have q1 := conv_bytes w' a7 32 c7 B (HB7.out.on hw'); have q3 := conv_bytes w' a0 la cap0 ad (HA7.out.on hw'); have q4 := conv_bytes w' a1 n cap1 m (HM7.out.on hw'); clear hw'; go_simp; with_reducible rfl); go_simp)
  refine sched_done hKK ?_
  go_wp2
  go_ret
  exact ⟨rfl, HW7.out⟩
end Go.Proofs.YthjkjfoelekeeaaDoor.kdfMacs
