/- KdfLong: a key of more than 64 bytes is as its sum. For every two rows of bytes, where the program's tables are as its text lays them. -/
import Derived.Test.YthjkjfoelekeeaaDoorKdfShown
import Derived.Test.YthjkjfoelekeeaaDoorAppW
namespace Go.Proofs.YthjkjfoelekeeaaDoor
theorem macB_long (key b : List UInt8) (h : 64 < key.length) : macB key b = macB (blakeB key) b := by
  have e : kpad key = kpad (blakeB key) := by
    have e1 : kshort key = blakeB key := by unfold kshort; rw [if_pos h]
    have e2 : kshort (blakeB key) = blakeB key := by unfold kshort; rw [if_neg (by rw [blakeB_length]; omega)]
    unfold kpad
    rw [e1, e2]
  unfold macB kout kin
  rw [e]
end Go.Proofs.YthjkjfoelekeeaaDoor
namespace Go.Proofs.YthjkjfoelekeeaaDoor.kdfLong
open Go.ChangeShapes Go.WideShapes Go.ChangeAt Go.RowKit
set_option linter.unusedVariables false

set_option maxHeartbeats 4000000 in
set_option maxRecDepth 100000 in
theorem walk (a0 : Option Addr) (len0 cap0 : Nat) (z0 : List Int) (a1 : Option Addr) (len1 cap1 : Nat) (z1 : List Int) (w : World) (w0 : IsRow .u8 w a0 len0 cap0 z0) (w1 : IsRow .u8 w a1 len1 cap1 z1) (htab : Tab w) :
    Calls Tryd.prog 7 #[.slice a0 len0 cap0, .slice a1 len1 cap1] w fun e w' => e = .returned (.bool true) ∧ Below w.heap.size w w' := by
  have hnil0 := krow_nil w0
  obtain ⟨ad, la, hnE20, hn1a, hn2a, hnca, hncma, hBma⟩ := cut_row w0 135
  have hnEa : (if (135 : Int) < (len0 : Int) then (135 : Int) else (len0 : Int)) = (la : Int) := hnE20
  have hlma := hBma.1
  have HB0a : Hid (Byt w a0 la ad) := hBma
  clear hnE20 w0 hBma
  have hnil1 := krow_nil w1
  obtain ⟨m, n, hnE30, hn1b, hn2b, hncb, hncmb, hBmb⟩ := cut_row w1 100
  have hnEb : (if (100 : Int) < (len1 : Int) then (100 : Int) else (len1 : Int)) = (n : Int) := hnE30
  have hlmb := hBmb.1
  have HB0b : Hid (Byt w a1 n m) := hBmb
  clear hnE30 w1 hBmb
  have HTab : Hid (Tab w) := htab
  clear htab
  have hca0 : (la : Int) ≤ (cap0 : Int) := by omega
  go_enter Tryd.func7, Tryd.ntmps7
  go_wp2_with fail
  refine (kdfShown_any _ HTab.out).mono ?_
  rintro e w4 ⟨rfl, hb4⟩
  have HW4 : Hid (Below w.heap.size w w4) := hb4
  clear hb4
  go_wp2
  obtain ⟨W, hWd⟩ : ∃ W, w4.drew = W := ⟨_, rfl⟩
  have HWd : Hid (w4.drew = W) := hWd
  have HWW : Hid (Below w.heap.size w W) := by rw [← hWd]; exact HW4.out.drew
  obtain ⟨B0, hB0⟩ : ∃ B, W.heap.size = B := ⟨_, rfl⟩
  have HB0 : Hid (W.heap.size = B0) := hB0
  clear hWd hB0 HW4
  refine wp_region_sched' (G := Below B0) (by kernel_rfl) (fun _ => Below.refl _ _) (fun _ _ _ h k => Below.trans h k) (by kernel_rfl) [(1, true), (2, true), (3, true), (4, true), (5, true), (0, false), (6, false), (7, true)] rfl (by kernel_rfl) ?_
  intro KK hKK
  rw [HWd.out]
  iterate 5 (refine sched_take rfl (by rfl) (v := ?_) ?_ ?_; rotate_left; (intro w' hw'; clear hw'; go_simp; with_reducible rfl); go_simp)
  obtain ⟨w5, hmk, hown5, hb5⟩ := make_full W 65 (by omega)
  have hz : List.replicate 65 (Value.int .u8 0) = (List.replicate 65 (0 : UInt8)).map bv := by rw [List.map_replicate]; rfl
  rw [hz] at hown5
  have hmk' : (Instr.makeSlice 22 (.int .i64 65) (.int .i64 65)).run Tryd.prog W = .ok (.slice (some ⟨W.heap.size, 0, none⟩) 65 65) w5 := hmk
  have hsz5 := hb5.size
  refine sched_val rfl (by rfl) (v := .slice (some ⟨W.heap.size, 0, none⟩) 65 65) (w' := w5) (by go_simp) (hb5.mono (Nat.le_of_eq HB0.out.symm)) ?_
  go_simp
  have hW5 : Below w.heap.size w w5 := HWW.out.trans (hb5.mono HWW.out.size)
  obtain ⟨v6, w6, hr6, ho6, hg6, _⟩ := append_where w5 W.heap.size _ 65 (List.replicate 65 0) hown5 a0 la cap0 ad (HB0a.out.later hW5) hnil0 hsz5 (by omega)
  have hG6 : Below W.heap.size w5 w6 := ⟨hg6.os, hg6.tape, hg6.output, hg6.size, fun k hk => hg6.block k (by omega) (fun e => by
    have e' : k = W.heap.size := by simpa [Value.ownBlock] using e
    omega)⟩
  refine sched_append rfl (by rfl) rfl rfl rfl hr6 (by rw [HB0.out] at hG6; exact hG6) ?_
  obtain ⟨a6, c6, rfl, hB6, hc6, hc6m, hn6⟩ := own_parts ho6
  have HW6 : Hid (Below w.heap.size w w6) := hW5.trans (hG6.mono HWW.out.size)
  obtain ⟨L, hL⟩ : ∃ L, 65 + la = L := ⟨_, rfl⟩
  obtain ⟨X, hX⟩ : ∃ X, List.replicate 65 0 ++ ad = X := ⟨_, rfl⟩
  rw [hL, hX] at hB6
  rw [hL] at hc6 ⊢
  have HB6 : Hid (Byt w6 a6 L X) := hB6
  have hXl : X.length = L := hB6.1
  have HML : Hid (macB X m = macB (blakeB X) m) := macB_long X m (by omega)
  clear hmk hmk' hown5 hb5 hz hr6 ho6 hg6 hG6 hW5 hB6 hX HWW HWd
  go_simp
  iterate 1 (refine sched_take rfl (by rfl) (v := ?_) ?_ ?_; rotate_left; (intro w' hw'; clear hw'; go_simp; with_reducible rfl); go_simp)
  refine sched_done hKK ?_
  clear hKK
  go_wp2_with fail
  refine (bsum_any a6 L c6 X w6 HB6.out hn6 hc6 hc6m (by omega) (HTab.out.later HW6.out)).mono ?_
  rintro e w7 ⟨rfl, hb7⟩
  have hB := blakeB_length X
  obtain ⟨Z, hZe⟩ : ∃ Z, blakeB X = Z := ⟨_, rfl⟩
  rw [hZe] at hB HML ⊢
  have hst := run_store_arr w7 25 Z 32 hB (by kernel_rfl)
  obtain ⟨W7, hW7⟩ : ∃ W7, w7.alloc (.cells (Z.map bv).toArray 25) = W7 := ⟨_, rfl⟩
  have hgr7 : Below w6.heap.size w6 W7 := by rw [← hW7]; exact hb7.alloc hb7.size _
  have hX7 : Arr W7 w7.heap.size 25 Z := by rw [← hW7]; exact Arr.new w7 _ _
  have hdr : Below W7.heap.size W7 W7.drew := (Below.refl _ _).drew
  have HZW : Hid (Byt W7.drew (some ⟨w7.heap.size, 0, none⟩) 32 Z) := (hX7.byt 32 hB).later hdr
  have HWV : Hid (Below w.heap.size w W7.drew) := (HW6.out.trans (hgr7.mono HW6.out.size)).drew
  have HBV : Hid (Byt W7.drew a6 L X) := (HB6.out.later hgr7).later hdr
  rw [hW7] at hst
  clear hb7 hZe hgr7 HW6 HB6 hW7 hX7 hdr
  go_wp2
  clear hst
  generalize w7.heap.size = xb at HZW ⊢
  refine wp_region_sched' (G := Grows) (by kernel_rfl) Grows.refl Grows.trans (by kernel_rfl) [(0, true), (1, true), (2, true), (3, true), (5, true), (6, true), (4, false), (7, false), (8, true), (9, true), (10, true)] rfl (by kernel_rfl) ?_
  intro KM hKM
  generalize W7.drew = V at HZW HWV HBV ⊢
  iterate 6 (refine sched_take rfl (by rfl) (v := ?_) ?_ ?_; rotate_left; (intro w' hw'; clear hw'; go_simp; with_reducible rfl); go_simp)
  refine sched_call (f := 9) (args := #[.slice a6 L c6, .slice a1 n cap1]) rfl (by rfl) (by go_simp) ?_
  refine (mac_any a6 L c6 X a1 n cap1 m V HBV.out hn6 (by omega) hc6 hc6m (HB0b.out.later HWV.out) hnil1 (by omega) (by omega) hncmb (HTab.out.later HWV.out)).mono ?_
  rintro e w8 ⟨rfl, hb8⟩
  refine ⟨_, rfl, hb8, ?_⟩
  rw [HML.out]
  have hM := macB_length Z m
  obtain ⟨M, hMe⟩ : ∃ M, macB Z m = M := ⟨_, rfl⟩
  rw [hMe] at hM ⊢
  have HMe : Hid (macB Z m = M) := hMe
  have HW8 : Hid (Below w.heap.size w w8) := HWV.out.trans (hb8.mono HWV.out.size)
  have HZ8 : Hid (Byt w8 (some ⟨xb, 0, none⟩) 32 Z) := HZW.out.later hb8
  clear hb8 HZW HWV HBV hMe
  go_simp
  refine sched_call (f := 9) (args := #[.slice (some ⟨xb, 0, none⟩) 32 32, .slice a1 n cap1]) rfl (by rfl) (by go_simp) ?_
  refine (mac_any (some ⟨xb, 0, none⟩) 32 32 Z a1 n cap1 m w8 HZ8.out (fun e => by cases e) (by omega) (by omega) (by unfold maxLen; omega) (HB0b.out.later HW8.out) hnil1 (by omega) (by omega) hncmb (HTab.out.later HW8.out)).mono ?_
  rintro e w9 ⟨rfl, hb9⟩
  refine ⟨_, rfl, hb9, ?_⟩
  rw [HMe.out]
  have HW9 : Hid (Below w.heap.size w w9) := HW8.out.trans (hb9.mono HW8.out.size)
  clear hb9 HW8 HZ8
  go_simp
  iterate 3 (refine sched_take rfl (by rfl) (v := ?_) ?_ ?_; rotate_left; (intro w' hw'; clear hw'; have q1 := arr_eq w' 25 32 M M hM hM Tryd.underlying25; rw [decide_eq_true rfl] at q1; go_simp; with_reducible rfl); go_simp)
  refine sched_done hKM ?_
  go_wp2
  go_ret
  exact ⟨rfl, HW9.out⟩
end Go.Proofs.YthjkjfoelekeeaaDoor.kdfLong
