/- AeadSums: two texts that are sealed alike differ just as they did, ahead of their tags. For every key, nonce and two rows of bytes, without a condition. -/
import Derived.Test.YtcnihgjibiidpaaAeadShown
namespace Go.Proofs.Ytcnihgjibiidpaa.aeadSums
open Go.ChangeShapes Go.WideShapes Go.ChangeAt Go.RowKit
set_option linter.unusedVariables false

set_option maxHeartbeats 4000000 in
set_option maxRecDepth 100000 in
theorem walk (l0 : List UInt8) (l1 : List UInt8) (a2 : Option Addr) (len2 cap2 : Nat) (z2 : List Int) (a3 : Option Addr) (len3 cap3 : Nat) (z3 : List Int) (w : World) (w0 : l0.length = 32) (w1 : l1.length = 12) (w2 : IsRow .u8 w a2 len2 cap2 z2) (w3 : IsRow .u8 w a3 len3 cap3 z3) :
    Calls Try.prog 13 #[.agg (l0.map bv).toArray, .agg (l1.map bv).toArray, .slice a2 len2 cap2, .slice a3 len3 cap3] w fun e w' => e = .returned (.bool true) ∧ Below w.heap.size w w' := by
  have hnil3 := row_nil w2
  have hnil4 := row_nil w3
  obtain ⟨n, hn⟩ : ∃ n, n = min (min len2 len3) 200 := ⟨_, rfl⟩
  obtain ⟨m, n3, hE3, _, hn32, hnc, hncm, hBm⟩ := cut_row w2 n
  obtain rfl : n3 = n := by split at hE3 <;> omega
  obtain ⟨p, n4, hE4, _, hn42, hpc, hpcm, hBp⟩ := cut_row w3 n3
  obtain rfl : n4 = n3 := by split at hE4 <;> omega
  have hn200 : n4 ≤ 200 := by omega
  obtain ⟨k0, hk0⟩ : ∃ k0, k0 = min len2 len3 := ⟨_, rfl⟩
  have hmin1 : (if len3 < len2 then (len3 : Int) else (len2 : Int)) = (k0 : Int) := by split <;> omega
  have hmin2 : (if (200 : Int) < (k0 : Int) then (200 : Int) else (k0 : Int)) = (n4 : Int) := by split <;> omega
  have hi3 : (n4 : Int) ≤ (cap2 : Int) := by omega
  have hi4 : (n4 : Int) ≤ (cap3 : Int) := by omega
  clear hk0
  have hlm := hBm.1
  have hlp := hBp.1
  clear hE3 hE4 w2 w3 hn
  have HB0 : Hid (Byt w a2 n4 m) := hBm
  have HP0 : Hid (Byt w a3 n4 p) := hBp
  clear hBm hBp
  have IK : (Try.prog.info? 23).map (·.size) = some 32 := by kernel_rfl
  have hIK : Hid ((Try.prog.info? 23).map (·.size) = some (l0.map bv).toArray.size) := info_size IK l0 w0
  have II : (Try.prog.info? 40).map (·.size) = some 12 := by kernel_rfl
  have hII : Hid ((Try.prog.info? 40).map (·.size) = some (l1.map bv).toArray.size) := info_size II l1 w1
  clear IK II
  go_enter Try.func13, Try.ntmps13
  go_wp2_with fail
  refine (aeadShown_any _).mono ?_
  rintro e w4 ⟨rfl, hb4⟩
  have hbel0 : Below w.heap.size w ((w.alloc (.cells (l0.map bv).toArray 23)).alloc (.cells (l1.map bv).toArray 40)) := ((Below.refl _ _).alloc (Nat.le_refl _) _).alloc (by simp) _
  have HK4 : Hid (Arr w4 w.heap.size 23 l0) := ((Arr.new w _ l0).later ((Below.refl _ _).alloc (Nat.le_refl _) _)).later hb4
  have HI4 : Hid (Arr w4 (w.heap.size + 1) 40 l1) := by
    have := Arr.new (w.alloc (.cells (l0.map bv).toArray 23)) 40 l1
    rw [World.size_alloc] at this
    exact this.later hb4
  have HW4 : Hid (Below w.heap.size w w4) := hbel0.trans (hb4.mono hbel0.size)
  clear hb4 hbel0
  have hB4 := HB0.out.later HW4.out
  have hP4 := HP0.out.later HW4.out
  have hdr : Below w4.heap.size w4 w4.drew := (Below.refl _ _).drew
  obtain ⟨W, hW⟩ : ∃ W, w4.drew = W := ⟨_, rfl⟩
  rw [hW] at hdr
  have hsz : W.heap.size = w4.heap.size := by rw [← hW]; rfl
  have HKW : Hid (Arr W w.heap.size 23 l0) := HK4.out.later hdr
  have HIW : Hid (Arr W (w.heap.size + 1) 40 l1) := HI4.out.later hdr
  have HWW : Hid (Below w.heap.size w W) := HW4.out.trans (hdr.mono HW4.out.size)
  have HBW : Hid (Byt W a2 n4 m) := hB4.later hdr
  have HPW : Hid (Byt W a3 n4 p) := hP4.later hdr
  have HWd : Hid (w4.drew = W) := hW
  clear hdr hW HK4 HI4 HW4 hB4 hP4 hsz
  go_wp2
  refine wp_region_sched' (G := Below W.heap.size) (by kernel_rfl) (Below.refl _) (fun a b c h k => Below.trans h k) (by kernel_rfl) [(0, true), (1, true), (4, true), (5, true), (6, true), (2, false), (3, false), (7, false), (8, true)] rfl (by kernel_rfl) ?_
  intro KK5 hKK5
  rw [HWd.out]
  clear HWd
  refine sched_take rfl (by rfl) (v := .agg (l0.map bv).toArray) (fun w' hw' => exec_load_row 23 _ rfl w.heap.size rfl 23 _ (0, 0) _ (HKW.out.later hw') Try.underlying23 rfl hIK.out) ?_
  go_simp
  refine sched_take rfl (by rfl) (v := .agg (l1.map bv).toArray) (fun w' hw' => exec_load_row 40 _ rfl (w.heap.size + 1) rfl 40 _ (0, 0) _ (HIW.out.later hw') Try.underlying40 rfl hII.out) ?_
  go_simp
  iterate 3 (refine sched_take rfl (by rfl) (v := ?_) ?_ ?_; rotate_left; (intro w' hw'; clear hw'; go_simp; with_reducible rfl); go_simp)
  refine sched_val (w' := W.alloc (.cells #[.int .u8 111, .int .u8 110, .int .u8 101] 5)) (v := .slice (some ⟨W.heap.size, 0, none⟩) 3 3) rfl (by rfl) (by go_simp) ((Below.refl _ _).alloc (Nat.le_refl _) _) ?_
  go_simp
  have kd0 := Lib.run_convert_bytes_const (P := Try.prog) W 24 5 #[.int .u8 111, .int .u8 110, .int .u8 101] 3 3 Try.underlying24 Try.underlying5
  have hfz : Below W.heap.size (W.alloc (.cells #[.int .u8 111, .int .u8 110, .int .u8 101] 5)) (W.alloc (.cells #[.int .u8 111, .int .u8 110, .int .u8 101] 5 (3, 4))) :=
    ⟨rfl, rfl, rfl, by simp, fun k hk => by rw [Below.heap_alloc _ _ _ hk, Below.heap_alloc _ _ _ hk]⟩
  refine sched_val (w' := W.alloc (.cells #[.int .u8 111, .int .u8 110, .int .u8 101] 5 (3, 4))) (v := .slice (some ⟨W.heap.size, 0, none⟩) 3 3) rfl (by rfl) (by go_simp) hfz ?_
  clear kd0 hfz
  go_simp
  have hal : Below W.heap.size W (W.alloc (.cells #[.int .u8 111, .int .u8 110, .int .u8 101] 5 (3, 4))) := (Below.refl _ _).alloc (Nat.le_refl _) _
  have hone : Byt (W.alloc (.cells #[.int .u8 111, .int .u8 110, .int .u8 101] 5 (3, 4))) (some ⟨W.heap.size, 0, none⟩) 3 [111, 110, 101] := byt_lit _ [111, 110, 101] _ _ _ (3, 4) (heap_alloc_new W _) rfl
  refine sched_call (f := 19) (args := #[.agg (l0.map bv).toArray, .agg (l1.map bv).toArray, .slice (some ⟨W.heap.size, 0, none⟩) 3 3, .slice a2 n4 cap2]) rfl (by rfl) (by go_simp) ?_
  refine (seal_any l0 l1 _ 3 3 _ a2 n4 cap2 m _ w0 w1 hone (by intro e; cases e) (by omega) (by omega) (by unfold maxLen; omega) (HBW.out.later hal) hnil3 (by omega) (by omega) hncm).mono ?_
  rintro e w6 ⟨v6, rfl, hb6, own6⟩
  have hbw6 : Below W.heap.size W w6 := hal.trans (hb6.mono (by simp))
  refine ⟨_, rfl, hb6.mono (by simp), ?_⟩
  obtain ⟨a6, c6, rfl, hB6, hc6, _, _⟩ := own_parts own6
  have HX6 : Hid (Byt w6 a6 n4 (stm l0 1#32 l1 m)) := by
    have h1 := hB6.cut (show n4 ≤ n4 + 16 by omega)
    have h2 := sealB_take l0 l1 [111, 110, 101] m
    rw [hlm] at h2
    rw [h2] at h1
    exact h1
  have HK6 : Hid (Arr w6 w.heap.size 23 l0) := HKW.out.later hbw6
  have HI6 : Hid (Arr w6 (w.heap.size + 1) 40 l1) := HIW.out.later hbw6
  have HW6 : Hid (Below w.heap.size w w6) := HWW.out.trans (hbw6.mono HWW.out.size)
  have HB6 : Hid (Byt w6 a2 n4 m) := HBW.out.later hbw6
  have HP6 : Hid (Byt w6 a3 n4 p) := HPW.out.later hbw6
  clear hb6 hbw6 own6 hB6 hal hone HKW HIW HWW HBW HPW HB0 HP0
  obtain ⟨N, hN⟩ : ∃ N, n4 + 16 = N := ⟨_, rfl⟩
  rw [hN]
  have eN : (n4 : Int) + 16 = (N : Int) := by omega
  have eNw : IntKind.i64.wrap ((n4 : Int) + 16) = (N : Int) := by rw [IntKind.wrap_i64]; omega
  have HN : Hid (n4 + 16 = N) := hN
  clear hN
  go_simp
  iterate 1 (refine sched_take rfl (by rfl) (v := ?_) ?_ ?_; rotate_left; (intro w' hw'; clear hw'; go_simp; with_reducible rfl); go_simp)
  refine sched_done hKK5 ?_
  go_wp2
  refine wp_region_sched' (G := Grows) (by kernel_rfl) Grows.refl Grows.trans (by kernel_rfl) [(0, true), (1, true), (2, true), (3, true), (4, true), (5, false), (6, true)] rfl (by kernel_rfl) ?_
  intro KK7 hKK7
  obtain ⟨W7, hW7⟩ : ∃ W, w6.drew = W := ⟨_, rfl⟩
  have hgr7 : Below w6.heap.size w6 W7 := by rw [← hW7]; exact (Below.refl _ _).drew
  have HK7 : Hid (Arr W7 w.heap.size 23 l0) := HK6.out.later hgr7
  have HI7 : Hid (Arr W7 (w.heap.size + 1) 40 l1) := HI6.out.later hgr7
  have HWW : Hid (Below w.heap.size w W7) := HW6.out.trans (hgr7.mono HW6.out.size)
  have HBW : Hid (Byt W7 a2 n4 m) := HB6.out.later hgr7
  have HPW : Hid (Byt W7 a3 n4 p) := HP6.out.later hgr7
  have HXW : Hid (Byt W7 a6 n4 (stm l0 1#32 l1 m)) := HX6.out.later hgr7
  rw [hW7]
  clear hgr7 hW7 HK6 HI6 HW6 HB6 HP6 HX6
  refine sched_take rfl (by rfl) (v := .agg (l0.map bv).toArray) (fun w' hw' => exec_load_row 23 _ rfl w.heap.size rfl 23 _ (0, 0) _ (HK7.out.later hw') Try.underlying23 rfl hIK.out) ?_
  go_simp
  refine sched_take rfl (by rfl) (v := .agg (l1.map bv).toArray) (fun w' hw' => exec_load_row 40 _ rfl (w.heap.size + 1) rfl 40 _ (0, 0) _ (HI7.out.later hw') Try.underlying40 rfl hII.out) ?_
  go_simp
  iterate 3 (refine sched_take rfl (by rfl) (v := ?_) ?_ ?_; rotate_left; (intro w' hw'; clear hw'; go_simp; with_reducible rfl); go_simp)
  refine sched_call (f := 19) (args := #[.agg (l0.map bv).toArray, .agg (l1.map bv).toArray, .slice none 0 0, .slice a3 n4 cap3]) rfl (by rfl) (by go_simp) ?_
  refine (seal_any l0 l1 none 0 0 [] a3 n4 cap3 p _ w0 w1 ⟨rfl, .inl rfl⟩ (by intro _; rfl) (by omega) (by omega) (by unfold maxLen; omega) HPW.out hnil4 (by omega) (by omega) hpcm).mono ?_
  rintro e w8 ⟨v8, rfl, hb8, own8⟩
  refine ⟨_, rfl, hb8, ?_⟩
  obtain ⟨a8, c8, rfl, hB8, hc8, _, _⟩ := own_parts own8
  have HY8 : Hid (Byt w8 a8 n4 (stm l0 1#32 l1 p)) := by
    have h1 := hB8.cut (show n4 ≤ n4 + 16 by omega)
    have h2 := sealB_take l0 l1 [] p
    rw [hlp] at h2
    rw [h2] at h1
    exact h1
  have HW8 : Hid (Below w.heap.size w w8) := HWW.out.trans (hb8.mono HWW.out.size)
  have HB8 : Hid (Byt w8 a2 n4 m) := HBW.out.later hb8
  have HP8 : Hid (Byt w8 a3 n4 p) := HPW.out.later hb8
  have HX8 : Hid (Byt w8 a6 n4 (stm l0 1#32 l1 m)) := HXW.out.later hb8
  clear hb8 hB8 own8 HK7 HI7 HWW HBW HPW HXW
  rw [HN.out]
  go_simp
  iterate 1 (refine sched_take rfl (by rfl) (v := ?_) ?_ ?_; rotate_left; (intro w' hw'; clear hw'; go_simp; with_reducible rfl); go_simp)
  refine sched_done hKK7 ?_
  go_wp2
  have hnN : n4 < N := by have := HN.out; omega
  go_loopw [13] (fun i wr => ∃ k : Nat, k ≤ n4 ∧ i = .int .i64 k ∧ Hid (Below w.heap.size w wr) ∧ Hid (Byt wr a2 n4 m) ∧ Hid (Byt wr a3 n4 p) ∧ Hid (Byt wr a6 n4 (stm l0 1#32 l1 m)) ∧ Hid (Byt wr a8 n4 (stm l0 1#32 l1 p))) (fun i _ => n4 - (intOf i).toNat)
  case atStart => exact ⟨0, Nat.zero_le _, rfl, HW8, HB8, HP8, HX8, HY8⟩
  case round =>
    clear HW8 HB8 HP8 HX8 HY8
    obtain ⟨k, hk, rfl, HW, HB, HP, HX, HY⟩ := hrel
    by_cases hlt : k < n4
    · have i1 : (k : Int) < (n4 : Int) := by omega
      have i2 : (k : Int) < (len2 : Int) := by omega
      have i3 : (k : Int) < (len3 : Int) := by omega
      have i4 : (k : Int) < (N : Int) := by omega
      obtain ⟨b3, o3, rfl, c3⟩ := HB.out.at_ k hlt
      obtain ⟨b4, o4, rfl, c4⟩ := HP.out.at_ k hlt
      obtain ⟨b6, o6, rfl, c6'⟩ := HX.out.at_ k hlt
      obtain ⟨b8, o8, rfl, c8'⟩ := HY.out.at_ k hlt
      obtain ⟨W, hW⟩ : ∃ W, wr.drew = W := ⟨_, rfl⟩
      have d3 : W.cell? ⟨b3, o3 + k, none⟩ = some (.int .u8 ((at8 m k).toNat : Int)) := by rw [← hW]; exact c3
      have d4 : W.cell? ⟨b4, o4 + k, none⟩ = some (.int .u8 ((at8 p k).toNat : Int)) := by rw [← hW]; exact c4
      have d6 : W.cell? ⟨b6, o6 + k, none⟩ = some (.int .u8 ((at8 (stm l0 1#32 l1 m) k).toNat : Int)) := by rw [← hW]; exact c6'
      have d8 : W.cell? ⟨b8, o8 + k, none⟩ = some (.int .u8 ((at8 (stm l0 1#32 l1 p) k).toNat : Int)) := by rw [← hW]; exact c8'
      have e1 := xor_val8 (at8 m k) (at8 p k)
      have e2 : bits .xor .u8 ((at8 (stm l0 1#32 l1 m) k).toNat : Int) ((at8 (stm l0 1#32 l1 p) k).toNat : Int) = ((at8 m k ^^^ at8 p k).toNat : Int) := by
        rw [xor_val8, stm_at _ _ _ _ _ (by omega), stm_at _ _ _ _ _ (by omega)]
        generalize at8 m k = x
        generalize at8 p k = y
        generalize stmAt l0 1#32 l1 k = z
        rw [UInt8.xor_assoc, UInt8.xor_comm y z, ← UInt8.xor_assoc z z y, UInt8.xor_self, UInt8.zero_xor]
      have hgr : Below wr.heap.size wr W := by rw [← hW]; exact (Below.refl _ _).drew
      have HW2 : Hid (Below w.heap.size w W) := HW.out.trans (hgr.mono HW.out.size)
      have HB2 := HB.out.later hgr
      have HP2 := HP.out.later hgr
      have HX2 := HX.out.later hgr
      have HY2 := HY.out.later hgr
      have R2 : Hid (Hid (Byt W (some ⟨b3, o3, none⟩) n4 m) ∧ Hid (Byt W (some ⟨b4, o4, none⟩) n4 p) ∧ Hid (Byt W (some ⟨b6, o6, none⟩) n4 (stm l0 1#32 l1 m)) ∧ Hid (Byt W (some ⟨b8, o8, none⟩) n4 (stm l0 1#32 l1 p))) := ⟨HB2, HP2, HX2, HY2⟩
      clear HB2 HP2 HX2 HY2 HB HP HX HY hgr c3 c4 c6' c8'
      have HWd : Hid (wr.drew = W) := hW
      clear hW HW
      go_wp2
      refine wp_region_sched' (G := Stays) (by kernel_rfl) Stays.refl Stays.trans (by kernel_rfl) [(0, true), (1, true), (2, true), (3, true), (4, true), (5, true), (6, true), (7, true), (8, true), (9, true), (10, true), (11, true), (12, true), (13, true), (14, true), (15, true), (16, true), (17, true), (18, true)] rfl (by kernel_rfl) ?_
      intro KK hKK
      rw [HWd.out]
      iterate 19 (refine sched_take rfl (by rfl) (v := ?_) ?_ ?_; rotate_left; (rintro w' rfl; go_simp; with_reducible rfl); go_simp)
      refine sched_done hKK ?_
      go_wp2
      exact ⟨⟨k + 1, by omega, by go_num, HW2, R2.out⟩, by simp [intOf]; omega⟩
    · have i1 : ¬ (k : Int) < (n4 : Int) := by omega
      go_wp2
      go_ret
      exact ⟨rfl, HW.out⟩
end Go.Proofs.Ytcnihgjibiidpaa.aeadSums
