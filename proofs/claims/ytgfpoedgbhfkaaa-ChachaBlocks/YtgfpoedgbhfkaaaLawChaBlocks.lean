/- ChachaBlocks: a stream of 0s is its blocks. For every key, counter, nonce and number, without a condition. -/
import Derived.Test.YtgfpoedgbhfkaaaChaShown
namespace Go.Proofs.Ytgfpoedgbhfkaaa.chachaBlocks
open Go.ChangeShapes Go.WideShapes Go.ChangeAt Go.RowKit
set_option linter.unusedVariables false

set_option maxHeartbeats 2000000 in
set_option maxRecDepth 100000 in
theorem walk (l0 : List UInt8) (a1 : Int) (l2 : List UInt8) (a3 : Int) (w : World) (w0 : l0.length = 32) (w1 : (Lit.int .u32 a1).wf = true) (w2 : l2.length = 12) (w3 : (Lit.int .i64 a3).wf = true) :
    Calls Try.prog 6 #[.agg (l0.map bv).toArray, .int .u32 a1, .agg (l2.map bv).toArray, .int .i64 a3] w fun e w' => e = .returned (.bool true) ∧ Below w.heap.size w w' := by
  obtain ⟨X, rfl⟩ := u32_word a1 w1
  obtain ⟨q, hq0, hqn⟩ := cut16 a3 300
  have hq : (bits .and .i64 a3 65535).tmod 301 = (q : Int) := hq0
  clear hq0 w1 w3
  go_enter Try.func6, Try.ntmps6
  go_wp2_with fail
  refine (chaShown_any _).mono ?_
  rintro e w4 ⟨rfl, hb4⟩
  have HN4 : Hid (KN w4 w.heap.size (w.heap.size + 1) l0 l2) := (KN.new w l0 l2).later hb4
  have hbel0 : Below w.heap.size w ((w.alloc (.cells (l0.map bv).toArray 23)).alloc (.cells (l2.map bv).toArray 26)) := ((Below.refl _ _).alloc (Nat.le_refl _) _).alloc (by simp) _
  have HW4 : Hid (Below w.heap.size w w4) := hbel0.trans (hb4.mono hbel0.size)
  obtain ⟨ik, iN⟩ := KN.info w0 w2
  have IK : Hid ((Try.prog.info? 23).map (·.size) = some (l0.map bv).toArray.size) := ik
  have IN : Hid ((Try.prog.info? 26).map (·.size) = some (l2.map bv).toArray.size) := iN
  clear hb4 hbel0 ik iN
  go_wp2
  refine wp_region_sched' (G := Grows) (by kernel_rfl) Grows.refl Grows.trans (by kernel_rfl) [(0, true), (1, true), (2, true), (3, true), (4, false), (5, false), (6, true)] rfl (by kernel_rfl) ?_
  intro KK5 hKK5
  obtain ⟨W5, hW5⟩ : ∃ W, w4.drew = W := ⟨_, rfl⟩
  have hgr5 : Below w4.heap.size w4 W5 := by rw [← hW5]; exact (Below.refl _ _).drew
  have HNW : Hid (KN W5 w.heap.size (w.heap.size + 1) l0 l2) := HN4.out.later hgr5
  have HWW : Hid (Below w.heap.size w W5) := HW4.out.trans (hgr5.mono HW4.out.size)
  rw [hW5]
  clear hgr5 hW5 HN4 HW4
  refine sched_take rfl (by rfl) (v := .agg (l0.map bv).toArray) (fun w' hw' => exec_load_row 23 _ rfl w.heap.size rfl 23 _ (0, 0) _ (HNW.out.later hw').k Try.underlying23 rfl IK.out) ?_
  go_simp
  iterate 1 (refine sched_take rfl (by rfl) (v := ?_) ?_ ?_; rotate_left; (intro w' hw'; go_simp; with_reducible rfl); go_simp)
  refine sched_take rfl (by rfl) (v := .agg (l2.map bv).toArray) (fun w' hw' => exec_load_row 26 _ rfl (w.heap.size + 1) rfl 26 _ (0, 0) _ (HNW.out.later hw').n Try.underlying26 rfl IN.out) ?_
  go_simp
  iterate 1 (refine sched_take rfl (by rfl) (v := ?_) ?_ ?_; rotate_left; (intro w' hw'; go_simp; with_reducible rfl); go_simp)
  obtain ⟨w6, hmk, hown6, hb6⟩ := make_full W5 q (by omega)
  refine sched_val rfl (by rfl) (v := .slice (some ⟨W5.heap.size, 0, none⟩) q q) (w' := w6) (by go_simp) hb6 ?_
  have hz : List.replicate q (Value.int .u8 0) = (List.replicate q (0 : UInt8)).map bv := by simp [bv]
  rw [hz] at hown6
  have HZ6 : Hid (Byt w6 (some ⟨W5.heap.size, 0, none⟩) q (List.replicate q 0)) := Byt.ofOwn hown6
  have HN6 : Hid (KN w6 w.heap.size (w.heap.size + 1) l0 l2) := HNW.out.later hb6
  have HW6 : Hid (Below w.heap.size w w6) := HWW.out.trans (hb6.mono HWW.out.size)
  clear hmk hown6 hb6 hz HNW HWW
  go_simp
  refine sched_call (f := 11) (args := #[.agg (l0.map bv).toArray, .int .u32 (X.toNat : Int), .agg (l2.map bv).toArray, .slice (some ⟨W5.heap.size, 0, none⟩) q q]) rfl (by rfl) (by go_simp) ?_
  refine (stream_any l0 l2 X _ q q _ _ w0 w2 HZ6.out (by omega) (Nat.le_refl _) (by unfold maxLen; omega)).mono ?_
  rintro e w8 ⟨a8, c8, rfl, hb8, hB8, hc8, hc8m⟩
  refine ⟨_, rfl, hb8, ?_⟩
  have HW8 : Hid (Below w.heap.size w w8) := HW6.out.trans (hb8.mono HW6.out.size)
  have HN8 : Hid (KN w8 w.heap.size (w.heap.size + 1) l0 l2) := HN6.out.later hb8
  obtain ⟨s, hs⟩ : ∃ s, stm l0 X l2 (List.replicate q 0) = s := ⟨_, rfl⟩
  rw [hs] at hB8
  have HY8 : Hid (Byt w8 a8 q s) := hB8
  have HS : Hid (∀ k, k < q → at8 s k = stmAt l0 X l2 k) := by
    intro k hk
    rw [← hs, stm_at _ _ _ _ _ (by simpa using hk)]
    simp [at8, hk]
  clear hb8 hB8 HZ6 HN6 HW6 hs
  go_simp
  iterate 1 (refine sched_take rfl (by rfl) (v := ?_) ?_ ?_; rotate_left; (intro w' hw'; go_simp; with_reducible rfl); go_simp)
  refine sched_done hKK5 ?_
  go_wp2
  go_loopw [11] (fun i wr => ∃ k : Nat, k ≤ q ∧ i = .int .i64 k ∧ Hid (Below w.heap.size w wr) ∧ Hid (KN wr w.heap.size (w.heap.size + 1) l0 l2) ∧ Hid (Byt wr a8 q s)) (fun i _ => q - (intOf i).toNat)
  case atStart => exact ⟨0, Nat.zero_le _, rfl, HW8, HN8, HY8⟩
  case round =>
    clear HW8 HN8 HY8
    obtain ⟨k, hk, rfl, HW, HN, HY⟩ := hrel
    by_cases hlt : k < q
    · have i1 : (k : Int) < (q : Int) := by omega
      have HCt : Hid (((X.toNat : Int) + (k : Int) / 64) % 4294967296 = ((X + BitVec.ofNat 32 (k / 64)).toNat : Int)) := by
        show _ = _
        rw [BitVec.toNat_add, BitVec.toNat_ofNat]
        omega
      go_wp2_with (first | refine wpList_load_row rfl 23 _ rfl w.heap.size rfl 23 _ (0, 0) _ HN.out.k Try.underlying23 rfl IK.out ?_ | refine wpList_load_row rfl 26 _ rfl (w.heap.size + 1) rfl 26 _ (0, 0) _ HN.out.n Try.underlying26 rfl IN.out ?_)
      rw [HCt.out]
      refine (block_any l0 l2 (X + BitVec.ofNat 32 (k / 64)) _ w0 w2).mono ?_
      rintro e w9 ⟨rfl, hb9⟩
      have HV : Hid (at8 s k = at8 (blk l0 (X + BitVec.ofNat 32 (k / 64)) l2) (k % 64)) := HS.out k hlt
      have hB := blk_length l0 (X + BitVec.ofNat 32 (k / 64)) l2
      generalize blk l0 (X + BitVec.ofNat 32 (k / 64)) l2 = B at HV hB ⊢
      have hst := run_store_arr w9 29 B 64 hB (by kernel_rfl)
      have HY9 := HY.out.later hb9
      have HN9 := HN.out.later hb9
      have HW9 := HW.out.trans (hb9.mono HW.out.size)
      obtain ⟨r, hr⟩ : ∃ r, k % 64 = r := ⟨_, rfl⟩
      have hri : (k : Int).tmod 64 = (r : Int) := by rw [Int.tmod_eq_emod_of_nonneg (by omega)]; omega
      have hr64 : r < 64 := by omega
      have hr64i : (r : Int) < 64 := by omega
      rw [hr] at HV
      obtain ⟨W, hW⟩ : ∃ W, (w9.alloc (.cells (B.map bv).toArray 29)).drew = W := ⟨_, rfl⟩
      have hgr : Below w9.heap.size w9 W := by rw [← hW]; exact ((Below.refl _ _).alloc (Nat.le_refl _) _).drew
      have HY2 : Hid (Byt W a8 q s) := HY9.later hgr
      have HN2 : Hid (KN W w.heap.size (w.heap.size + 1) l0 l2) := HN9.later hgr
      have HW2 : Hid (Below w.heap.size w W) := HW9.trans (hgr.mono HW9.size)
      have d2 : W.cell? ⟨w9.heap.size, r, none⟩ = some (.int .u8 ((at8 s k).toNat : Int)) := by
        rw [← hW, HV.out]
        show (w9.alloc (.cells (B.map bv).toArray 29)).cell? _ = _
        rw [cell_of_row _ w9.heap.size r _ _ (0, 0) (heap_alloc_new w9 _), at8_get B r (by omega)]
        simp [bv, hB, hr64]
      obtain ⟨b8, o8, rfl, d1⟩ := HY2.out.at_ k hlt
      have HWd : Hid ((w9.alloc (.cells (B.map bv).toArray 29)).drew = W) := hW
      clear hW hgr HY9 HN9 HW9 HY HN HW hb9 HV
      go_wp2
      refine wp_region_sched' (G := Stays) (by kernel_rfl) Stays.refl Stays.trans (by kernel_rfl) [(0, true), (1, true), (2, true), (3, true), (4, true), (5, true), (6, true), (7, true), (8, true)] rfl (by kernel_rfl) ?_
      intro KK hKK
      rw [HWd.out]
      clear HWd
      iterate 9 (refine sched_take rfl (by rfl) (v := ?_) ?_ ?_; rotate_left; (rintro w' rfl; go_simp; with_reducible rfl); go_simp)
      refine sched_done hKK ?_
      go_wp2
      exact ⟨⟨k + 1, by omega, by go_num, HW2, HN2, HY2⟩, by simp [intOf]; omega⟩
    · have i1 : ¬ (k : Int) < (q : Int) := by omega
      go_wp2
      go_ret
      exact ⟨rfl, HW.out⟩
end Go.Proofs.Ytgfpoedgbhfkaaa.chachaBlocks
