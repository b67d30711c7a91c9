/- ChachaParts: a stream goes on, block by block. For every key, counter, nonce, row of bytes and number, without a condition. -/
import Derived.Test.YtgfpoedgbhfkaaaChaShown
namespace Go.Proofs.Ytgfpoedgbhfkaaa.chachaParts
open Go.ChangeShapes Go.WideShapes Go.ChangeAt Go.RowKit
set_option linter.unusedVariables false

set_option maxHeartbeats 2000000 in
set_option maxRecDepth 100000 in
theorem walk (l0 : List UInt8) (a1 : Int) (l2 : List UInt8) (a3 : Option Addr) (len3 cap3 : Nat) (z3 : List Int) (a4 : Int) (w : World) (w0 : l0.length = 32) (w1 : (Lit.int .u32 a1).wf = true) (w2 : l2.length = 12) (w3 : IsRow .u8 w a3 len3 cap3 z3) (w4 : (Lit.int .i64 a4).wf = true) :
    Calls Try.prog 5 #[.agg (l0.map bv).toArray, .int .u32 a1, .agg (l2.map bv).toArray, .slice a3 len3 cap3, .int .i64 a4] w fun e w' => e = .returned (.bool true) ∧ Below w.heap.size w w' := by
  obtain ⟨X, rfl⟩ := u32_word a1 w1
  obtain ⟨m, n, hnE0, hn1, hn2, hnc, hncm, hBm⟩ := cut_row w3 600
  have hnE : (if (600 : Int) < (len3 : Int) then (600 : Int) else (len3 : Int)) = (n : Int) := hnE0
  have hlm := hBm.1
  clear hnE0 w1 w3
  have HB0 : Hid (Byt w a3 n m) := hBm
  clear hBm
  obtain ⟨q, hq0, hqn⟩ := cut16 a4 9
  have hq : (bits .and .i64 a4 65535).tmod 10 = (q : Int) := hq0
  obtain ⟨t, ht⟩ : ∃ t, t = min (64 * q) n := ⟨_, rfl⟩
  have hmin : (if (n : Int) < 64 * (q : Int) then (n : Int) else 64 * (q : Int)) = (t : Int) := by split <;> omega
  have htn : t ≤ n := by omega
  have HT : Hid (t = min (64 * q) n) := ht
  have hti : (t : Int) ≤ (cap3 : Int) := by omega
  have hti2 : (t : Int) ≤ (n : Int) := by omega
  clear hq0 ht
  go_enter Try.func5, Try.ntmps5
  go_wp2_with fail
  refine (chaShown_any _).mono ?_
  rintro e w4 ⟨rfl, hb4⟩
  have HN4 : Hid (KN w4 w.heap.size (w.heap.size + 1) l0 l2) := (KN.new w l0 l2).later hb4
  have hbel0 : Below w.heap.size w ((w.alloc (.cells (l0.map bv).toArray 23)).alloc (.cells (l2.map bv).toArray 26)) := ((Below.refl _ _).alloc (Nat.le_refl _) _).alloc (by simp) _
  have HW4 : Hid (Below w.heap.size w w4) := hbel0.trans (hb4.mono hbel0.size)
  have HB4 : Hid (Byt w4 a3 n m) := HB0.out.later HW4.out
  obtain ⟨ik, iN⟩ := KN.info w0 w2
  have IK : Hid ((Try.prog.info? 23).map (·.size) = some (l0.map bv).toArray.size) := ik
  have IN : Hid ((Try.prog.info? 26).map (·.size) = some (l2.map bv).toArray.size) := iN
  clear hb4 hbel0 ik iN
  go_wp2_with (first | refine wpList_load_row rfl 23 _ rfl w.heap.size rfl 23 _ (0, 0) _ HN4.out.k Try.underlying23 rfl IK.out ?_ | refine wpList_load_row rfl 26 _ rfl (w.heap.size + 1) rfl 26 _ (0, 0) _ HN4.out.n Try.underlying26 rfl IN.out ?_)
  refine (stream_any l0 l2 X a3 n cap3 m _ w0 w2 HB4.out (by omega) (by omega) hncm).mono ?_
  rintro e w5 ⟨a5, c5, rfl, hb5, hB5, hc5, hc5m⟩
  have HN5 : Hid (KN w5 w.heap.size (w.heap.size + 1) l0 l2) := HN4.out.later hb5
  have HW5 : Hid (Below w.heap.size w w5) := HW4.out.trans (hb5.mono HW4.out.size)
  have HB5 : Hid (Byt w5 a3 n m) := HB4.out.later hb5
  have HX5 : Hid (Byt w5 a5 n (stm l0 X l2 m)) := hB5
  clear hb5 hB5 HN4 HW4 HB4 HB0
  go_wp2
  refine wp_region_sched' (G := Grows) (by kernel_rfl) Grows.refl Grows.trans (by kernel_rfl) [(0, true), (1, true), (2, true), (3, true), (4, true), (5, true), (6, false), (7, true)] rfl (by kernel_rfl) ?_
  intro KK hKK
  obtain ⟨W, hW⟩ : ∃ W, w5.drew = W := ⟨_, rfl⟩
  have hgr : Below w5.heap.size w5 W := by rw [← hW]; exact (Below.refl _ _).drew
  have HNW : Hid (KN W w.heap.size (w.heap.size + 1) l0 l2) := HN5.out.later hgr
  have HWW : Hid (Below w.heap.size w W) := HW5.out.trans (hgr.mono HW5.out.size)
  have HBW : Hid (Byt W a3 t (m.take t)) := (HB5.out.later hgr).cut htn
  have HMW : Hid (Byt W a3 n m) := HB5.out.later hgr
  have HXW : Hid (Byt W a5 n (stm l0 X l2 m)) := HX5.out.later hgr
  rw [hW]
  clear hgr HN5 HW5 HB5 HX5 hW
  refine sched_take rfl (by rfl) (v := .agg (l0.map bv).toArray) (fun w' hw' => exec_load_row 23 _ rfl w.heap.size rfl 23 _ (0, 0) _ (HNW.out.later hw').k Try.underlying23 rfl IK.out) ?_
  go_simp
  iterate 1 (refine sched_take rfl (by rfl) (v := ?_) ?_ ?_; rotate_left; (intro w' hw'; go_simp; with_reducible rfl); go_simp)
  refine sched_take rfl (by rfl) (v := .agg (l2.map bv).toArray) (fun w' hw' => exec_load_row 26 _ rfl (w.heap.size + 1) rfl 26 _ (0, 0) _ (HNW.out.later hw').n Try.underlying26 rfl IN.out) ?_
  go_simp
  iterate 3 (refine sched_take rfl (by rfl) (v := ?_) ?_ ?_; rotate_left; (intro w' hw'; go_simp; with_reducible rfl); go_simp)
  refine sched_call (f := 11) (args := #[.agg (l0.map bv).toArray, .int .u32 (X.toNat : Int), .agg (l2.map bv).toArray, .slice a3 t cap3]) rfl (by rfl) (by go_simp) ?_
  refine (stream_any l0 l2 X a3 t cap3 _ _ w0 w2 HBW.out (by omega) (by omega) hncm).mono ?_
  rintro e w6 ⟨a6, c6, rfl, hb6, hB6, hc6, hc6m⟩
  refine ⟨_, rfl, hb6, ?_⟩
  have HB6 : Hid (Byt w6 a6 t (stm l0 X l2 (m.take t))) := hB6
  have HX6 : Hid (Byt w6 a5 n (stm l0 X l2 m)) := HXW.out.later hb6
  have HM6 : Hid (Byt w6 a3 n m) := HMW.out.later hb6
  have HN6 : Hid (KN w6 w.heap.size (w.heap.size + 1) l0 l2) := HNW.out.later hb6
  have HW6 : Hid (Below w.heap.size w w6) := HWW.out.trans (hb6.mono HWW.out.size)
  clear hb6 hB6 HNW HWW HBW HXW HMW
  go_simp
  iterate 1 (refine sched_take rfl (by rfl) (v := ?_) ?_ ?_; rotate_left; (intro w' hw'; go_simp; with_reducible rfl); go_simp)
  refine sched_done hKK ?_
  have HCt : Hid (((X.toNat : Int) + (q : Int)) % 4294967296 = ((X + BitVec.ofNat 32 q).toNat : Int)) := by
    show _ = _
    rw [BitVec.toNat_add, BitVec.toNat_ofNat]
    omega
  have HCu : Hid (IntKind.u32.wrap ((X.toNat : Int) + IntKind.u32.wrap (q : Int)) = ((X + BitVec.ofNat 32 q).toNat : Int)) := by
    show _ = _
    rw [← HCt.out, IntKind.wrap_u32, IntKind.wrap_u32]
    omega
  go_wp2
  obtain ⟨W7, hW7⟩ : ∃ W, w6.drew = W := ⟨_, rfl⟩
  have hgr7 : Below w6.heap.size w6 W7 := by rw [← hW7]; exact (Below.refl _ _).drew
  have HN7 : Hid (KN W7 w.heap.size (w.heap.size + 1) l0 l2) := HN6.out.later hgr7
  have HW7 : Hid (Below w.heap.size w W7) := HW6.out.trans (hgr7.mono HW6.out.size)
  have HB7 : Hid (Byt W7 a6 t (stm l0 X l2 (m.take t))) := HB6.out.later hgr7
  have HX7 : Hid (Byt W7 a5 n (stm l0 X l2 m)) := HX6.out.later hgr7
  have HM7 : Hid (Byt W7 a3 n m) := HM6.out.later hgr7
  obtain ⟨A, hA⟩ : ∃ A, (if cap3 = t then a3 else Option.map (fun x => x.add t) a3) = A := ⟨_, rfl⟩
  have HA7 : Hid (Byt W7 A (n - t) (m.drop t)) := by
    rw [← hA]
    refine ⟨by simp; omega, ?_⟩
    by_cases h0 : n - t = 0
    · exact .inl h0
    · obtain ⟨b3, o3, e3, _⟩ := HM7.out.at_ 0 (by omega)
      refine .inr ⟨b3, o3 + t, ?_, fun i hi => ?_⟩
      · rw [if_neg (by omega), e3]
        exact congrArg some (addr_add b3 o3 t)
      · obtain ⟨b', o', e', hc⟩ := HM7.out.at_ (t + i) (by omega)
        rw [e3] at e'
        cases e'
        rw [Nat.add_assoc, hc]
        simp [at8]
  refine wp_region_sched' (G := Grows) (by kernel_rfl) Grows.refl Grows.trans (by kernel_rfl) [(0, true), (1, true), (2, true), (3, true), (4, true), (5, true), (6, true), (7, true), (8, true), (9, false), (10, true)] rfl (by kernel_rfl) ?_
  intro KK7 hKK7
  rw [hW7]
  clear hgr7 hW7 HN6 HW6 HB6 HX6 HM6
  refine sched_take rfl (by rfl) (v := .agg (l0.map bv).toArray) (fun w' hw' => exec_load_row 23 _ rfl w.heap.size rfl 23 _ (0, 0) _ (HN7.out.later hw').k Try.underlying23 rfl IK.out) ?_
  go_simp
  iterate 4 (refine sched_take rfl (by rfl) (v := ?_) ?_ ?_; rotate_left; (intro w' hw'; go_simp; with_reducible rfl); go_simp)
  refine sched_take rfl (by rfl) (v := .agg (l2.map bv).toArray) (fun w' hw' => exec_load_row 26 _ rfl (w.heap.size + 1) rfl 26 _ (0, 0) _ (HN7.out.later hw').n Try.underlying26 rfl IN.out) ?_
  go_simp
  iterate 2 (refine sched_take rfl (by rfl) (v := ?_) ?_ ?_; rotate_left; (intro w' hw'; go_simp; with_reducible rfl); go_simp)
  iterate 1 (refine sched_take rfl (by rfl) (v := ?_) ?_ ?_; rotate_left; (intro w' hw'; go_simp; with_reducible rfl); go_simp)
  refine sched_call (f := 11) (args := #[.agg (l0.map bv).toArray, .int .u32 ((X + BitVec.ofNat 32 q).toNat : Int), .agg (l2.map bv).toArray, .slice A (n - t) (cap3 - t)]) rfl (by rfl) (by go_simp; rw [HCu.out, HCt.out]) ?_
  refine (stream_any l0 l2 (X + BitVec.ofNat 32 q) A (n - t) (cap3 - t) (m.drop t) _ w0 w2 HA7.out (by omega) (by omega) (by omega)).mono ?_
  rintro e w8 ⟨a8, c8, rfl, hb8, hB8, hc8, hc8m⟩
  refine ⟨_, rfl, hb8, ?_⟩
  have q1 := conv_bytes w8 a5 n c5 _ (HX7.out.later hb8)
  have q2 := conv_bytes w8 a6 t c6 _ (HB7.out.later hb8)
  have q3 := conv_bytes w8 a8 (n - t) c8 _ hB8
  have HW8 : Hid (Below w.heap.size w w8) := HW7.out.trans (hb8.mono HW7.out.size)
  have HE : stm l0 X l2 m = stm l0 X l2 (m.take t) ++ stm l0 (X + BitVec.ofNat 32 q) l2 (m.drop t) := by
    have e := stm_parts l0 X l2 m q
    rw [hlm, ← HT.out] at e
    exact e
  rw [HE] at q1
  have hy : (stm l0 X l2 (m.take t)).length = t := by rw [stm_length, List.length_take]; omega
  have hz : (stm l0 (X + BitVec.ofNat 32 q) l2 (m.drop t)).length = n - t := by rw [stm_length, List.length_drop]; omega
  generalize stm l0 X l2 (m.take t) = y at q1 q2 hy
  generalize stm l0 (X + BitVec.ofNat 32 q) l2 (m.drop t) = z at q1 q3 hz
  have hsy : (S y).size = t := by simp [S, ByteArray.size, hy]
  have hsz : (S z).size = n - t := by simp [S, ByteArray.size, hz]
  have hSe : ((S (y ++ z)).toList == (S y ++ S z).toList) = true := by
    have e : S (y ++ z) = S y ++ S z := by
      apply ByteArray.ext
      simp [S]
    rw [e]
    simp
  clear hb8 hB8 HW7 HN7 HB7 HX7 HM7 HA7 HE
  go_simp
  iterate 1 (refine sched_take rfl (by rfl) (v := ?_) ?_ ?_; rotate_left; (intro w' hw'; go_simp; with_reducible rfl); go_simp)
  refine sched_done hKK7 ?_
  go_wp2
  go_ret
  exact ⟨rfl, HW8.out⟩
end Go.Proofs.Ytgfpoedgbhfkaaa.chachaParts
