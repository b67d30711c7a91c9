/- CurveClamps. For every 2 keys, without a condition. -/
import Derived.Test.YtmdoojfcgbokjaaDoorCurShown
import Derived.Test.YtmdoojfcgbokjaaDoorCurV
namespace Go.Proofs.YtmdoojfcgbokjaaDoor.curveClamps
open Go.ChangeShapes Go.WideShapes Go.ChangeAt Go.RowKit
set_option linter.unusedVariables false

set_option maxHeartbeats 8000000 in
set_option maxRecDepth 100000 in
theorem walk (l0 l1 : List UInt8) (a2 : Int) (w : World) (w0 : l0.length = 32) (w1 : l1.length = 32) (w2 : (Lit.int .u8 a2).wf = true) (htab : FTab w) :
    Calls Tryd.prog 6 #[.agg (l0.map bv).toArray, .agg (l1.map bv).toArray, .int .u8 a2] w fun e w' => e = .returned (.bool true) ∧ Below w.heap.size w w' := by
  obtain ⟨b, hbe⟩ : ∃ b : UInt8, a2 = (b.toNat : Int) := by
    have hb : 0 ≤ a2 ∧ a2 ≤ 255 := by simpa [Lit.wf, IntKind.min, IntKind.max, IntKind.signed, IntKind.bits] using w2
    exact ⟨UInt8.ofNat a2.toNat, by rw [ofNat_small _ (by omega)]; omega⟩
  subst hbe
  have HTab : Hid (FTab w) := htab
  have hI : Hid (∀ l : List UInt8, l.length = 32 → (Tryd.prog.info? 23).map (·.size) = some (l.map bv).toArray.size) := fun l hl => info_size (n := 32) (by kernel_rfl) l hl
  have HV0 : Hid (Vw w ((w.alloc (.cells (l0.map bv).toArray 23)).alloc (.cells (l1.map bv).toArray 23)) [(w.heap.size, 23, l0.map bv), (w.heap.size + 1, 23, l1.map bv)]) := by
    have h := (((Vw.none w).alloc 23 (l0.map bv)).alloc 23 (l1.map bv))
    (try simp only [World.size_alloc] at h)
    exact h
  clear htab
  go_enter Tryd.func6, Tryd.ntmps6
  go_wp2_with fail
  refine (cshown_any _ (HTab.out.later HV0.out.bel)).mono ?_
  rintro e V0 ⟨rfl, hb⟩
  have HV : Hid (Vw w V0 [(w.heap.size, 23, l0.map bv), (w.heap.size + 1, 23, l1.map bv)]) := HV0.out.later hb
  clear hb HV0
  obtain ⟨bn, hbn⟩ : ∃ n, b.toNat = n := ⟨_, rfl⟩
  obtain ⟨m7, h7⟩ : ∃ n, (b &&& 7).toNat = n := ⟨_, rfl⟩
  obtain ⟨m192, h192⟩ : ∃ n, (b &&& 192).toNat = n := ⟨_, rfl⟩
  obtain ⟨m128, h128⟩ : ∃ n, (b &&& 128).toNat = n := ⟨_, rfl⟩
  have E7 : bits .and .u8 (bn : Int) 7 = (m7 : Int) := by rw [← hbn, ← h7]; exact and_val8 b 7
  have E192 : bits .and .u8 (bn : Int) 192 = (m192 : Int) := by rw [← hbn, ← h192]; exact and_val8 b 192
  have E128 : bits .and .u8 (bn : Int) 128 = (m128 : Int) := by rw [← hbn, ← h128]; exact and_val8 b 128
  obtain ⟨x0, hx0⟩ : ∃ n, (at8 l0 0).toNat = n := ⟨_, rfl⟩
  obtain ⟨x31, hx31⟩ : ∃ n, (at8 l0 31).toNat = n := ⟨_, rfl⟩
  obtain ⟨u31, hu31⟩ : ∃ n, (at8 l1 31).toNat = n := ⟨_, rfl⟩
  obtain ⟨y0, hy0⟩ : ∃ n, (at8 l0 0 ^^^ (b &&& 7)).toNat = n := ⟨_, rfl⟩
  obtain ⟨y31, hy31⟩ : ∃ n, (at8 l0 31 ^^^ (b &&& 192)).toNat = n := ⟨_, rfl⟩
  obtain ⟨v31, hv31⟩ : ∃ n, (at8 l1 31 ^^^ (b &&& 128)).toNat = n := ⟨_, rfl⟩
  have X0 : bits .xor .u8 (x0 : Int) (m7 : Int) = (y0 : Int) := by rw [← hx0, ← h7, ← hy0]; exact xor_val8 _ _
  have X31 : bits .xor .u8 (x31 : Int) (m192 : Int) = (y31 : Int) := by rw [← hx31, ← h192, ← hy31]; exact xor_val8 _ _
  have U31 : bits .xor .u8 (u31 : Int) (m128 : Int) = (v31 : Int) := by rw [← hu31, ← h128, ← hv31]; exact xor_val8 _ _
  have hst := run_store_arr V0 23 l0 32 w0 (by kernel_rfl) zero32C (by kernel_rfl)
  simp only [zero32C, List.replicate] at hst
  have hVa := HV.out.alloc 23 (l0.map bv)
  obtain ⟨X, hX⟩ : ∃ X, V0.alloc (.cells (l0.map bv).toArray 23) = X := ⟨_, rfl⟩
  rw [hX] at hst hVa
  have hA : Arr X V0.heap.size 23 l0 := hVa.cell (V0.heap.size, 23, l0.map bv) (by simp)
  obtain ⟨c0, f0⟩ := hA.at_ 0 (by omega)
  rw [hx0] at c0
  have hA1 : Arr (X.setCell ⟨V0.heap.size, 0, none⟩ (.int .u8 (y0 : Int))) V0.heap.size 23 (l0.set 0 (at8 l0 0 ^^^ (b &&& 7))) := by have h := hA.set 0 (at8 l0 0 ^^^ (b &&& 7)); rw [hy0] at h; exact h
  obtain ⟨c31, f31⟩ := hA1.at_ 31 (by simp [w0])
  have e31 : at8 (l0.set 0 (at8 l0 0 ^^^ (b &&& 7))) 31 = at8 l0 31 := by simp only [at8, List.getD_eq_getElem?_getD, List.getElem?_set_ne (show (0 : Nat) ≠ 31 by decide)]
  rw [e31, hx31] at c31
  have hVb := hVa.setCell 2 V0.heap.size 23 (l0.map bv) 0 (.int .u8 (y0 : Int)) rfl
  have hVc := hVb.setCell 2 V0.heap.size 23 ((l0.map bv).set 0 (.int .u8 (y0 : Int))) 31 (.int .u8 (y31 : Int)) rfl
  have hjl : (turnK l0 b).map bv = ((l0.map bv).set 0 (.int .u8 (y0 : Int))).set 31 (.int .u8 (y31 : Int)) := by
    rw [turnK, List.map_set, List.map_set, bv, bv, hy0, hy31]
  obtain ⟨X2, hX2⟩ : ∃ X2, (X.setCell ⟨V0.heap.size, 0, none⟩ (.int .u8 (y0 : Int))).setCell ⟨V0.heap.size, 31, none⟩ (.int .u8 (y31 : Int)) = X2 := ⟨_, rfl⟩
  rw [hX2] at hVc
  obtain ⟨J, hJ⟩ : ∃ J, turnK l0 b = J := ⟨_, rfl⟩
  have hJl : J.length = 32 := by rw [← hJ, turnK_length, w0]
  rw [hJ] at hjl
  have HVc : Hid (Vw w X2 [(w.heap.size, 23, l0.map bv), (w.heap.size + 1, 23, l1.map bv), (V0.heap.size, 23, J.map bv)]) := by rw [hjl]; exact hVc
  have HX2 : Hid ((X.setCell ⟨V0.heap.size, 0, none⟩ (.int .u8 (y0 : Int))).setCell ⟨V0.heap.size, 31, none⟩ (.int .u8 (y31 : Int)) = X2) := hX2
  have HV1 := HV
  have hst2 := run_store_arr X2 23 l1 32 w1 (by kernel_rfl) zero32C (by kernel_rfl)
  simp only [zero32C, List.replicate] at hst2
  have hVd := HVc.out.alloc 23 (l1.map bv)
  obtain ⟨X3, hX3⟩ : ∃ X, X2.alloc (.cells (l1.map bv).toArray 23) = X := ⟨_, rfl⟩
  rw [hX3] at hst2 hVd
  have hB : Arr X3 X2.heap.size 23 l1 := hVd.cell (X2.heap.size, 23, l1.map bv) (by simp)
  obtain ⟨d31, k31⟩ := hB.at_ 31 (by omega)
  rw [hu31] at d31
  have hVe := hVd.setCell 3 X2.heap.size 23 (l1.map bv) 31 (.int .u8 (v31 : Int)) rfl
  have hul : (turnU l1 b).map bv = (l1.map bv).set 31 (.int .u8 (v31 : Int)) := by rw [turnU, List.map_set, bv, hv31]
  obtain ⟨X4, hX4⟩ : ∃ X, X3.setCell ⟨X2.heap.size, 31, none⟩ (.int .u8 (v31 : Int)) = X := ⟨_, rfl⟩
  rw [hX4] at hVe
  obtain ⟨N, hN⟩ : ∃ N, turnU l1 b = N := ⟨_, rfl⟩
  have hNl : N.length = 32 := by rw [← hN, turnU_length, w1]
  rw [hN] at hul
  have HVe : Hid (Vw w X4 [(w.heap.size, 23, l0.map bv), (w.heap.size + 1, 23, l1.map bv), (V0.heap.size, 23, J.map bv), (X2.heap.size, 23, N.map bv)]) := by rw [hul]; exact hVe
  have HX4 : Hid (X3.setCell ⟨X2.heap.size, 31, none⟩ (.int .u8 (v31 : Int)) = X4) := hX4
  have HTn : Hid (mK J N = mK l0 l1) := by rw [← hJ, ← hN]; exact turned l0 l1 b w0 w1
  rw [hbn]
  clear hX hX2 hX3 hX4 hVa hVb hVc hVd hVe hA hA1 hB hjl hul hJ hN e31 hx0 hx31 hu31 hy0 hy31 hv31 h7 h192 h128 hbn HV
  go_wp2_with (first | (refine wpList_load_met (by rfl) 23 _ rfl (w.heap.size) rfl 23 (l0.map bv).toArray (0, 0) _ ?_ Tryd.underlying23 rfl (hI.out _ w0) ?_; exact HV1.out.cell (w.heap.size, 23, l0.map bv) (by simp)) | (rw [HX2.out]; refine wpList_load_met (by rfl) 23 _ rfl (w.heap.size + 1) rfl 23 (l1.map bv).toArray (0, 0) _ ?_ Tryd.underlying23 rfl (hI.out _ w1) ?_; exact HVc.out.cell (w.heap.size + 1, 23, l1.map bv) (by simp)) | fail)
  rw [HX4.out]
  clear hst hst2 c0 f0 c31 f31 d31 k31 E7 E192 E128 X0 X31 U31 HV1 HVc HX2 HX4
  have HV := HVe
  clear HVe
  generalize V0.heap.size = gj at *
  generalize X2.heap.size = gn at *
  obtain ⟨W1, hWd⟩ : ∃ W, X4.drew = W := ⟨_, rfl⟩
  have HWd : Hid (X4.drew = W1) := hWd
  replace HV : Hid (Vw w W1 [(w.heap.size, 23, l0.map bv), (w.heap.size + 1, 23, l1.map bv), (gj, 23, J.map bv), (gn, 23, N.map bv)]) := by rw [← hWd]; exact HV.out.drew
  clear hWd
  refine wp_region_sched' (G := Grows) (by kernel_rfl) Grows.refl Grows.trans (by kernel_rfl) [(0, true), (1, true), (2, true), (3, true), (5, true), (6, true), (4, false), (7, false), (8, true), (9, true), (10, true)] rfl (by kernel_rfl) ?_
  intro KK hKK
  rw [HWd.out]
  clear HWd
  iterate 2 (refine sched_take rfl (by rfl) (v := ?_) ?_ ?_; rotate_left; (intro w' hw'; clear hw'; go_simp; with_reducible rfl); go_simp)
  refine sched_take rfl (by rfl) (v := .agg (J.map bv).toArray) (fun w' hw' => exec_load_row 23 _ rfl (gj) rfl 23 _ (0, 0) _ ((HV.out.later hw').cell (gj, 23, J.map bv) (by simp)) Tryd.underlying23 rfl (hI.out _ hJl)) ?_
  go_simp
  refine sched_take rfl (by rfl) (v := .agg (N.map bv).toArray) (fun w' hw' => exec_load_row 23 _ rfl (gn) rfl 23 _ (0, 0) _ ((HV.out.later hw').cell (gn, 23, N.map bv) (by simp)) Tryd.underlying23 rfl (hI.out _ hNl)) ?_
  go_simp
  refine sched_take rfl (by rfl) (v := .agg (l0.map bv).toArray) (fun w' hw' => exec_load_row 23 _ rfl (w.heap.size) rfl 23 _ (0, 0) _ ((HV.out.later hw').cell (w.heap.size, 23, l0.map bv) (by simp)) Tryd.underlying23 rfl (hI.out _ w0)) ?_
  go_simp
  refine sched_take rfl (by rfl) (v := .agg (l1.map bv).toArray) (fun w' hw' => exec_load_row 23 _ rfl (w.heap.size + 1) rfl 23 _ (0, 0) _ ((HV.out.later hw').cell (w.heap.size + 1, 23, l1.map bv) (by simp)) Tryd.underlying23 rfl (hI.out _ w1)) ?_
  go_simp
  refine sched_call (f := 12) (args := #[.agg (J.map bv).toArray, .agg (N.map bv).toArray]) rfl (by rfl) (by go_simp) ?_
  refine (mult_any J N W1 hJl hNl (HTab.out.later HV.out.bel)).mono ?_
  rintro e V2 ⟨rfl, hb⟩
  refine ⟨_, rfl, hb, ?_⟩
  obtain ⟨p, hn⟩ : ∃ n, mK J N = n := ⟨_, rfl⟩
  have HNp : Hid (mK J N = p) := hn
  have hpl : p < P255 := by rw [← hn]; exact mK_lt _ _
  rw [hn]
  replace HV := hidup (HV.out.later hb)
  clear hb hn
  go_simp
  refine sched_call (f := 12) (args := #[.agg (l0.map bv).toArray, .agg (l1.map bv).toArray]) rfl (by rfl) (by go_simp) ?_
  refine (mult_any l0 l1 V2 w0 w1 (HTab.out.later HV.out.bel)).mono ?_
  rintro e V3 ⟨rfl, hb⟩
  refine ⟨_, rfl, hb, ?_⟩
  obtain ⟨q, hn⟩ : ∃ n, mK l0 l1 = n := ⟨_, rfl⟩
  have HNq : Hid (mK l0 l1 = q) := hn
  have hql : q < P255 := by rw [← hn]; exact mK_lt _ _
  rw [hn]
  replace HV := hidup (HV.out.later hb)
  clear hb hn
  go_simp
  refine sched_take rfl (by rfl) (v := ?_) ?_ ?_; rotate_left; (intro w' hw'; clear hw'; have q1 := keys_held w' p q true hpl hql (decide_eq_true (by rw [← HNp.out, ← HNq.out]; exact HTn.out)).symm; go_simp; with_reducible rfl); go_simp
  iterate 2 (refine sched_take rfl (by rfl) (v := ?_) ?_ ?_; rotate_left; (intro w' hw'; clear hw'; go_simp; with_reducible rfl); go_simp)
  refine sched_done hKK ?_
  clear hKK
  (try go_wp2)
  go_ret
  exact ⟨rfl, HV.out.bel⟩
end Go.Proofs.YtmdoojfcgbokjaaDoor.curveClamps
