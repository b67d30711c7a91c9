/- CurveOrder. For every 3 keys, without a condition. -/
import Derived.Test.YtmdoojfcgbokjaaDoorCurShown
namespace Go.Proofs.YtmdoojfcgbokjaaDoor.curveOrder
open Go.ChangeShapes Go.WideShapes Go.ChangeAt Go.RowKit
set_option linter.unusedVariables false

set_option maxHeartbeats 8000000 in
set_option maxRecDepth 100000 in
theorem walk (l0 l1 l2 : List UInt8) (w : World) (w0 : l0.length = 32) (w1 : l1.length = 32) (w2 : l2.length = 32) (htab : FTab w) :
    Calls Tryd.prog 7 #[.agg (l0.map bv).toArray, .agg (l1.map bv).toArray, .agg (l2.map bv).toArray] w fun e w' => e = .returned (.bool true) ∧ Below w.heap.size w w' := by
  have HTab : Hid (FTab w) := htab
  have hI : Hid (∀ l : List UInt8, l.length = 32 → (Tryd.prog.info? 23).map (·.size) = some (l.map bv).toArray.size) := fun l hl => info_size (n := 32) (by kernel_rfl) l hl
  have HV0 : Hid (Vw w (((w.alloc (.cells (l0.map bv).toArray 23)).alloc (.cells (l1.map bv).toArray 23)).alloc (.cells (l2.map bv).toArray 23)) [(w.heap.size, 23, l0.map bv), (w.heap.size + 1, 23, l1.map bv), (w.heap.size + 1 + 1, 23, l2.map bv)]) := by
    have h := ((((Vw.none w).alloc 23 (l0.map bv)).alloc 23 (l1.map bv)).alloc 23 (l2.map bv))
    (try simp only [World.size_alloc] at h)
    exact h
  clear htab
  go_enter Tryd.func7, Tryd.ntmps7
  go_wp2_with fail
  refine (cshown_any _ (HTab.out.later HV0.out.bel)).mono ?_
  rintro e V0 ⟨rfl, hb⟩
  have HV : Hid (Vw w V0 [(w.heap.size, 23, l0.map bv), (w.heap.size + 1, 23, l1.map bv), (w.heap.size + 1 + 1, 23, l2.map bv)]) := HV0.out.later hb
  clear hb HV0
  go_wp2
  obtain ⟨W1, hWd⟩ : ∃ W, V0.drew = W := ⟨_, rfl⟩
  have HWd : Hid (V0.drew = W1) := hWd
  replace HV : Hid (Vw w W1 [(w.heap.size, 23, l0.map bv), (w.heap.size + 1, 23, l1.map bv), (w.heap.size + 1 + 1, 23, l2.map bv)]) := by rw [← hWd]; exact HV.out.drew
  clear hWd
  refine wp_region_sched' (G := Grows) (by kernel_rfl) Grows.refl Grows.trans (by kernel_rfl) [(0, true), (1, true), (2, true), (3, true), (4, true), (7, true), (8, true), (9, true), (5, false), (6, false), (10, false), (11, false), (12, true), (13, true), (14, true)] rfl (by kernel_rfl) ?_
  intro KK hKK
  rw [HWd.out]
  clear HWd
  iterate 2 (refine sched_take rfl (by rfl) (v := ?_) ?_ ?_; rotate_left; (intro w' hw'; clear hw'; go_simp; with_reducible rfl); go_simp)
  refine sched_take rfl (by rfl) (v := .agg (l0.map bv).toArray) (fun w' hw' => exec_load_row 23 _ rfl (w.heap.size) rfl 23 _ (0, 0) _ ((HV.out.later hw').cell (w.heap.size, 23, l0.map bv) (by simp)) Tryd.underlying23 rfl (hI.out _ w0)) ?_
  go_simp
  refine sched_take rfl (by rfl) (v := .agg (l1.map bv).toArray) (fun w' hw' => exec_load_row 23 _ rfl (w.heap.size + 1) rfl 23 _ (0, 0) _ ((HV.out.later hw').cell (w.heap.size + 1, 23, l1.map bv) (by simp)) Tryd.underlying23 rfl (hI.out _ w1)) ?_
  go_simp
  refine sched_take rfl (by rfl) (v := .agg (l2.map bv).toArray) (fun w' hw' => exec_load_row 23 _ rfl (w.heap.size + 1 + 1) rfl 23 _ (0, 0) _ ((HV.out.later hw').cell (w.heap.size + 1 + 1, 23, l2.map bv) (by simp)) Tryd.underlying23 rfl (hI.out _ w2)) ?_
  go_simp
  refine sched_take rfl (by rfl) (v := .agg (l1.map bv).toArray) (fun w' hw' => exec_load_row 23 _ rfl (w.heap.size + 1) rfl 23 _ (0, 0) _ ((HV.out.later hw').cell (w.heap.size + 1, 23, l1.map bv) (by simp)) Tryd.underlying23 rfl (hI.out _ w1)) ?_
  go_simp
  refine sched_take rfl (by rfl) (v := .agg (l0.map bv).toArray) (fun w' hw' => exec_load_row 23 _ rfl (w.heap.size) rfl 23 _ (0, 0) _ ((HV.out.later hw').cell (w.heap.size, 23, l0.map bv) (by simp)) Tryd.underlying23 rfl (hI.out _ w0)) ?_
  go_simp
  refine sched_take rfl (by rfl) (v := .agg (l2.map bv).toArray) (fun w' hw' => exec_load_row 23 _ rfl (w.heap.size + 1 + 1) rfl 23 _ (0, 0) _ ((HV.out.later hw').cell (w.heap.size + 1 + 1, 23, l2.map bv) (by simp)) Tryd.underlying23 rfl (hI.out _ w2)) ?_
  go_simp
  refine sched_call (f := 12) (args := #[.agg (l1.map bv).toArray, .agg (l2.map bv).toArray]) rfl (by rfl) (by go_simp) ?_
  refine (mult_any l1 l2 W1 w1 w2 (HTab.out.later HV.out.bel)).mono ?_
  rintro e V2 ⟨rfl, hb⟩
  refine ⟨_, rfl, hb, ?_⟩
  obtain ⟨r, hn⟩ : ∃ n, mK l1 l2 = n := ⟨_, rfl⟩
  have HNr : Hid (mK l1 l2 = r) := hn
  have hrl : r < P255 := by rw [← hn]; exact mK_lt _ _
  rw [hn]
  replace HV := hidup (HV.out.later hb)
  clear hb hn
  go_simp
  refine sched_call (f := 12) (args := #[.agg (l0.map bv).toArray, .agg ((leB 32 r).map bv).toArray]) rfl (by rfl) (by go_simp) ?_
  refine (mult_any l0 (leB 32 r) V2 w0 (leB_length _ _) (HTab.out.later HV.out.bel)).mono ?_
  rintro e V3 ⟨rfl, hb⟩
  refine ⟨_, rfl, hb, ?_⟩
  obtain ⟨p, hn⟩ : ∃ n, mK l0 (leB 32 r) = n := ⟨_, rfl⟩
  have HNp : Hid (mK l0 (leB 32 r) = p) := hn
  have hpl : p < P255 := by rw [← hn]; exact mK_lt _ _
  rw [hn]
  replace HV := hidup (HV.out.later hb)
  clear hb hn
  go_simp
  refine sched_call (f := 12) (args := #[.agg (l0.map bv).toArray, .agg (l2.map bv).toArray]) rfl (by rfl) (by go_simp) ?_
  refine (mult_any l0 l2 V3 w0 w2 (HTab.out.later HV.out.bel)).mono ?_
  rintro e V4 ⟨rfl, hb⟩
  refine ⟨_, rfl, hb, ?_⟩
  obtain ⟨s, hn⟩ : ∃ n, mK l0 l2 = n := ⟨_, rfl⟩
  have HNs : Hid (mK l0 l2 = s) := hn
  have hsl : s < P255 := by rw [← hn]; exact mK_lt _ _
  rw [hn]
  replace HV := hidup (HV.out.later hb)
  clear hb hn
  go_simp
  refine sched_call (f := 12) (args := #[.agg (l1.map bv).toArray, .agg ((leB 32 s).map bv).toArray]) rfl (by rfl) (by go_simp) ?_
  refine (mult_any l1 (leB 32 s) V4 w1 (leB_length _ _) (HTab.out.later HV.out.bel)).mono ?_
  rintro e V5 ⟨rfl, hb⟩
  refine ⟨_, rfl, hb, ?_⟩
  obtain ⟨q, hn⟩ : ∃ n, mK l1 (leB 32 s) = n := ⟨_, rfl⟩
  have HNq : Hid (mK l1 (leB 32 s) = q) := hn
  have hql : q < P255 := by rw [← hn]; exact mK_lt _ _
  rw [hn]
  replace HV := hidup (HV.out.later hb)
  clear hb hn
  go_simp
  refine sched_take rfl (by rfl) (v := ?_) ?_ ?_; rotate_left; (intro w' hw'; clear hw'; have q1 := keys_held w' p q true hpl hql (decide_eq_true (by rw [← HNp.out, ← HNq.out, ← HNr.out, ← HNs.out]; exact mK_comm _ _ _)).symm; go_simp; with_reducible rfl); go_simp
  iterate 2 (refine sched_take rfl (by rfl) (v := ?_) ?_ ?_; rotate_left; (intro w' hw'; clear hw'; go_simp; with_reducible rfl); go_simp)
  refine sched_done hKK ?_
  clear hKK
  (try go_wp2)
  go_ret
  exact ⟨rfl, HV.out.bel⟩
end Go.Proofs.YtmdoojfcgbokjaaDoor.curveOrder
