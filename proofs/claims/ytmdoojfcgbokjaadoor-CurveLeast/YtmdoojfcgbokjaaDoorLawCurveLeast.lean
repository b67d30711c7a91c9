/- CurveLeast. For every 2 keys, without a condition. -/
import Derived.Test.YtmdoojfcgbokjaaDoorCurShown
namespace Go.Proofs.YtmdoojfcgbokjaaDoor.curveLeast
open Go.ChangeShapes Go.WideShapes Go.ChangeAt Go.RowKit
set_option linter.unusedVariables false

set_option maxHeartbeats 8000000 in
set_option maxRecDepth 100000 in
theorem walk (l0 l1 : List UInt8) (w : World) (w0 : l0.length = 32) (w1 : l1.length = 32) (htab : FTab w) :
    Calls Tryd.prog 9 #[.agg (l0.map bv).toArray, .agg (l1.map bv).toArray] w fun e w' => e = .returned (.bool true) ∧ Below w.heap.size w w' := by
  have HTab : Hid (FTab w) := htab
  have hI : Hid (∀ l : List UInt8, l.length = 32 → (Tryd.prog.info? 23).map (·.size) = some (l.map bv).toArray.size) := fun l hl => info_size (n := 32) (by kernel_rfl) l hl
  have HV0 : Hid (Vw w ((w.alloc (.cells (l0.map bv).toArray 23)).alloc (.cells (l1.map bv).toArray 23)) [(w.heap.size, 23, l0.map bv), (w.heap.size + 1, 23, l1.map bv)]) := by
    have h := (((Vw.none w).alloc 23 (l0.map bv)).alloc 23 (l1.map bv))
    (try simp only [World.size_alloc] at h)
    exact h
  clear htab
  go_enter Tryd.func9, Tryd.ntmps9
  go_wp2_with fail
  refine (cshown_any _ (HTab.out.later HV0.out.bel)).mono ?_
  rintro e V0 ⟨rfl, hb⟩
  have HV : Hid (Vw w V0 [(w.heap.size, 23, l0.map bv), (w.heap.size + 1, 23, l1.map bv)]) := HV0.out.later hb
  clear hb HV0
  go_wp2_with (first | (refine wpList_load_met (by rfl) 23 _ rfl (w.heap.size) rfl 23 (l0.map bv).toArray (0, 0) _ ?_ Tryd.underlying23 rfl (hI.out _ w0) ?_; exact HV.out.cell (w.heap.size, 23, l0.map bv) (by simp)) | (refine wpList_load_met (by rfl) 23 _ rfl (w.heap.size + 1) rfl 23 (l1.map bv).toArray (0, 0) _ ?_ Tryd.underlying23 rfl (hI.out _ w1) ?_; exact HV.out.cell (w.heap.size + 1, 23, l1.map bv) (by simp)) | fail)
  refine (mult_any l0 l1 V0 w0 w1 (HTab.out.later HV.out.bel)).mono ?_
  rintro e V1 ⟨rfl, hb⟩
  obtain ⟨x, hn⟩ : ∃ n, mK l0 l1 = n := ⟨_, rfl⟩
  have HNx : Hid (mK l0 l1 = x) := hn
  have hxl : x < P255 := by rw [← hn]; exact mK_lt _ _
  rw [hn]
  have hlenx := leB_length 32 x
  have hst := run_store_arr V1 23 (leB 32 x) 32 (leB_length _ _) (by kernel_rfl) zero32C (by kernel_rfl)
  simp only [zero32C, List.replicate] at hst
  have hV := (HV.out.later hb).alloc 23 ((leB 32 x).map bv)
  obtain ⟨X1, hX⟩ : ∃ X, V1.alloc (.cells ((leB 32 x).map bv).toArray 23) = X := ⟨_, rfl⟩
  rw [hX] at hst hV
  replace HV : Hid (Vw w X1 [(w.heap.size, 23, l0.map bv), (w.heap.size + 1, 23, l1.map bv), (V1.heap.size, 23, (leB 32 x).map bv)]) := hV
  clear hb hV hX hn
  go_wp2_with (first | (refine wpList_load_met (by rfl) 23 _ rfl (w.heap.size) rfl 23 (l0.map bv).toArray (0, 0) _ ?_ Tryd.underlying23 rfl (hI.out _ w0) ?_; exact HV.out.cell (w.heap.size, 23, l0.map bv) (by simp)) | (refine wpList_load_met (by rfl) 23 _ rfl (w.heap.size + 1) rfl 23 (l1.map bv).toArray (0, 0) _ ?_ Tryd.underlying23 rfl (hI.out _ w1) ?_; exact HV.out.cell (w.heap.size + 1, 23, l1.map bv) (by simp)) | (refine wpList_load_met (by rfl) 23 _ rfl (V1.heap.size) rfl 23 ((leB 32 x).map bv).toArray (0, 0) _ ?_ Tryd.underlying23 rfl (hI.out _ (leB_length _ _)) ?_; exact HV.out.cell (V1.heap.size, 23, (leB 32 x).map bv) (by simp)) | fail)
  clear hst
  generalize V1.heap.size = g1 at *
  obtain ⟨W2, hWd⟩ : ∃ W, X1.drew = W := ⟨_, rfl⟩
  have HWd : Hid (X1.drew = W2) := hWd
  replace HV : Hid (Vw w W2 [(w.heap.size, 23, l0.map bv), (w.heap.size + 1, 23, l1.map bv), (g1, 23, (leB 32 x).map bv)]) := by rw [← hWd]; exact HV.out.drew
  clear hWd
  refine wp_region_sched' (G := Grows) (by kernel_rfl) Grows.refl Grows.trans (by kernel_rfl) [(0, true), (1, true), (2, true), (5, true), (3, false), (4, false), (6, true), (7, true), (8, true), (9, true), (10, true), (14, true), (11, false), (12, false), (13, false), (15, true), (16, true), (17, true)] rfl (by kernel_rfl) ?_
  intro KK hKK
  rw [HWd.out]
  clear HWd
  iterate 2 (refine sched_take rfl (by rfl) (v := ?_) ?_ ?_; rotate_left; (intro w' hw'; clear hw'; go_simp; with_reducible rfl); go_simp)
  refine sched_take rfl (by rfl) (v := .agg ((leB 32 x).map bv).toArray) (fun w' hw' => exec_load_row 23 _ rfl (g1) rfl 23 _ (0, 0) _ ((HV.out.later hw').cell (g1, 23, (leB 32 x).map bv) (by simp)) Tryd.underlying23 rfl (hI.out _ (leB_length _ _))) ?_
  go_simp
  refine sched_take rfl (by rfl) (v := .agg ((leB 32 x).map bv).toArray) (fun w' hw' => exec_load_row 23 _ rfl (g1) rfl 23 _ (0, 0) _ ((HV.out.later hw').cell (g1, 23, (leB 32 x).map bv) (by simp)) Tryd.underlying23 rfl (hI.out _ (leB_length _ _))) ?_
  go_simp
  refine sched_call (f := 17) (args := #[.agg ((leB 32 x).map bv).toArray]) rfl (by rfl) (by go_simp) ?_
  refine (ffrom_any (leB 32 x) W2 (leB_length _ _)).mono ?_
  rintro e V3 ⟨c3, rfl, he, hb⟩
  refine ⟨_, rfl, hb, ?_⟩
  obtain ⟨f, hn⟩ : ∃ n, modU (leB 32 x) = n := ⟨_, rfl⟩
  have HNf : Hid (modU (leB 32 x) = f) := hn
  replace he : Elm c3 (modU (leB 32 x)) := he
  rw [hn] at he
  have HEf : Hid (Elm c3 f) := he
  replace HV := hidup (HV.out.later hb)
  clear hb he hn
  go_simp
  refine sched_call (f := 18) (args := #[.agg c3.toArray]) rfl (by rfl) (by go_simp) ?_
  refine (fbytes_any c3 f V3 HEf.out).mono ?_
  rintro e V4 ⟨rfl, hb⟩
  refine ⟨_, rfl, hb, ?_⟩
  obtain ⟨f2, hn⟩ : ∃ n, f = n := ⟨_, rfl⟩
  have HNf2 : Hid (f = f2) := hn
  have hf2l : f2 < P255 := by rw [← hn]; exact HEf.out.lt
  rw [hn]
  replace HV := hidup (HV.out.later hb)
  clear hb hn
  go_simp
  refine sched_take rfl (by rfl) (v := ?_) ?_ ?_; rotate_left; (intro w' hw'; clear hw'; have q1 := keys_held w' f2 x true hf2l hxl (decide_eq_true (by rw [← HNf2.out, ← HNf.out]; exact modU_told x hxl)).symm; go_simp; with_reducible rfl); go_simp
  iterate 2 (refine sched_take rfl (by rfl) (v := ?_) ?_ ?_; rotate_left; (intro w' hw'; clear hw'; go_simp; with_reducible rfl); go_simp)
  refine sched_take rfl (by rfl) (v := .agg (l0.map bv).toArray) (fun w' hw' => exec_load_row 23 _ rfl (w.heap.size) rfl 23 _ (0, 0) _ ((HV.out.later hw').cell (w.heap.size, 23, l0.map bv) (by simp)) Tryd.underlying23 rfl (hI.out _ w0)) ?_
  go_simp
  refine sched_take rfl (by rfl) (v := .agg (l1.map bv).toArray) (fun w' hw' => exec_load_row 23 _ rfl (w.heap.size + 1) rfl 23 _ (0, 0) _ ((HV.out.later hw').cell (w.heap.size + 1, 23, l1.map bv) (by simp)) Tryd.underlying23 rfl (hI.out _ w1)) ?_
  go_simp
  refine sched_take rfl (by rfl) (v := .agg ((leB 32 x).map bv).toArray) (fun w' hw' => exec_load_row 23 _ rfl (g1) rfl 23 _ (0, 0) _ ((HV.out.later hw').cell (g1, 23, (leB 32 x).map bv) (by simp)) Tryd.underlying23 rfl (hI.out _ (leB_length _ _))) ?_
  go_simp
  refine sched_call (f := 17) (args := #[.agg (l1.map bv).toArray]) rfl (by rfl) (by go_simp) ?_
  refine (ffrom_any l1 V4 w1).mono ?_
  rintro e V5 ⟨c5, rfl, he, hb⟩
  refine ⟨_, rfl, hb, ?_⟩
  obtain ⟨h, hn⟩ : ∃ n, modU l1 = n := ⟨_, rfl⟩
  have HNh : Hid (modU l1 = h) := hn
  replace he : Elm c5 (modU l1) := he
  rw [hn] at he
  have HEh : Hid (Elm c5 h) := he
  replace HV := hidup (HV.out.later hb)
  clear hb he hn
  go_simp
  refine sched_call (f := 18) (args := #[.agg c5.toArray]) rfl (by rfl) (by go_simp) ?_
  refine (fbytes_any c5 h V5 HEh.out).mono ?_
  rintro e V6 ⟨rfl, hb⟩
  refine ⟨_, rfl, hb, ?_⟩
  obtain ⟨h2, hn⟩ : ∃ n, h = n := ⟨_, rfl⟩
  have HNh2 : Hid (h = h2) := hn
  have hh2l : h2 < P255 := by rw [← hn]; exact HEh.out.lt
  rw [hn]
  replace HV := hidup (HV.out.later hb)
  clear hb hn
  go_simp
  refine sched_call (f := 12) (args := #[.agg (l0.map bv).toArray, .agg ((leB 32 h2).map bv).toArray]) rfl (by rfl) (by go_simp) ?_
  refine (mult_any l0 (leB 32 h2) V6 w0 (leB_length _ _) (HTab.out.later HV.out.bel)).mono ?_
  rintro e V7 ⟨rfl, hb⟩
  refine ⟨_, rfl, hb, ?_⟩
  obtain ⟨q, hn⟩ : ∃ n, mK l0 (leB 32 h2) = n := ⟨_, rfl⟩
  have HNq : Hid (mK l0 (leB 32 h2) = q) := hn
  have hql : q < P255 := by rw [← hn]; exact mK_lt _ _
  rw [hn]
  replace HV := hidup (HV.out.later hb)
  clear hb hn
  go_simp
  refine sched_take rfl (by rfl) (v := ?_) ?_ ?_; rotate_left; (intro w' hw'; clear hw'; have q1 := keys_held w' q x true hql hxl (decide_eq_true (by rw [← HNq.out, ← HNh2.out, ← HNh.out, ← HNx.out]; exact mK_from _ _)).symm; go_simp; with_reducible rfl); go_simp
  iterate 2 (refine sched_take rfl (by rfl) (v := ?_) ?_ ?_; rotate_left; (intro w' hw'; clear hw'; go_simp; with_reducible rfl); go_simp)
  refine sched_done hKK ?_
  clear hKK
  (try go_wp2)
  go_ret
  exact ⟨rfl, HV.out.bel⟩
end Go.Proofs.YtmdoojfcgbokjaaDoor.curveLeast
