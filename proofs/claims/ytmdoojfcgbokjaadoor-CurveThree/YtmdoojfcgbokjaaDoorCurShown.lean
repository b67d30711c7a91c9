/- The walk over what must be in any case (curve). -/
import Derived.Test.YtmdoojfcgbokjaaDoorCurT
namespace Go.Proofs.YtmdoojfcgbokjaaDoor
set_option linter.unusedVariables false
open Go.RowKit

set_option maxHeartbeats 8000000 in
set_option maxRecDepth 100000 in
theorem cshown_any (w : World) (htab : FTab w) : Calls Tryd.prog 11 #[] w fun e w' => e = .returned (.bool true) ∧ Below w.heap.size w w' := by
  have HTab : Hid (FTab w) := htab
  have hI : Hid (∀ l : List UInt8, l.length = 32 → (Tryd.prog.info? 23).map (·.size) = some (l.map bv).toArray.size) := fun l hl => info_size (n := 32) (by kernel_rfl) l hl
  have HV : Hid (Vw w w []) := Vw.none w
  clear htab
  go_enter Tryd.func11, Tryd.ntmps11
  go_wp2_with (first | fail)
  refine (public_told oneL w rfl (HTab.out.later HV.out.bel)).mono ?_
  rintro e V1 ⟨rfl, hb⟩
  obtain ⟨a, hn⟩ : ∃ n, pubN oneL = n := ⟨_, rfl⟩
  have HNa : Hid (pubN oneL = a) := hn
  have hal : a < P255 := by rw [← hn]; exact pubN_lt _
  rw [hn]
  have hlena := leB_length 32 a
  have hst := run_store_arr V1 23 (leB 32 a) 32 (leB_length _ _) (by kernel_rfl) zero32C (by kernel_rfl)
  simp only [zero32C, List.replicate] at hst
  have hV := (HV.out.later hb).alloc 23 ((leB 32 a).map bv)
  obtain ⟨X1, hX⟩ : ∃ X, V1.alloc (.cells ((leB 32 a).map bv).toArray 23) = X := ⟨_, rfl⟩
  rw [hX] at hst hV
  replace HV : Hid (Vw w X1 [(V1.heap.size, 23, (leB 32 a).map bv)]) := hV
  clear hb hV hX hn
  go_wp2_with (first | (refine wpList_load_met (by rfl) 23 _ rfl (V1.heap.size) rfl 23 ((leB 32 a).map bv).toArray (0, 0) _ ?_ Tryd.underlying23 rfl (hI.out _ (leB_length _ _)) ?_; exact HV.out.cell (V1.heap.size, 23, (leB 32 a).map bv) (by simp)) | fail)
  clear hst
  generalize V1.heap.size = g1 at *
  refine (public_told hunL X1 rfl (HTab.out.later HV.out.bel)).mono ?_
  rintro e V2 ⟨rfl, hb⟩
  obtain ⟨b, hn⟩ : ∃ n, pubN hunL = n := ⟨_, rfl⟩
  have HNb : Hid (pubN hunL = b) := hn
  have hbl : b < P255 := by rw [← hn]; exact pubN_lt _
  rw [hn]
  have hlenb := leB_length 32 b
  have hst := run_store_arr V2 23 (leB 32 b) 32 (leB_length _ _) (by kernel_rfl) zero32C (by kernel_rfl)
  simp only [zero32C, List.replicate] at hst
  have hV := (HV.out.later hb).alloc 23 ((leB 32 b).map bv)
  obtain ⟨X2, hX⟩ : ∃ X, V2.alloc (.cells ((leB 32 b).map bv).toArray 23) = X := ⟨_, rfl⟩
  rw [hX] at hst hV
  replace HV : Hid (Vw w X2 [(g1, 23, (leB 32 a).map bv), (V2.heap.size, 23, (leB 32 b).map bv)]) := hV
  clear hb hV hX hn
  go_wp2_with (first | (refine wpList_load_met (by rfl) 23 _ rfl (g1) rfl 23 ((leB 32 a).map bv).toArray (0, 0) _ ?_ Tryd.underlying23 rfl (hI.out _ (leB_length _ _)) ?_; exact HV.out.cell (g1, 23, (leB 32 a).map bv) (by simp)) | (refine wpList_load_met (by rfl) 23 _ rfl (V2.heap.size) rfl 23 ((leB 32 b).map bv).toArray (0, 0) _ ?_ Tryd.underlying23 rfl (hI.out _ (leB_length _ _)) ?_; exact HV.out.cell (V2.heap.size, 23, (leB 32 b).map bv) (by simp)) | fail)
  clear hst
  generalize V2.heap.size = g2 at *
  have HX : Hid (mK oneL (leB 32 b) = mK hunL (leB 32 a) ∧ mK oneL (leB 32 b) ≠ 0 ∧ mK hunL (leB 32 a) ≠ 0) := by rw [← HNa.out, ← HNb.out]; exact ⟨sh_eq _ _, sh_ne _ _, sh_ne _ _⟩
  refine (shared_any oneL (leB 32 b) X2 rfl (leB_length _ _) (HTab.out.later HV.out.bel)).mono ?_
  rintro e V3 ⟨rfl, hb⟩
  obtain ⟨x, hn⟩ : ∃ n, mK oneL (leB 32 b) = n := ⟨_, rfl⟩
  have HNx : Hid (mK oneL (leB 32 b) = x) := hn
  have hxl : x < P255 := by rw [← hn]; exact mK_lt _ _
  rw [hn]
  rw [if_neg (show ¬ x = 0 by rw [← hn]; exact HX.out.2.1)]
  have hlenx := leB_length 32 x
  have hst := run_store_arr V3 23 (leB 32 x) 32 (leB_length _ _) (by kernel_rfl) zero32C (by kernel_rfl)
  simp only [zero32C, List.replicate] at hst
  have hV := (HV.out.later hb).alloc 23 ((leB 32 x).map bv)
  obtain ⟨X3, hX⟩ : ∃ X, V3.alloc (.cells ((leB 32 x).map bv).toArray 23) = X := ⟨_, rfl⟩
  rw [hX] at hst hV
  replace HV : Hid (Vw w X3 [(g1, 23, (leB 32 a).map bv), (g2, 23, (leB 32 b).map bv), (V3.heap.size, 23, (leB 32 x).map bv)]) := hV
  clear hb hV hX hn
  go_wp2_with (first | (refine wpList_load_met (by rfl) 23 _ rfl (g1) rfl 23 ((leB 32 a).map bv).toArray (0, 0) _ ?_ Tryd.underlying23 rfl (hI.out _ (leB_length _ _)) ?_; exact HV.out.cell (g1, 23, (leB 32 a).map bv) (by simp)) | (refine wpList_load_met (by rfl) 23 _ rfl (g2) rfl 23 ((leB 32 b).map bv).toArray (0, 0) _ ?_ Tryd.underlying23 rfl (hI.out _ (leB_length _ _)) ?_; exact HV.out.cell (g2, 23, (leB 32 b).map bv) (by simp)) | (refine wpList_load_met (by rfl) 23 _ rfl (V3.heap.size) rfl 23 ((leB 32 x).map bv).toArray (0, 0) _ ?_ Tryd.underlying23 rfl (hI.out _ (leB_length _ _)) ?_; exact HV.out.cell (V3.heap.size, 23, (leB 32 x).map bv) (by simp)) | fail)
  clear hst
  generalize V3.heap.size = g3 at *
  refine (shared_any hunL (leB 32 a) X3 rfl (leB_length _ _) (HTab.out.later HV.out.bel)).mono ?_
  rintro e V4 ⟨rfl, hb⟩
  obtain ⟨y, hn⟩ : ∃ n, mK hunL (leB 32 a) = n := ⟨_, rfl⟩
  have HNy : Hid (mK hunL (leB 32 a) = y) := hn
  have hyl : y < P255 := by rw [← hn]; exact mK_lt _ _
  rw [hn]
  rw [if_neg (show ¬ y = 0 by rw [← hn]; exact HX.out.2.2)]
  have hleny := leB_length 32 y
  have hst := run_store_arr V4 23 (leB 32 y) 32 (leB_length _ _) (by kernel_rfl) zero32C (by kernel_rfl)
  simp only [zero32C, List.replicate] at hst
  have hV := (HV.out.later hb).alloc 23 ((leB 32 y).map bv)
  obtain ⟨X4, hX⟩ : ∃ X, V4.alloc (.cells ((leB 32 y).map bv).toArray 23) = X := ⟨_, rfl⟩
  rw [hX] at hst hV
  replace HV : Hid (Vw w X4 [(g1, 23, (leB 32 a).map bv), (g2, 23, (leB 32 b).map bv), (g3, 23, (leB 32 x).map bv), (V4.heap.size, 23, (leB 32 y).map bv)]) := hV
  clear hb hV hX hn
  go_wp2_with (first | (refine wpList_load_met (by rfl) 23 _ rfl (g1) rfl 23 ((leB 32 a).map bv).toArray (0, 0) _ ?_ Tryd.underlying23 rfl (hI.out _ (leB_length _ _)) ?_; exact HV.out.cell (g1, 23, (leB 32 a).map bv) (by simp)) | (refine wpList_load_met (by rfl) 23 _ rfl (g2) rfl 23 ((leB 32 b).map bv).toArray (0, 0) _ ?_ Tryd.underlying23 rfl (hI.out _ (leB_length _ _)) ?_; exact HV.out.cell (g2, 23, (leB 32 b).map bv) (by simp)) | (refine wpList_load_met (by rfl) 23 _ rfl (g3) rfl 23 ((leB 32 x).map bv).toArray (0, 0) _ ?_ Tryd.underlying23 rfl (hI.out _ (leB_length _ _)) ?_; exact HV.out.cell (g3, 23, (leB 32 x).map bv) (by simp)) | (refine wpList_load_met (by rfl) 23 _ rfl (V4.heap.size) rfl 23 ((leB 32 y).map bv).toArray (0, 0) _ ?_ Tryd.underlying23 rfl (hI.out _ (leB_length _ _)) ?_; exact HV.out.cell (V4.heap.size, 23, (leB 32 y).map bv) (by simp)) | fail)
  clear hst
  generalize V4.heap.size = g4 at *
  refine (shared_any oneL zeroL X4 rfl rfl (HTab.out.later HV.out.bel)).mono ?_
  rintro e V5 ⟨rfl, hb⟩
  obtain ⟨z, hn⟩ : ∃ n, mK oneL zeroL = n := ⟨_, rfl⟩
  have HNz : Hid (mK oneL zeroL = z) := hn
  have hzl : z < P255 := by rw [← hn]; exact mK_lt _ _
  rw [hn]
  rw [if_pos (show z = 0 by rw [← hn]; exact mK_zero _)]
  have hlenz := leB_length 32 z
  have hst := run_store_arr V5 23 (leB 32 z) 32 (leB_length _ _) (by kernel_rfl) zero32C (by kernel_rfl)
  simp only [zero32C, List.replicate] at hst
  have hV := (HV.out.later hb).alloc 23 ((leB 32 z).map bv)
  obtain ⟨X5, hX⟩ : ∃ X, V5.alloc (.cells ((leB 32 z).map bv).toArray 23) = X := ⟨_, rfl⟩
  rw [hX] at hst hV
  replace HV : Hid (Vw w X5 [(g1, 23, (leB 32 a).map bv), (g2, 23, (leB 32 b).map bv), (g3, 23, (leB 32 x).map bv), (g4, 23, (leB 32 y).map bv), (V5.heap.size, 23, (leB 32 z).map bv)]) := hV
  clear hb hV hX hn
  have HXY : Hid (x = y) := by show _ = _; rw [← HNx.out, ← HNy.out]; exact HX.out.1
  go_wp2_with (first | (refine wpList_load_met (by rfl) 23 _ rfl (g1) rfl 23 ((leB 32 a).map bv).toArray (0, 0) _ ?_ Tryd.underlying23 rfl (hI.out _ (leB_length _ _)) ?_; exact HV.out.cell (g1, 23, (leB 32 a).map bv) (by simp)) | (refine wpList_load_met (by rfl) 23 _ rfl (g2) rfl 23 ((leB 32 b).map bv).toArray (0, 0) _ ?_ Tryd.underlying23 rfl (hI.out _ (leB_length _ _)) ?_; exact HV.out.cell (g2, 23, (leB 32 b).map bv) (by simp)) | (refine wpList_load_met (by rfl) 23 _ rfl (g3) rfl 23 ((leB 32 x).map bv).toArray (0, 0) _ ?_ Tryd.underlying23 rfl (hI.out _ (leB_length _ _)) ?_; exact HV.out.cell (g3, 23, (leB 32 x).map bv) (by simp)) | (refine wpList_load_met (by rfl) 23 _ rfl (g4) rfl 23 ((leB 32 y).map bv).toArray (0, 0) _ ?_ Tryd.underlying23 rfl (hI.out _ (leB_length _ _)) ?_; exact HV.out.cell (g4, 23, (leB 32 y).map bv) (by simp)) | (refine wpList_load_met (by rfl) 23 _ rfl (V5.heap.size) rfl 23 ((leB 32 z).map bv).toArray (0, 0) _ ?_ Tryd.underlying23 rfl (hI.out _ (leB_length _ _)) ?_; exact HV.out.cell (V5.heap.size, 23, (leB 32 z).map bv) (by simp)) | fail)
  clear hst
  generalize V5.heap.size = g5 at *
  obtain ⟨W6, hWd⟩ : ∃ W, X5.drew = W := ⟨_, rfl⟩
  have HWd : Hid (X5.drew = W6) := hWd
  replace HV : Hid (Vw w W6 [(g1, 23, (leB 32 a).map bv), (g2, 23, (leB 32 b).map bv), (g3, 23, (leB 32 x).map bv), (g4, 23, (leB 32 y).map bv), (g5, 23, (leB 32 z).map bv)]) := by rw [← hWd]; exact HV.out.drew
  clear hWd
  refine wp_region_sched' (G := Grows) (by kernel_rfl) Grows.refl Grows.trans (by kernel_rfl) [(0, true), (1, true), (2, true), (3, true), (4, true), (5, true), (6, true), (7, true), (8, true), (9, true), (10, true), (11, true), (12, true), (13, true), (14, true), (15, true), (16, true), (17, true), (18, false), (19, true), (20, true), (21, true), (22, true), (23, true), (24, true), (25, true), (26, true), (27, true), (28, true), (30, true), (29, false), (31, true), (32, true), (33, true)] rfl (by kernel_rfl) ?_
  intro KK hKK
  rw [HWd.out]
  clear HWd
  refine sched_take rfl (by rfl) (v := .agg ((leB 32 x).map bv).toArray) (fun w' hw' => exec_load_row 23 _ rfl (g3) rfl 23 _ (0, 0) _ ((HV.out.later hw').cell (g3, 23, (leB 32 x).map bv) (by simp)) Tryd.underlying23 rfl (hI.out _ (leB_length _ _))) ?_
  go_simp
  refine sched_take rfl (by rfl) (v := .agg ((leB 32 y).map bv).toArray) (fun w' hw' => exec_load_row 23 _ rfl (g4) rfl 23 _ (0, 0) _ ((HV.out.later hw').cell (g4, 23, (leB 32 y).map bv) (by simp)) Tryd.underlying23 rfl (hI.out _ (leB_length _ _))) ?_
  go_simp
  refine sched_take rfl (by rfl) (v := ?_) ?_ ?_; rotate_left; (intro w' hw'; clear hw'; have q1 := keys_held w' x y true hxl hyl (decide_eq_true HXY.out).symm; go_simp; with_reducible rfl); go_simp
  iterate 13 (refine sched_take rfl (by rfl) (v := ?_) ?_ ?_; rotate_left; (intro w' hw'; clear hw'; go_simp; with_reducible rfl); go_simp)
  refine sched_take rfl (by rfl) (v := .agg ((leB 32 a).map bv).toArray) (fun w' hw' => exec_load_row 23 _ rfl (g1) rfl 23 _ (0, 0) _ ((HV.out.later hw').cell (g1, 23, (leB 32 a).map bv) (by simp)) Tryd.underlying23 rfl (hI.out _ (leB_length _ _))) ?_
  go_simp
  refine sched_take rfl (by rfl) (v := .agg (sixL.map bv).toArray) (fun w' hw' => by clear hw'; go_simp; rfl) ?_
  go_simp
  refine sched_call (f := 15) (args := #[.agg (sixL.map bv).toArray]) rfl (by rfl) (by go_simp) ?_
  refine (public_told sixL W6 rfl (HTab.out.later HV.out.bel)).mono ?_
  rintro e V7 ⟨rfl, hb⟩
  refine ⟨_, rfl, hb, ?_⟩
  obtain ⟨s, hn⟩ : ∃ n, pubN sixL = n := ⟨_, rfl⟩
  have HNs : Hid (pubN sixL = s) := hn
  have hsl : s < P255 := by rw [← hn]; exact pubN_lt _
  rw [hn]
  replace HV := hidup (HV.out.later hb)
  clear hb hn
  go_simp
  refine sched_take rfl (by rfl) (v := ?_) ?_ ?_; rotate_left; (intro w' hw'; clear hw'; have q1 := keys_held w' a s true hal hsl (decide_eq_true (by rw [← HNa.out, ← HNs.out]; exact pub_six.symm)).symm; go_simp; with_reducible rfl); go_simp
  iterate 2 (refine sched_take rfl (by rfl) (v := ?_) ?_ ?_; rotate_left; (intro w' hw'; clear hw'; go_simp; with_reducible rfl); go_simp)
  refine sched_take rfl (by rfl) (v := .agg ((leB 32 a).map bv).toArray) (fun w' hw' => exec_load_row 23 _ rfl (g1) rfl 23 _ (0, 0) _ ((HV.out.later hw').cell (g1, 23, (leB 32 a).map bv) (by simp)) Tryd.underlying23 rfl (hI.out _ (leB_length _ _))) ?_
  go_simp
  refine sched_take rfl (by rfl) (v := .agg ((leB 32 b).map bv).toArray) (fun w' hw' => exec_load_row 23 _ rfl (g2) rfl 23 _ (0, 0) _ ((HV.out.later hw').cell (g2, 23, (leB 32 b).map bv) (by simp)) Tryd.underlying23 rfl (hI.out _ (leB_length _ _))) ?_
  go_simp
  refine sched_take rfl (by rfl) (v := ?_) ?_ ?_; rotate_left; (intro w' hw'; clear hw'; have q1 := keys_held w' a b false hal hbl (decide_eq_false (by rw [← HNa.out, ← HNb.out]; exact pub_apart)).symm; go_simp; with_reducible rfl); go_simp
  iterate 2 (refine sched_take rfl (by rfl) (v := ?_) ?_ ?_; rotate_left; (intro w' hw'; clear hw'; go_simp; with_reducible rfl); go_simp)
  refine sched_take rfl (by rfl) (v := .agg (oneL.map bv).toArray) (fun w' hw' => by clear hw'; go_simp; rfl) ?_
  go_simp
  refine sched_take rfl (by rfl) (v := .agg (nineL.map bv).toArray) (fun w' hw' => by clear hw'; go_simp; rfl) ?_
  go_simp
  refine sched_take rfl (by rfl) (v := .agg ((leB 32 a).map bv).toArray) (fun w' hw' => exec_load_row 23 _ rfl (g1) rfl 23 _ (0, 0) _ ((HV.out.later hw').cell (g1, 23, (leB 32 a).map bv) (by simp)) Tryd.underlying23 rfl (hI.out _ (leB_length _ _))) ?_
  go_simp
  refine sched_call (f := 12) (args := #[.agg (oneL.map bv).toArray, .agg (nineL.map bv).toArray]) rfl (by rfl) (by go_simp) ?_
  refine (mult_any oneL nineL V7 rfl rfl (HTab.out.later HV.out.bel)).mono ?_
  rintro e V8 ⟨rfl, hb⟩
  refine ⟨_, rfl, hb, ?_⟩
  obtain ⟨t, hn⟩ : ∃ n, mK oneL nineL = n := ⟨_, rfl⟩
  have HNt : Hid (mK oneL nineL = t) := hn
  have htl : t < P255 := by rw [← hn]; exact mK_lt _ _
  rw [hn]
  replace HV := hidup (HV.out.later hb)
  clear hb hn
  go_simp
  refine sched_take rfl (by rfl) (v := ?_) ?_ ?_; rotate_left; (intro w' hw'; clear hw'; have q1 := keys_held w' t a true htl hal (decide_eq_true (by rw [← HNa.out, ← HNt.out]; exact mult_nine)).symm; go_simp; with_reducible rfl); go_simp
  iterate 2 (refine sched_take rfl (by rfl) (v := ?_) ?_ ?_; rotate_left; (intro w' hw'; clear hw'; go_simp; with_reducible rfl); go_simp)
  refine sched_done hKK ?_
  clear hKK
  (try go_wp2)
  go_ret
  exact ⟨rfl, HV.out.bel⟩
end Go.Proofs.YtmdoojfcgbokjaaDoor
