/- CurveTells. For every 2 keys, without a condition. -/
import Derived.Test.YtmdoojfcgbokjaaDoorCurShown
import Derived.Test.YtmdoojfcgbokjaaDoorRefCq
namespace Go.Proofs.YtmdoojfcgbokjaaDoor.curveTells
open Go.ChangeShapes Go.WideShapes Go.ChangeAt Go.RowKit
set_option linter.unusedVariables false

set_option maxHeartbeats 8000000 in
set_option maxRecDepth 100000 in
theorem walk (l0 l1 : List UInt8) (w : World) (w0 : l0.length = 32) (w1 : l1.length = 32) (htab : FTab w) :
    Calls Tryd.prog 3 #[.agg (l0.map bv).toArray, .agg (l1.map bv).toArray] w fun e w' => e = .returned (.bool true) ∧ Below w.heap.size w w' := by
  have HTab : Hid (FTab w) := htab
  have hI : Hid (∀ l : List UInt8, l.length = 32 → (Tryd.prog.info? 23).map (·.size) = some (l.map bv).toArray.size) := fun l hl => info_size (n := 32) (by kernel_rfl) l hl
  have HV0 : Hid (Vw w ((w.alloc (.cells (l0.map bv).toArray 23)).alloc (.cells (l1.map bv).toArray 23)) [(w.heap.size, 23, l0.map bv), (w.heap.size + 1, 23, l1.map bv)]) := by
    have h := (((Vw.none w).alloc 23 (l0.map bv)).alloc 23 (l1.map bv))
    (try simp only [World.size_alloc] at h)
    exact h
  clear htab
  go_enter Tryd.func3, Tryd.ntmps3
  go_wp2_with fail
  refine (cshown_any _ (HTab.out.later HV0.out.bel)).mono ?_
  rintro e V0 ⟨rfl, hb⟩
  have HV : Hid (Vw w V0 [(w.heap.size, 23, l0.map bv), (w.heap.size + 1, 23, l1.map bv)]) := HV0.out.later hb
  clear hb HV0
  go_wp2_with (first | (refine wpList_load_met (by rfl) 23 _ rfl (w.heap.size) rfl 23 (l0.map bv).toArray (0, 0) _ ?_ Tryd.underlying23 rfl (hI.out _ w0) ?_; exact HV.out.cell (w.heap.size, 23, l0.map bv) (by simp)) | (refine wpList_load_met (by rfl) 23 _ rfl (w.heap.size + 1) rfl 23 (l1.map bv).toArray (0, 0) _ ?_ Tryd.underlying23 rfl (hI.out _ w1) ?_; exact HV.out.cell (w.heap.size + 1, 23, l1.map bv) (by simp)) | fail)
  refine (mult_any l0 l1 V0 w0 w1 (HTab.out.later HV.out.bel)).mono ?_
  rintro e V1 ⟨rfl, hb⟩
  obtain ⟨x, hn⟩ : ∃ n, mK l0 l1 = n := ⟨_, rfl⟩
  have HNx : Hid (mK l0 l1 = x) := hn
  have hxl : x < P255 := by rw [← hn]; exact mK_lt _ _
  rw [hn]
  have hlenx := leB_length 32 x
  have hst := run_store_arr V1 23 (leB 32 x) 32 (leB_length _ _) (by kernel_rfl) zero32C (by kernel_rfl)
  simp only [zero32C, List.replicate] at hst
  have hV := (HV.out.later hb).alloc 23 ((leB 32 x).map bv)
  obtain ⟨X1, hX⟩ : ∃ X, V1.alloc (.cells ((leB 32 x).map bv).toArray 23) = X := ⟨_, rfl⟩
  rw [hX] at hst hV
  replace HV : Hid (Vw w X1 [(w.heap.size, 23, l0.map bv), (w.heap.size + 1, 23, l1.map bv), (V1.heap.size, 23, (leB 32 x).map bv)]) := hV
  clear hb hV hX hn
  go_wp2_with (first | (refine wpList_load_met (by rfl) 23 _ rfl (w.heap.size) rfl 23 (l0.map bv).toArray (0, 0) _ ?_ Tryd.underlying23 rfl (hI.out _ w0) ?_; exact HV.out.cell (w.heap.size, 23, l0.map bv) (by simp)) | (refine wpList_load_met (by rfl) 23 _ rfl (w.heap.size + 1) rfl 23 (l1.map bv).toArray (0, 0) _ ?_ Tryd.underlying23 rfl (hI.out _ w1) ?_; exact HV.out.cell (w.heap.size + 1, 23, l1.map bv) (by simp)) | (refine wpList_load_met (by rfl) 23 _ rfl (V1.heap.size) rfl 23 ((leB 32 x).map bv).toArray (0, 0) _ ?_ Tryd.underlying23 rfl (hI.out _ (leB_length _ _)) ?_; exact HV.out.cell (V1.heap.size, 23, (leB 32 x).map bv) (by simp)) | fail)
  clear hst
  generalize V1.heap.size = g1 at *
  refine (shared_any l0 l1 X1 w0 w1 (HTab.out.later HV.out.bel)).mono ?_
  rintro e V2 ⟨rfl, hb⟩
  obtain ⟨s, hn⟩ : ∃ n, mK l0 l1 = n := ⟨_, rfl⟩
  have HNs : Hid (mK l0 l1 = s) := hn
  have hsl : s < P255 := by rw [← hn]; exact mK_lt _ _
  rw [hn]
  obtain ⟨er, her⟩ : ∃ er : Int, (if s = 0 then (4 : Int) else 0) = er := ⟨_, rfl⟩
  have HEr : Hid ((if s = 0 then (4 : Int) else 0) = er) := her
  rw [her]
  clear her
  have hlens := leB_length 32 s
  have hst := run_store_arr V2 23 (leB 32 s) 32 (leB_length _ _) (by kernel_rfl) zero32C (by kernel_rfl)
  simp only [zero32C, List.replicate] at hst
  have hV := (HV.out.later hb).alloc 23 ((leB 32 s).map bv)
  obtain ⟨X2, hX⟩ : ∃ X, V2.alloc (.cells ((leB 32 s).map bv).toArray 23) = X := ⟨_, rfl⟩
  rw [hX] at hst hV
  replace HV : Hid (Vw w X2 [(w.heap.size, 23, l0.map bv), (w.heap.size + 1, 23, l1.map bv), (g1, 23, (leB 32 x).map bv), (V2.heap.size, 23, (leB 32 s).map bv)]) := hV
  clear hb hV hX hn
  have HSX : Hid (s = x) := by show _ = _; rw [← HNs.out, ← HNx.out]
  obtain ⟨zr, hzr⟩ : ∃ zr, decide (x = 0) = zr := ⟨_, rfl⟩
  have qz := fun W' : World => held_zero W' x zr hxl hzr.symm
  have HZr : Hid (decide (x = 0) = zr) := hzr
  have h4 : ((er == 4) = zr) := by
    rw [← HEr.out, ← hzr, HSX.out]
    by_cases h0 : x = 0
    · rw [if_pos h0, decide_eq_true h0]; rfl
    · rw [if_neg h0, decide_eq_false h0]; rfl
  have h5 : ((er == 0) = !zr) := by
    rw [← HEr.out, ← hzr, HSX.out]
    by_cases h0 : x = 0
    · rw [if_pos h0, decide_eq_true h0]; rfl
    · rw [if_neg h0, decide_eq_false h0]; rfl
  clear hzr
  go_wp2_with (first | (refine wpList_load_met (by rfl) 23 _ rfl (w.heap.size) rfl 23 (l0.map bv).toArray (0, 0) _ ?_ Tryd.underlying23 rfl (hI.out _ w0) ?_; exact HV.out.cell (w.heap.size, 23, l0.map bv) (by simp)) | (refine wpList_load_met (by rfl) 23 _ rfl (w.heap.size + 1) rfl 23 (l1.map bv).toArray (0, 0) _ ?_ Tryd.underlying23 rfl (hI.out _ w1) ?_; exact HV.out.cell (w.heap.size + 1, 23, l1.map bv) (by simp)) | (refine wpList_load_met (by rfl) 23 _ rfl (g1) rfl 23 ((leB 32 x).map bv).toArray (0, 0) _ ?_ Tryd.underlying23 rfl (hI.out _ (leB_length _ _)) ?_; exact HV.out.cell (g1, 23, (leB 32 x).map bv) (by simp)) | (refine wpList_load_met (by rfl) 23 _ rfl (V2.heap.size) rfl 23 ((leB 32 s).map bv).toArray (0, 0) _ ?_ Tryd.underlying23 rfl (hI.out _ (leB_length _ _)) ?_; exact HV.out.cell (V2.heap.size, 23, (leB 32 s).map bv) (by simp)) | fail)
  clear hst
  generalize V2.heap.size = g2 at *
  obtain ⟨W3, hWd⟩ : ∃ W, X2.drew = W := ⟨_, rfl⟩
  have HWd : Hid (X2.drew = W3) := hWd
  replace HV : Hid (Vw w W3 [(w.heap.size, 23, l0.map bv), (w.heap.size + 1, 23, l1.map bv), (g1, 23, (leB 32 x).map bv), (g2, 23, (leB 32 s).map bv)]) := by rw [← hWd]; exact HV.out.drew
  clear hWd
  refine wp_region_sched' (G := Grows) (by kernel_rfl) Grows.refl Grows.trans (by kernel_rfl) [(0, true), (1, true), (2, true), (3, true), (4, true), (5, true), (6, false), (7, true), (8, true), (9, true), (10, true), (11, true), (12, true), (13, true), (14, true), (15, true), (16, true), (17, true), (18, true), (19, true), (20, true), (21, true), (22, true), (23, true), (24, true), (25, true), (26, true), (27, true), (28, true)] rfl (by kernel_rfl) ?_
  intro KK hKK
  rw [HWd.out]
  clear HWd
  iterate 2 (refine sched_take rfl (by rfl) (v := ?_) ?_ ?_; rotate_left; (intro w' hw'; clear hw'; go_simp; with_reducible rfl); go_simp)
  iterate 1 (refine sched_take rfl (by rfl) (v := ?_) ?_ ?_; rotate_left; (intro w' hw'; clear hw'; go_simp; with_reducible rfl); go_simp)
  refine sched_take rfl (by rfl) (v := ?_) ?_ ?_; rotate_left; (intro w' hw'; have hc : Arr w' (g1) 23 (leB 32 x) := (HV.out.later hw').cell (g1, 23, (leB 32 x).map bv) (by simp); have hcv := conv_bytes w' (some ⟨g1, 0, none⟩) 32 32 (leB 32 x) (hc.byt 32 (leB_length _ _)); clear hw' hc; go_simp; with_reducible rfl); go_simp
  iterate 1 (refine sched_take rfl (by rfl) (v := ?_) ?_ ?_; rotate_left; (intro w' hw'; clear hw'; go_simp; with_reducible rfl); go_simp)
  iterate 1 (refine sched_take rfl (by rfl) (v := ?_) ?_ ?_; rotate_left; (intro w' hw'; clear hw'; go_simp; with_reducible rfl); go_simp)
  refine sched_call (f := 14) (args := #[.slice (some ⟨w.heap.size, 0, none⟩) 32 32, .slice (some ⟨w.heap.size + 1, 0, none⟩) 32 32]) rfl (by rfl) (by go_simp) ?_
  refine (refMult_told (some ⟨w.heap.size, 0, none⟩) 32 l0 (some ⟨w.heap.size + 1, 0, none⟩) 32 l1 W3 ((show Arr W3 w.heap.size 23 l0 from HV.out.cell (w.heap.size, 23, l0.map bv) (by simp)).byt 32 w0) ((show Arr W3 (w.heap.size + 1) 23 l1 from HV.out.cell (w.heap.size + 1, 23, l1.map bv) (by simp)).byt 32 w1)).mono ?_
  rintro e V4 ⟨gb4, rfl, hb, hby⟩
  refine ⟨_, rfl, hb, ?_⟩
  replace HV := hidup (HV.out.later hb)
  have HBy : Hid (Byt V4 (some ⟨gb4, 0, none⟩) 32 (leB 32 x)) := by have h := hby; rw [HNx.out] at h; exact h
  clear hb hby
  go_simp
  refine sched_take rfl (by rfl) (v := ?_) ?_ ?_; rotate_left; (intro w' hw'; have hcv := conv_bytes w' (some ⟨gb4, 0, none⟩) 32 32 (leB 32 x) (HBy.out.later hw'); clear hw'; go_simp; with_reducible rfl); go_simp
  iterate 3 (refine sched_take rfl (by rfl) (v := ?_) ?_ ?_; rotate_left; (intro w' hw'; clear hw'; go_simp; with_reducible rfl); go_simp)
  refine sched_take rfl (by rfl) (v := .agg ((leB 32 s).map bv).toArray) (fun w' hw' => exec_load_row 23 _ rfl (g2) rfl 23 _ (0, 0) _ ((HV.out.later hw').cell (g2, 23, (leB 32 s).map bv) (by simp)) Tryd.underlying23 rfl (hI.out _ (leB_length _ _))) ?_
  go_simp
  refine sched_take rfl (by rfl) (v := .agg ((leB 32 x).map bv).toArray) (fun w' hw' => exec_load_row 23 _ rfl (g1) rfl 23 _ (0, 0) _ ((HV.out.later hw').cell (g1, 23, (leB 32 x).map bv) (by simp)) Tryd.underlying23 rfl (hI.out _ (leB_length _ _))) ?_
  go_simp
  refine sched_take rfl (by rfl) (v := ?_) ?_ ?_; rotate_left; (intro w' hw'; clear hw'; have q1 := keys_held w' s x true hsl hxl (decide_eq_true HSX.out).symm; go_simp; with_reducible rfl); go_simp
  iterate 15 (refine sched_take rfl (by rfl) (v := ?_) ?_ ?_; rotate_left; (intro w' hw'; clear hw'; go_simp; with_reducible rfl); go_simp)
  refine sched_done hKK ?_
  clear hKK
  (try go_wp2)
  go_ret
  exact ⟨rfl, HV.out.bel⟩
end Go.Proofs.YtmdoojfcgbokjaaDoor.curveTells
