/- CurvePublic. For every key, without a condition. -/
import Derived.Test.YtmdoojfcgbokjaaDoorCurShown
import Derived.Test.YtmdoojfcgbokjaaDoorRefCq
namespace Go.Proofs.YtmdoojfcgbokjaaDoor.curvePublic
open Go.ChangeShapes Go.WideShapes Go.ChangeAt Go.RowKit
set_option linter.unusedVariables false

set_option maxHeartbeats 8000000 in
set_option maxRecDepth 100000 in
theorem walk (l0 : List UInt8) (w : World) (w0 : l0.length = 32) (htab : FTab w) :
    Calls Tryd.prog 4 #[.agg (l0.map bv).toArray] w fun e w' => e = .returned (.bool true) ∧ Below w.heap.size w w' := by
  have HTab : Hid (FTab w) := htab
  have hI : Hid (∀ l : List UInt8, l.length = 32 → (Tryd.prog.info? 23).map (·.size) = some (l.map bv).toArray.size) := fun l hl => info_size (n := 32) (by kernel_rfl) l hl
  have HV0 : Hid (Vw w (w.alloc (.cells (l0.map bv).toArray 23)) [(w.heap.size, 23, l0.map bv)]) := by
    have h := ((Vw.none w).alloc 23 (l0.map bv))
    (try simp only [World.size_alloc] at h)
    exact h
  clear htab
  go_enter Tryd.func4, Tryd.ntmps4
  go_wp2_with fail
  refine (cshown_any _ (HTab.out.later HV0.out.bel)).mono ?_
  rintro e V0 ⟨rfl, hb⟩
  have HV : Hid (Vw w V0 [(w.heap.size, 23, l0.map bv)]) := HV0.out.later hb
  clear hb HV0
  go_wp2_with (first | (refine wpList_load_met (by rfl) 23 _ rfl (w.heap.size) rfl 23 (l0.map bv).toArray (0, 0) _ ?_ Tryd.underlying23 rfl (hI.out _ w0) ?_; exact HV.out.cell (w.heap.size, 23, l0.map bv) (by simp)) | fail)
  refine (public_told l0 V0 w0 (HTab.out.later HV.out.bel)).mono ?_
  rintro e V1 ⟨rfl, hb⟩
  obtain ⟨p, hn⟩ : ∃ n, pubN l0 = n := ⟨_, rfl⟩
  have HNp : Hid (pubN l0 = p) := hn
  have hpl : p < P255 := by rw [← hn]; exact pubN_lt _
  rw [hn]
  have hlenp := leB_length 32 p
  have hst := run_store_arr V1 23 (leB 32 p) 32 (leB_length _ _) (by kernel_rfl) zero32C (by kernel_rfl)
  simp only [zero32C, List.replicate] at hst
  have hV := (HV.out.later hb).alloc 23 ((leB 32 p).map bv)
  obtain ⟨X1, hX⟩ : ∃ X, V1.alloc (.cells ((leB 32 p).map bv).toArray 23) = X := ⟨_, rfl⟩
  rw [hX] at hst hV
  replace HV : Hid (Vw w X1 [(w.heap.size, 23, l0.map bv), (V1.heap.size, 23, (leB 32 p).map bv)]) := hV
  clear hb hV hX hn
  go_wp2_with (first | (refine wpList_load_met (by rfl) 23 _ rfl (w.heap.size) rfl 23 (l0.map bv).toArray (0, 0) _ ?_ Tryd.underlying23 rfl (hI.out _ w0) ?_; exact HV.out.cell (w.heap.size, 23, l0.map bv) (by simp)) | (refine wpList_load_met (by rfl) 23 _ rfl (V1.heap.size) rfl 23 ((leB 32 p).map bv).toArray (0, 0) _ ?_ Tryd.underlying23 rfl (hI.out _ (leB_length _ _)) ?_; exact HV.out.cell (V1.heap.size, 23, (leB 32 p).map bv) (by simp)) | fail)
  clear hst
  generalize V1.heap.size = g1 at *
  obtain ⟨W2, hWd⟩ : ∃ W, X1.drew = W := ⟨_, rfl⟩
  have HWd : Hid (X1.drew = W2) := hWd
  replace HV : Hid (Vw w W2 [(w.heap.size, 23, l0.map bv), (g1, 23, (leB 32 p).map bv)]) := by rw [← hWd]; exact HV.out.drew
  clear hWd
  refine wp_region_sched' (G := Grows) (by kernel_rfl) Grows.refl Grows.trans (by kernel_rfl) [(0, true), (1, true), (2, true), (3, true), (4, true), (5, false), (6, true), (7, true), (8, true), (9, true)] rfl (by kernel_rfl) ?_
  intro KK hKK
  rw [HWd.out]
  clear HWd
  iterate 2 (refine sched_take rfl (by rfl) (v := ?_) ?_ ?_; rotate_left; (intro w' hw'; clear hw'; go_simp; with_reducible rfl); go_simp)
  iterate 1 (refine sched_take rfl (by rfl) (v := ?_) ?_ ?_; rotate_left; (intro w' hw'; clear hw'; go_simp; with_reducible rfl); go_simp)
  refine sched_take rfl (by rfl) (v := ?_) ?_ ?_; rotate_left; (intro w' hw'; have hc : Arr w' (g1) 23 (leB 32 p) := (HV.out.later hw').cell (g1, 23, (leB 32 p).map bv) (by simp); have hcv := conv_bytes w' (some ⟨g1, 0, none⟩) 32 32 (leB 32 p) (hc.byt 32 (leB_length _ _)); clear hw' hc; go_simp; with_reducible rfl); go_simp
  iterate 1 (refine sched_take rfl (by rfl) (v := ?_) ?_ ?_; rotate_left; (intro w' hw'; clear hw'; go_simp; with_reducible rfl); go_simp)
  refine sched_call (f := 16) (args := #[.slice (some ⟨w.heap.size, 0, none⟩) 32 32]) rfl (by rfl) (by go_simp) ?_
  refine (refPublic_any (some ⟨w.heap.size, 0, none⟩) 32 l0 W2 ((show Arr W2 w.heap.size 23 l0 from HV.out.cell (w.heap.size, 23, l0.map bv) (by simp)).byt 32 w0)).mono ?_
  rintro e V3 ⟨gb3, rfl, hb, hby⟩
  refine ⟨_, rfl, hb, ?_⟩
  replace HV := hidup (HV.out.later hb)
  have HBy : Hid (Byt V3 (some ⟨gb3, 0, none⟩) 32 (leB 32 p)) := by have h := hby; rw [show mX (clampK (leN l0)) 9 = p from HNp.out] at h; exact h
  clear hb hby
  go_simp
  refine sched_take rfl (by rfl) (v := ?_) ?_ ?_; rotate_left; (intro w' hw'; have hcv := conv_bytes w' (some ⟨gb3, 0, none⟩) 32 32 (leB 32 p) (HBy.out.later hw'); clear hw'; go_simp; with_reducible rfl); go_simp
  iterate 3 (refine sched_take rfl (by rfl) (v := ?_) ?_ ?_; rotate_left; (intro w' hw'; clear hw'; go_simp; with_reducible rfl); go_simp)
  refine sched_done hKK ?_
  clear hKK
  (try go_wp2)
  go_ret
  exact ⟨rfl, HV.out.bel⟩
end Go.Proofs.YtmdoojfcgbokjaaDoor.curvePublic
