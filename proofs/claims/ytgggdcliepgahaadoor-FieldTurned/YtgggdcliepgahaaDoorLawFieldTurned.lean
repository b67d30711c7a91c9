/- FieldTurned. For every 2 keys, without a condition. -/
import Derived.Test.YtgggdcliepgahaaDoorFieldShown
namespace Go.Proofs.YtgggdcliepgahaaDoor.fieldTurned
open Go.ChangeShapes Go.WideShapes Go.ChangeAt Go.RowKit
set_option linter.unusedVariables false

set_option maxHeartbeats 8000000 in
set_option maxRecDepth 100000 in
theorem walk (l0 l1 : List UInt8) (w : World) (w0 : l0.length = 32) (w1 : l1.length = 32) (htab : FTab w) :
    Calls Tryd.prog 8 #[.agg (l0.map bv).toArray, .agg (l1.map bv).toArray] w fun e w' => e = .returned (.bool true) ∧ Below w.heap.size w w' := by
  have HTab : Hid (FTab w) := htab
  clear htab
  have hIK0 : Hid ((Tryd.prog.info? 23).map (·.size) = some (l0.map bv).toArray.size) := info_size (n := 32) (by kernel_rfl) l0 w0
  have hIK1 : Hid ((Tryd.prog.info? 23).map (·.size) = some (l1.map bv).toArray.size) := info_size (n := 32) (by kernel_rfl) l1 w1
  go_enter Tryd.func8, Tryd.ntmps8
  go_wp2_with fail
  refine (fshown_any _).mono ?_
  rintro e V0 ⟨rfl, hb⟩
  obtain ⟨hk0, hk1, hbw⟩ := keys2 w l0 l1
  have HK0 : Hid (Arr V0 w.heap.size 23 l0) := hk0.later hb
  have HK1 : Hid (Arr V0 (w.heap.size + 1) 23 l1) := hk1.later hb
  have HW : Hid (Below w.heap.size w V0) := hbw.trans (hb.mono hbw.size)
  clear hb hbw hk0 hk1
  go_wp2_with (first | refine wpList_load_row rfl 23 _ rfl w.heap.size rfl 23 _ (0, 0) _ HK0.out Tryd.underlying23 rfl hIK0.out ?_ | refine wpList_load_row rfl 23 _ rfl (w.heap.size + 1) rfl 23 _ (0, 0) _ HK1.out Tryd.underlying23 rfl hIK1.out ?_ | fail)
  refine (ffrom_any l0 _ w0).mono ?_
  rintro e V1 ⟨c1, rfl, he, hb⟩
  obtain ⟨x, hn⟩ : ∃ n, leN l0 % 2 ^ 255 % P255 = n := ⟨_, rfl⟩
  rw [hn] at he
  have HE1 : Hid (Elm c1 x) := he
  have HF1 : Hid (FC x (x : Int)) := FC.self he.lt
  have hlen1 := he.len
  have hst := elm_store V1 he
  have hC := Cel.new V1 c1
  obtain ⟨W1, hW⟩ : ∃ W, V1.alloc (.cells c1.toArray 28) = W := ⟨_, rfl⟩
  rw [hW] at hst hC
  have hbW : Below V0.heap.size V0 W1 := by rw [← hW]; exact hb.alloc hb.size _
  replace HK0 := hidup (HK0.out.later hbW)
  replace HK1 := hidup (HK1.out.later hbW)
  replace HW := hidup (HW.out.trans (hbW.mono HW.out.size))
  have HC1 : Hid (Cel W1 V1.heap.size c1) := hC
  clear he hb hbW hC hW hn
  go_wp2_with (first | refine wpList_load_row rfl 23 _ rfl w.heap.size rfl 23 _ (0, 0) _ HK0.out Tryd.underlying23 rfl hIK0.out ?_ | refine wpList_load_row rfl 23 _ rfl (w.heap.size + 1) rfl 23 _ (0, 0) _ HK1.out Tryd.underlying23 rfl hIK1.out ?_ | refine wpList_load_row rfl 28 _ rfl V1.heap.size rfl 28 _ (0, 0) _ HC1.out Tryd.underlying28 rfl (elm_info HE1.out) ?_ | fail)
  clear hst
  generalize V1.heap.size = g1 at HC1 ⊢
  refine (ffrom_any l1 _ w1).mono ?_
  rintro e V2 ⟨c2, rfl, he, hb⟩
  obtain ⟨y, hn⟩ : ∃ n, leN l1 % 2 ^ 255 % P255 = n := ⟨_, rfl⟩
  rw [hn] at he
  have HE2 : Hid (Elm c2 y) := he
  have HF2 : Hid (FC y (y : Int)) := FC.self he.lt
  have hlen2 := he.len
  have hst := elm_store V2 he
  have hC := Cel.new V2 c2
  obtain ⟨W2, hW⟩ : ∃ W, V2.alloc (.cells c2.toArray 28) = W := ⟨_, rfl⟩
  rw [hW] at hst hC
  have hbW : Below W1.heap.size W1 W2 := by rw [← hW]; exact hb.alloc hb.size _
  replace HK0 := hidup (HK0.out.later hbW)
  replace HK1 := hidup (HK1.out.later hbW)
  replace HC1 := hidup (HC1.out.later hbW)
  replace HW := hidup (HW.out.trans (hbW.mono HW.out.size))
  have HC2 : Hid (Cel W2 V2.heap.size c2) := hC
  clear he hb hbW hC hW hn
  go_wp2_with (first | refine wpList_load_row rfl 23 _ rfl w.heap.size rfl 23 _ (0, 0) _ HK0.out Tryd.underlying23 rfl hIK0.out ?_ | refine wpList_load_row rfl 23 _ rfl (w.heap.size + 1) rfl 23 _ (0, 0) _ HK1.out Tryd.underlying23 rfl hIK1.out ?_ | refine wpList_load_row rfl 28 _ rfl g1 rfl 28 _ (0, 0) _ HC1.out Tryd.underlying28 rfl (elm_info HE1.out) ?_ | refine wpList_load_row rfl 28 _ rfl V2.heap.size rfl 28 _ (0, 0) _ HC2.out Tryd.underlying28 rfl (elm_info HE2.out) ?_ | fail)
  clear hst
  generalize V2.heap.size = g2 at HC2 ⊢
  refine (fsmall_any 0 _ (by omega)).mono ?_
  rintro e V3 ⟨c3, rfl, he, hb⟩
  obtain ⟨z, hn⟩ : ∃ n, 0 = n := ⟨_, rfl⟩
  rw [hn] at he
  have HE3 : Hid (Elm c3 z) := he
  have HF3 : Hid (FC z (0 : Int)) := by have h := FC.self he.lt; rw [← hn] at h ⊢; exact h
  have hlen3 := he.len
  have hst := elm_store V3 he
  have hC := Cel.new V3 c3
  obtain ⟨W3, hW⟩ : ∃ W, V3.alloc (.cells c3.toArray 28) = W := ⟨_, rfl⟩
  rw [hW] at hst hC
  have hbW : Below W2.heap.size W2 W3 := by rw [← hW]; exact hb.alloc hb.size _
  replace HK0 := hidup (HK0.out.later hbW)
  replace HK1 := hidup (HK1.out.later hbW)
  replace HC1 := hidup (HC1.out.later hbW)
  replace HC2 := hidup (HC2.out.later hbW)
  replace HW := hidup (HW.out.trans (hbW.mono HW.out.size))
  have HC3 : Hid (Cel W3 V3.heap.size c3) := hC
  clear he hb hbW hC hW hn
  go_wp2
  clear hst
  generalize V3.heap.size = g3 at HC3 ⊢
  obtain ⟨W4, hWd⟩ : ∃ W, W3.drew = W := ⟨_, rfl⟩
  have HWd : Hid (W3.drew = W4) := hWd
  have hdr : Below W3.heap.size W3 W4 := by rw [← hWd]; exact (Below.refl _ _).drew
  replace HK0 := hidup (HK0.out.later hdr)
  replace HK1 := hidup (HK1.out.later hdr)
  replace HC1 := hidup (HC1.out.later hdr)
  replace HC2 := hidup (HC2.out.later hdr)
  replace HC3 := hidup (HC3.out.later hdr)
  replace HW := hidup (HW.out.trans (hdr.mono HW.out.size))
  clear hdr hWd
  refine wp_region_sched' (G := Grows) (by kernel_rfl) Grows.refl Grows.trans (by kernel_rfl) [(0, true), (1, true), (2, true), (3, true), (6, true), (7, true), (8, true), (4, false), (5, false), (9, false), (10, false), (11, false), (12, true), (13, true), (14, true), (15, true), (16, true), (18, true), (21, true), (17, false), (19, false), (20, false), (22, false), (23, true), (24, true), (25, true), (26, true), (27, true), (28, true), (32, true), (29, false), (30, false), (31, false), (33, false), (34, true), (35, true), (36, true)] rfl (by kernel_rfl) ?_
  intro KK5 hKK5
  rw [HWd.out]
  iterate 2 (refine sched_take rfl (by rfl) (v := ?_) ?_ ?_; rotate_left; (intro w' hw'; clear hw'; go_simp; with_reducible rfl); go_simp)
  refine sched_take rfl (by rfl) (v := .agg c1.toArray) (fun w' hw' => exec_load_row 28 _ rfl g1 rfl 28 _ (0, 0) _ (HC1.out.later hw') Tryd.underlying28 rfl (elm_info HE1.out)) ?_
  go_simp
  refine sched_take rfl (by rfl) (v := .agg c2.toArray) (fun w' hw' => exec_load_row 28 _ rfl g2 rfl 28 _ (0, 0) _ (HC2.out.later hw') Tryd.underlying28 rfl (elm_info HE2.out)) ?_
  go_simp
  refine sched_take rfl (by rfl) (v := .agg c3.toArray) (fun w' hw' => exec_load_row 28 _ rfl g3 rfl 28 _ (0, 0) _ (HC3.out.later hw') Tryd.underlying28 rfl (elm_info HE3.out)) ?_
  go_simp
  refine sched_take rfl (by rfl) (v := .agg c2.toArray) (fun w' hw' => exec_load_row 28 _ rfl g2 rfl 28 _ (0, 0) _ (HC2.out.later hw') Tryd.underlying28 rfl (elm_info HE2.out)) ?_
  go_simp
  refine sched_take rfl (by rfl) (v := .agg c1.toArray) (fun w' hw' => exec_load_row 28 _ rfl g1 rfl 28 _ (0, 0) _ (HC1.out.later hw') Tryd.underlying28 rfl (elm_info HE1.out)) ?_
  go_simp
  refine sched_call (f := 17) (args := #[.agg c1.toArray, .agg c2.toArray]) rfl (by rfl) (by go_simp) ?_
  refine (fsub_any c1 c2 x y W4 HE1.out HE2.out (HTab.out.later HW.out)).mono ?_
  rintro e V6 ⟨c6, rfl, he, hb⟩
  refine ⟨_, rfl, hb, ?_⟩
  obtain ⟨n6, hn⟩ : ∃ n, (x + (P255 - y)) % P255 = n := ⟨_, rfl⟩
  rw [hn] at he
  have HE6 : Hid (Elm c6 n6) := he
  have HF6 : Hid (FC n6 ((x : Int) - (y : Int))) := by rw [← hn]; exact HF1.out.sub HF2.out
  replace HK0 := hidup (HK0.out.later hb)
  replace HK1 := hidup (HK1.out.later hb)
  replace HC1 := hidup (HC1.out.later hb)
  replace HC2 := hidup (HC2.out.later hb)
  replace HC3 := hidup (HC3.out.later hb)
  replace HW := hidup (HW.out.trans (hb.mono HW.out.size))
  clear hb he hn
  go_simp
  refine sched_call (f := 13) (args := #[.agg c6.toArray]) rfl (by rfl) (by go_simp) ?_
  refine (fbytes_any c6 n6 V6 HE6.out).mono ?_
  rintro e V7 ⟨rfl, hb⟩
  refine ⟨_, rfl, hb, ?_⟩
  replace HK0 := hidup (HK0.out.later hb)
  replace HK1 := hidup (HK1.out.later hb)
  replace HC1 := hidup (HC1.out.later hb)
  replace HC2 := hidup (HC2.out.later hb)
  replace HC3 := hidup (HC3.out.later hb)
  replace HW := hidup (HW.out.trans (hb.mono HW.out.size))
  clear hb
  go_simp
  refine sched_call (f := 17) (args := #[.agg c2.toArray, .agg c1.toArray]) rfl (by rfl) (by go_simp) ?_
  refine (fsub_any c2 c1 y x V7 HE2.out HE1.out (HTab.out.later HW.out)).mono ?_
  rintro e V8 ⟨c8, rfl, he, hb⟩
  refine ⟨_, rfl, hb, ?_⟩
  obtain ⟨n8, hn⟩ : ∃ n, (y + (P255 - x)) % P255 = n := ⟨_, rfl⟩
  rw [hn] at he
  have HE8 : Hid (Elm c8 n8) := he
  have HF8 : Hid (FC n8 ((y : Int) - (x : Int))) := by rw [← hn]; exact HF2.out.sub HF1.out
  replace HK0 := hidup (HK0.out.later hb)
  replace HK1 := hidup (HK1.out.later hb)
  replace HC1 := hidup (HC1.out.later hb)
  replace HC2 := hidup (HC2.out.later hb)
  replace HC3 := hidup (HC3.out.later hb)
  replace HW := hidup (HW.out.trans (hb.mono HW.out.size))
  clear hb he hn
  go_simp
  refine sched_call (f := 17) (args := #[.agg c3.toArray, .agg c8.toArray]) rfl (by rfl) (by go_simp) ?_
  refine (fsub_any c3 c8 z n8 V8 HE3.out HE8.out (HTab.out.later HW.out)).mono ?_
  rintro e V9 ⟨c9, rfl, he, hb⟩
  refine ⟨_, rfl, hb, ?_⟩
  obtain ⟨n9, hn⟩ : ∃ n, (z + (P255 - n8)) % P255 = n := ⟨_, rfl⟩
  rw [hn] at he
  have HE9 : Hid (Elm c9 n9) := he
  have HF9 : Hid (FC n9 ((0 : Int) - ((y : Int) - (x : Int)))) := by rw [← hn]; exact HF3.out.sub HF8.out
  replace HK0 := hidup (HK0.out.later hb)
  replace HK1 := hidup (HK1.out.later hb)
  replace HC1 := hidup (HC1.out.later hb)
  replace HC2 := hidup (HC2.out.later hb)
  replace HC3 := hidup (HC3.out.later hb)
  replace HW := hidup (HW.out.trans (hb.mono HW.out.size))
  clear hb he hn
  go_simp
  refine sched_call (f := 13) (args := #[.agg c9.toArray]) rfl (by rfl) (by go_simp) ?_
  refine (fbytes_any c9 n9 V9 HE9.out).mono ?_
  rintro e V10 ⟨rfl, hb⟩
  refine ⟨_, rfl, hb, ?_⟩
  replace HK0 := hidup (HK0.out.later hb)
  replace HK1 := hidup (HK1.out.later hb)
  replace HC1 := hidup (HC1.out.later hb)
  replace HC2 := hidup (HC2.out.later hb)
  replace HC3 := hidup (HC3.out.later hb)
  replace HW := hidup (HW.out.trans (hb.mono HW.out.size))
  clear hb
  go_simp
  have hq11 : Hid (n6 = n9) := FC.eq HF6.out HF9.out (by grind)
  refine sched_take rfl (by rfl) (v := ?_) ?_ ?_; rotate_left; (intro w' hw'; clear hw'; have q1 := key_same w' n6 n9 hq11.out; go_simp; with_reducible rfl); go_simp
  clear hq11
  iterate 2 (refine sched_take rfl (by rfl) (v := ?_) ?_ ?_; rotate_left; (intro w' hw'; clear hw'; go_simp; with_reducible rfl); go_simp)
  refine sched_take rfl (by rfl) (v := .agg c1.toArray) (fun w' hw' => exec_load_row 28 _ rfl g1 rfl 28 _ (0, 0) _ (HC1.out.later hw') Tryd.underlying28 rfl (elm_info HE1.out)) ?_
  go_simp
  refine sched_take rfl (by rfl) (v := .agg c2.toArray) (fun w' hw' => exec_load_row 28 _ rfl g2 rfl 28 _ (0, 0) _ (HC2.out.later hw') Tryd.underlying28 rfl (elm_info HE2.out)) ?_
  go_simp
  refine sched_take rfl (by rfl) (v := .agg c2.toArray) (fun w' hw' => exec_load_row 28 _ rfl g2 rfl 28 _ (0, 0) _ (HC2.out.later hw') Tryd.underlying28 rfl (elm_info HE2.out)) ?_
  go_simp
  refine sched_take rfl (by rfl) (v := .agg c1.toArray) (fun w' hw' => exec_load_row 28 _ rfl g1 rfl 28 _ (0, 0) _ (HC1.out.later hw') Tryd.underlying28 rfl (elm_info HE1.out)) ?_
  go_simp
  refine sched_call (f := 17) (args := #[.agg c1.toArray, .agg c2.toArray]) rfl (by rfl) (by go_simp) ?_
  refine (fsub_any c1 c2 x y V10 HE1.out HE2.out (HTab.out.later HW.out)).mono ?_
  rintro e V12 ⟨c12, rfl, he, hb⟩
  refine ⟨_, rfl, hb, ?_⟩
  obtain ⟨n12, hn⟩ : ∃ n, (x + (P255 - y)) % P255 = n := ⟨_, rfl⟩
  rw [hn] at he
  have HE12 : Hid (Elm c12 n12) := he
  have HF12 : Hid (FC n12 ((x : Int) - (y : Int))) := by rw [← hn]; exact HF1.out.sub HF2.out
  replace HK0 := hidup (HK0.out.later hb)
  replace HK1 := hidup (HK1.out.later hb)
  replace HC1 := hidup (HC1.out.later hb)
  replace HC2 := hidup (HC2.out.later hb)
  replace HC3 := hidup (HC3.out.later hb)
  replace HW := hidup (HW.out.trans (hb.mono HW.out.size))
  clear hb he hn
  go_simp
  refine sched_call (f := 15) (args := #[.agg c12.toArray, .agg c2.toArray]) rfl (by rfl) (by go_simp) ?_
  refine (fadd_any c12 c2 n12 y V12 HE12.out HE2.out).mono ?_
  rintro e V13 ⟨c13, rfl, he, hb⟩
  refine ⟨_, rfl, hb, ?_⟩
  obtain ⟨n13, hn⟩ : ∃ n, (n12 + y) % P255 = n := ⟨_, rfl⟩
  rw [hn] at he
  have HE13 : Hid (Elm c13 n13) := he
  have HF13 : Hid (FC n13 (((x : Int) - (y : Int)) + (y : Int))) := by rw [← hn]; exact HF12.out.add HF2.out
  replace HK0 := hidup (HK0.out.later hb)
  replace HK1 := hidup (HK1.out.later hb)
  replace HC1 := hidup (HC1.out.later hb)
  replace HC2 := hidup (HC2.out.later hb)
  replace HC3 := hidup (HC3.out.later hb)
  replace HW := hidup (HW.out.trans (hb.mono HW.out.size))
  clear hb he hn
  go_simp
  refine sched_call (f := 13) (args := #[.agg c13.toArray]) rfl (by rfl) (by go_simp) ?_
  refine (fbytes_any c13 n13 V13 HE13.out).mono ?_
  rintro e V14 ⟨rfl, hb⟩
  refine ⟨_, rfl, hb, ?_⟩
  replace HK0 := hidup (HK0.out.later hb)
  replace HK1 := hidup (HK1.out.later hb)
  replace HC1 := hidup (HC1.out.later hb)
  replace HC2 := hidup (HC2.out.later hb)
  replace HC3 := hidup (HC3.out.later hb)
  replace HW := hidup (HW.out.trans (hb.mono HW.out.size))
  clear hb
  go_simp
  refine sched_call (f := 13) (args := #[.agg c1.toArray]) rfl (by rfl) (by go_simp) ?_
  refine (fbytes_any c1 x V14 HE1.out).mono ?_
  rintro e V15 ⟨rfl, hb⟩
  refine ⟨_, rfl, hb, ?_⟩
  replace HK0 := hidup (HK0.out.later hb)
  replace HK1 := hidup (HK1.out.later hb)
  replace HC1 := hidup (HC1.out.later hb)
  replace HC2 := hidup (HC2.out.later hb)
  replace HC3 := hidup (HC3.out.later hb)
  replace HW := hidup (HW.out.trans (hb.mono HW.out.size))
  clear hb
  go_simp
  have hq16 : Hid (n13 = x) := FC.eq HF13.out HF1.out (by grind)
  refine sched_take rfl (by rfl) (v := ?_) ?_ ?_; rotate_left; (intro w' hw'; clear hw'; have q1 := key_same w' n13 x hq16.out; go_simp; with_reducible rfl); go_simp
  clear hq16
  iterate 2 (refine sched_take rfl (by rfl) (v := ?_) ?_ ?_; rotate_left; (intro w' hw'; clear hw'; go_simp; with_reducible rfl); go_simp)
  refine sched_take rfl (by rfl) (v := .agg c3.toArray) (fun w' hw' => exec_load_row 28 _ rfl g3 rfl 28 _ (0, 0) _ (HC3.out.later hw') Tryd.underlying28 rfl (elm_info HE3.out)) ?_
  go_simp
  refine sched_take rfl (by rfl) (v := .agg c3.toArray) (fun w' hw' => exec_load_row 28 _ rfl g3 rfl 28 _ (0, 0) _ (HC3.out.later hw') Tryd.underlying28 rfl (elm_info HE3.out)) ?_
  go_simp
  refine sched_take rfl (by rfl) (v := .agg c1.toArray) (fun w' hw' => exec_load_row 28 _ rfl g1 rfl 28 _ (0, 0) _ (HC1.out.later hw') Tryd.underlying28 rfl (elm_info HE1.out)) ?_
  go_simp
  refine sched_take rfl (by rfl) (v := .agg c1.toArray) (fun w' hw' => exec_load_row 28 _ rfl g1 rfl 28 _ (0, 0) _ (HC1.out.later hw') Tryd.underlying28 rfl (elm_info HE1.out)) ?_
  go_simp
  refine sched_call (f := 17) (args := #[.agg c3.toArray, .agg c1.toArray]) rfl (by rfl) (by go_simp) ?_
  refine (fsub_any c3 c1 z x V15 HE3.out HE1.out (HTab.out.later HW.out)).mono ?_
  rintro e V17 ⟨c17, rfl, he, hb⟩
  refine ⟨_, rfl, hb, ?_⟩
  obtain ⟨n17, hn⟩ : ∃ n, (z + (P255 - x)) % P255 = n := ⟨_, rfl⟩
  rw [hn] at he
  have HE17 : Hid (Elm c17 n17) := he
  have HF17 : Hid (FC n17 ((0 : Int) - (x : Int))) := by rw [← hn]; exact HF3.out.sub HF1.out
  replace HK0 := hidup (HK0.out.later hb)
  replace HK1 := hidup (HK1.out.later hb)
  replace HC1 := hidup (HC1.out.later hb)
  replace HC2 := hidup (HC2.out.later hb)
  replace HC3 := hidup (HC3.out.later hb)
  replace HW := hidup (HW.out.trans (hb.mono HW.out.size))
  clear hb he hn
  go_simp
  refine sched_call (f := 17) (args := #[.agg c3.toArray, .agg c17.toArray]) rfl (by rfl) (by go_simp) ?_
  refine (fsub_any c3 c17 z n17 V17 HE3.out HE17.out (HTab.out.later HW.out)).mono ?_
  rintro e V18 ⟨c18, rfl, he, hb⟩
  refine ⟨_, rfl, hb, ?_⟩
  obtain ⟨n18, hn⟩ : ∃ n, (z + (P255 - n17)) % P255 = n := ⟨_, rfl⟩
  rw [hn] at he
  have HE18 : Hid (Elm c18 n18) := he
  have HF18 : Hid (FC n18 ((0 : Int) - ((0 : Int) - (x : Int)))) := by rw [← hn]; exact HF3.out.sub HF17.out
  replace HK0 := hidup (HK0.out.later hb)
  replace HK1 := hidup (HK1.out.later hb)
  replace HC1 := hidup (HC1.out.later hb)
  replace HC2 := hidup (HC2.out.later hb)
  replace HC3 := hidup (HC3.out.later hb)
  replace HW := hidup (HW.out.trans (hb.mono HW.out.size))
  clear hb he hn
  go_simp
  refine sched_call (f := 13) (args := #[.agg c18.toArray]) rfl (by rfl) (by go_simp) ?_
  refine (fbytes_any c18 n18 V18 HE18.out).mono ?_
  rintro e V19 ⟨rfl, hb⟩
  refine ⟨_, rfl, hb, ?_⟩
  replace HK0 := hidup (HK0.out.later hb)
  replace HK1 := hidup (HK1.out.later hb)
  replace HC1 := hidup (HC1.out.later hb)
  replace HC2 := hidup (HC2.out.later hb)
  replace HC3 := hidup (HC3.out.later hb)
  replace HW := hidup (HW.out.trans (hb.mono HW.out.size))
  clear hb
  go_simp
  refine sched_call (f := 13) (args := #[.agg c1.toArray]) rfl (by rfl) (by go_simp) ?_
  refine (fbytes_any c1 x V19 HE1.out).mono ?_
  rintro e V20 ⟨rfl, hb⟩
  refine ⟨_, rfl, hb, ?_⟩
  replace HK0 := hidup (HK0.out.later hb)
  replace HK1 := hidup (HK1.out.later hb)
  replace HC1 := hidup (HC1.out.later hb)
  replace HC2 := hidup (HC2.out.later hb)
  replace HC3 := hidup (HC3.out.later hb)
  replace HW := hidup (HW.out.trans (hb.mono HW.out.size))
  clear hb
  go_simp
  have hq21 : Hid (n18 = x) := FC.eq HF18.out HF1.out (by grind)
  refine sched_take rfl (by rfl) (v := ?_) ?_ ?_; rotate_left; (intro w' hw'; clear hw'; have q1 := key_same w' n18 x hq21.out; go_simp; with_reducible rfl); go_simp
  clear hq21
  iterate 2 (refine sched_take rfl (by rfl) (v := ?_) ?_ ?_; rotate_left; (intro w' hw'; clear hw'; go_simp; with_reducible rfl); go_simp)
  refine sched_done hKK5 ?_
  clear hKK5 HWd
  go_wp2
  go_ret
  exact ⟨rfl, HW.out⟩
end Go.Proofs.YtgggdcliepgahaaDoor.fieldTurned
