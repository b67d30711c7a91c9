/- FieldOver. For every 2 keys, without a condition. -/
import Derived.Test.YtgggdcliepgahaaFieldShown
namespace Go.Proofs.Ytgggdcliepgahaa.fieldOver
open Go.ChangeShapes Go.WideShapes Go.ChangeAt Go.RowKit
set_option linter.unusedVariables false

set_option maxHeartbeats 8000000 in
set_option maxRecDepth 100000 in
theorem walk (l0 l1 : List UInt8) (w : World) (w0 : l0.length = 32) (w1 : l1.length = 32) :
    Calls Try.prog 6 #[.agg (l0.map bv).toArray, .agg (l1.map bv).toArray] w fun e w' => e = .returned (.bool true) ∧ Below w.heap.size w w' := by
  have hIK0 : Hid ((Try.prog.info? 23).map (·.size) = some (l0.map bv).toArray.size) := info_size (n := 32) (by kernel_rfl) l0 w0
  have hIK1 : Hid ((Try.prog.info? 23).map (·.size) = some (l1.map bv).toArray.size) := info_size (n := 32) (by kernel_rfl) l1 w1
  go_enter Try.func6, Try.ntmps6
  go_wp2_with fail
  refine (fshown_any _).mono ?_
  rintro e V0 ⟨rfl, hb⟩
  obtain ⟨hk0, hk1, hbw⟩ := keys2 w l0 l1
  have HK0 : Hid (Arr V0 w.heap.size 23 l0) := hk0.later hb
  have HK1 : Hid (Arr V0 (w.heap.size + 1) 23 l1) := hk1.later hb
  have HW : Hid (Below w.heap.size w V0) := hbw.trans (hb.mono hbw.size)
  clear hb hbw hk0 hk1
  go_wp2_with (first | refine wpList_load_row rfl 23 _ rfl w.heap.size rfl 23 _ (0, 0) _ HK0.out Try.underlying23 rfl hIK0.out ?_ | refine wpList_load_row rfl 23 _ rfl (w.heap.size + 1) rfl 23 _ (0, 0) _ HK1.out Try.underlying23 rfl hIK1.out ?_ | fail)
  refine (ffrom_any l0 _ w0).mono ?_
  rintro e V1 ⟨c1, rfl, he, hb⟩
  obtain ⟨x, hn⟩ : ∃ n, leN l0 % 2 ^ 255 % P255 = n := ⟨_, rfl⟩
  rw [hn] at he
  have HE1 : Hid (Elm c1 x) := he
  have HF1 : Hid (FC x (x : Int)) := FC.self he.lt
  have hlen1 := he.len
  have hst := elm_store V1 he
  have hC := Cel.new V1 c1
  obtain ⟨W1, hW⟩ : ∃ W, V1.alloc (.cells c1.toArray 28) = W := ⟨_, rfl⟩
  rw [hW] at hst hC
  have hbW : Below V0.heap.size V0 W1 := by rw [← hW]; exact hb.alloc hb.size _
  replace HK0 := hidup (HK0.out.later hbW)
  replace HK1 := hidup (HK1.out.later hbW)
  replace HW := hidup (HW.out.trans (hbW.mono HW.out.size))
  have HC1 : Hid (Cel W1 V1.heap.size c1) := hC
  clear he hb hbW hC hW hn
  go_wp2_with (first | refine wpList_load_row rfl 23 _ rfl w.heap.size rfl 23 _ (0, 0) _ HK0.out Try.underlying23 rfl hIK0.out ?_ | refine wpList_load_row rfl 23 _ rfl (w.heap.size + 1) rfl 23 _ (0, 0) _ HK1.out Try.underlying23 rfl hIK1.out ?_ | refine wpList_load_row rfl 28 _ rfl V1.heap.size rfl 28 _ (0, 0) _ HC1.out Try.underlying28 rfl (elm_info HE1.out) ?_ | fail)
  clear hst
  generalize V1.heap.size = g1 at HC1 ⊢
  refine (ffrom_any l1 _ w1).mono ?_
  rintro e V2 ⟨c2, rfl, he, hb⟩
  obtain ⟨y, hn⟩ : ∃ n, leN l1 % 2 ^ 255 % P255 = n := ⟨_, rfl⟩
  rw [hn] at he
  have HE2 : Hid (Elm c2 y) := he
  have HF2 : Hid (FC y (y : Int)) := FC.self he.lt
  have hlen2 := he.len
  have hst := elm_store V2 he
  have hC := Cel.new V2 c2
  obtain ⟨W2, hW⟩ : ∃ W, V2.alloc (.cells c2.toArray 28) = W := ⟨_, rfl⟩
  rw [hW] at hst hC
  have hbW : Below W1.heap.size W1 W2 := by rw [← hW]; exact hb.alloc hb.size _
  replace HK0 := hidup (HK0.out.later hbW)
  replace HK1 := hidup (HK1.out.later hbW)
  replace HC1 := hidup (HC1.out.later hbW)
  replace HW := hidup (HW.out.trans (hbW.mono HW.out.size))
  have HC2 : Hid (Cel W2 V2.heap.size c2) := hC
  clear he hb hbW hC hW hn
  go_wp2
  clear hst
  generalize V2.heap.size = g2 at HC2 ⊢
  obtain ⟨W3, hWd⟩ : ∃ W, W2.drew = W := ⟨_, rfl⟩
  have HWd : Hid (W2.drew = W3) := hWd
  have hdr : Below W2.heap.size W2 W3 := by rw [← hWd]; exact (Below.refl _ _).drew
  replace HK0 := hidup (HK0.out.later hdr)
  replace HK1 := hidup (HK1.out.later hdr)
  replace HC1 := hidup (HC1.out.later hdr)
  replace HC2 := hidup (HC2.out.later hdr)
  replace HW := hidup (HW.out.trans (hdr.mono HW.out.size))
  clear hdr hWd
  refine wp_region_sched' (G := Grows) (by kernel_rfl) Grows.refl Grows.trans (by kernel_rfl) [(0, true), (1, true), (2, true), (3, true), (7, true), (9, true), (4, false), (5, false), (6, false), (8, false), (10, false), (11, false), (12, false), (13, true), (14, true), (15, true), (16, true), (20, true), (17, false), (18, false), (19, false), (21, false), (22, true), (23, true), (24, true)] rfl (by kernel_rfl) ?_
  intro KK4 hKK4
  rw [HWd.out]
  iterate 2 (refine sched_take rfl (by rfl) (v := ?_) ?_ ?_; rotate_left; (intro w' hw'; clear hw'; go_simp; with_reducible rfl); go_simp)
  refine sched_take rfl (by rfl) (v := .agg c1.toArray) (fun w' hw' => exec_load_row 28 _ rfl g1 rfl 28 _ (0, 0) _ (HC1.out.later hw') Try.underlying28 rfl (elm_info HE1.out)) ?_
  go_simp
  refine sched_take rfl (by rfl) (v := .agg c2.toArray) (fun w' hw' => exec_load_row 28 _ rfl g2 rfl 28 _ (0, 0) _ (HC2.out.later hw') Try.underlying28 rfl (elm_info HE2.out)) ?_
  go_simp
  refine sched_take rfl (by rfl) (v := .agg c1.toArray) (fun w' hw' => exec_load_row 28 _ rfl g1 rfl 28 _ (0, 0) _ (HC1.out.later hw') Try.underlying28 rfl (elm_info HE1.out)) ?_
  go_simp
  refine sched_take rfl (by rfl) (v := .agg c2.toArray) (fun w' hw' => exec_load_row 28 _ rfl g2 rfl 28 _ (0, 0) _ (HC2.out.later hw') Try.underlying28 rfl (elm_info HE2.out)) ?_
  go_simp
  refine sched_call (f := 10) (args := #[.agg c1.toArray, .agg c2.toArray]) rfl (by rfl) (by go_simp) ?_
  refine (fmul_any c1 c2 x y W3 HE1.out HE2.out).mono ?_
  rintro e V5 ⟨c5, rfl, he, hb⟩
  refine ⟨_, rfl, hb, ?_⟩
  obtain ⟨n5, hn⟩ : ∃ n, (x * y) % P255 = n := ⟨_, rfl⟩
  rw [hn] at he
  have HE5 : Hid (Elm c5 n5) := he
  have HF5 : Hid (FC n5 ((x : Int) * (y : Int))) := by rw [← hn]; exact HF1.out.mul HF2.out
  replace HK0 := hidup (HK0.out.later hb)
  replace HK1 := hidup (HK1.out.later hb)
  replace HC1 := hidup (HC1.out.later hb)
  replace HC2 := hidup (HC2.out.later hb)
  replace HW := hidup (HW.out.trans (hb.mono HW.out.size))
  clear hb he hn
  go_simp
  refine sched_call (f := 9) (args := #[.agg c5.toArray]) rfl (by rfl) (by go_simp) ?_
  refine (finv_any c5 n5 V5 HE5.out).mono ?_
  rintro e V6 ⟨c6, rfl, he, hb⟩
  refine ⟨_, rfl, hb, ?_⟩
  obtain ⟨n6, hn⟩ : ∃ n, finv n5 = n := ⟨_, rfl⟩
  rw [hn] at he
  have HE6 : Hid (Elm c6 n6) := he
  have HF6 : Hid (FC n6 (n6 : Int)) := FC.self he.lt
  have HI6 : Hid (finv n5 = n6) := hn
  replace HK0 := hidup (HK0.out.later hb)
  replace HK1 := hidup (HK1.out.later hb)
  replace HC1 := hidup (HC1.out.later hb)
  replace HC2 := hidup (HC2.out.later hb)
  replace HW := hidup (HW.out.trans (hb.mono HW.out.size))
  clear hb he hn
  go_simp
  refine sched_call (f := 11) (args := #[.agg c6.toArray]) rfl (by rfl) (by go_simp) ?_
  refine (fbytes_any c6 n6 V6 HE6.out).mono ?_
  rintro e V7 ⟨rfl, hb⟩
  refine ⟨_, rfl, hb, ?_⟩
  replace HK0 := hidup (HK0.out.later hb)
  replace HK1 := hidup (HK1.out.later hb)
  replace HC1 := hidup (HC1.out.later hb)
  replace HC2 := hidup (HC2.out.later hb)
  replace HW := hidup (HW.out.trans (hb.mono HW.out.size))
  clear hb
  go_simp
  refine sched_call (f := 9) (args := #[.agg c1.toArray]) rfl (by rfl) (by go_simp) ?_
  refine (finv_any c1 x V7 HE1.out).mono ?_
  rintro e V8 ⟨c8, rfl, he, hb⟩
  refine ⟨_, rfl, hb, ?_⟩
  obtain ⟨n8, hn⟩ : ∃ n, finv x = n := ⟨_, rfl⟩
  rw [hn] at he
  have HE8 : Hid (Elm c8 n8) := he
  have HF8 : Hid (FC n8 (n8 : Int)) := FC.self he.lt
  have HI8 : Hid (finv x = n8) := hn
  replace HK0 := hidup (HK0.out.later hb)
  replace HK1 := hidup (HK1.out.later hb)
  replace HC1 := hidup (HC1.out.later hb)
  replace HC2 := hidup (HC2.out.later hb)
  replace HW := hidup (HW.out.trans (hb.mono HW.out.size))
  clear hb he hn
  go_simp
  refine sched_call (f := 9) (args := #[.agg c2.toArray]) rfl (by rfl) (by go_simp) ?_
  refine (finv_any c2 y V8 HE2.out).mono ?_
  rintro e V9 ⟨c9, rfl, he, hb⟩
  refine ⟨_, rfl, hb, ?_⟩
  obtain ⟨n9, hn⟩ : ∃ n, finv y = n := ⟨_, rfl⟩
  rw [hn] at he
  have HE9 : Hid (Elm c9 n9) := he
  have HF9 : Hid (FC n9 (n9 : Int)) := FC.self he.lt
  have HI9 : Hid (finv y = n9) := hn
  replace HK0 := hidup (HK0.out.later hb)
  replace HK1 := hidup (HK1.out.later hb)
  replace HC1 := hidup (HC1.out.later hb)
  replace HC2 := hidup (HC2.out.later hb)
  replace HW := hidup (HW.out.trans (hb.mono HW.out.size))
  clear hb he hn
  go_simp
  refine sched_call (f := 10) (args := #[.agg c8.toArray, .agg c9.toArray]) rfl (by rfl) (by go_simp) ?_
  refine (fmul_any c8 c9 n8 n9 V9 HE8.out HE9.out).mono ?_
  rintro e V10 ⟨c10, rfl, he, hb⟩
  refine ⟨_, rfl, hb, ?_⟩
  obtain ⟨n10, hn⟩ : ∃ n, (n8 * n9) % P255 = n := ⟨_, rfl⟩
  rw [hn] at he
  have HE10 : Hid (Elm c10 n10) := he
  have HF10 : Hid (FC n10 ((n8 : Int) * (n9 : Int))) := by rw [← hn]; exact HF8.out.mul HF9.out
  replace HK0 := hidup (HK0.out.later hb)
  replace HK1 := hidup (HK1.out.later hb)
  replace HC1 := hidup (HC1.out.later hb)
  replace HC2 := hidup (HC2.out.later hb)
  replace HW := hidup (HW.out.trans (hb.mono HW.out.size))
  clear hb he hn
  go_simp
  refine sched_call (f := 11) (args := #[.agg c10.toArray]) rfl (by rfl) (by go_simp) ?_
  refine (fbytes_any c10 n10 V10 HE10.out).mono ?_
  rintro e V11 ⟨rfl, hb⟩
  refine ⟨_, rfl, hb, ?_⟩
  replace HK0 := hidup (HK0.out.later hb)
  replace HK1 := hidup (HK1.out.later hb)
  replace HC1 := hidup (HC1.out.later hb)
  replace HC2 := hidup (HC2.out.later hb)
  replace HW := hidup (HW.out.trans (hb.mono HW.out.size))
  clear hb
  go_simp
  have hq12 : Hid (n6 = n10) := over_eq HF5.out HF1.out.lt HF2.out.lt HI6.out HI8.out HI9.out HF10.out
  refine sched_take rfl (by rfl) (v := ?_) ?_ ?_; rotate_left; (intro w' hw'; clear hw'; have q1 := key_same w' n6 n10 hq12.out; go_simp; with_reducible rfl); go_simp
  clear hq12
  iterate 2 (refine sched_take rfl (by rfl) (v := ?_) ?_ ?_; rotate_left; (intro w' hw'; clear hw'; go_simp; with_reducible rfl); go_simp)
  refine sched_take rfl (by rfl) (v := .agg c1.toArray) (fun w' hw' => exec_load_row 28 _ rfl g1 rfl 28 _ (0, 0) _ (HC1.out.later hw') Try.underlying28 rfl (elm_info HE1.out)) ?_
  go_simp
  refine sched_take rfl (by rfl) (v := .agg c1.toArray) (fun w' hw' => exec_load_row 28 _ rfl g1 rfl 28 _ (0, 0) _ (HC1.out.later hw') Try.underlying28 rfl (elm_info HE1.out)) ?_
  go_simp
  refine sched_call (f := 9) (args := #[.agg c1.toArray]) rfl (by rfl) (by go_simp) ?_
  refine (finv_any c1 x V11 HE1.out).mono ?_
  rintro e V13 ⟨c13, rfl, he, hb⟩
  refine ⟨_, rfl, hb, ?_⟩
  obtain ⟨n13, hn⟩ : ∃ n, finv x = n := ⟨_, rfl⟩
  rw [hn] at he
  have HE13 : Hid (Elm c13 n13) := he
  have HF13 : Hid (FC n13 (n13 : Int)) := FC.self he.lt
  have HI13 : Hid (finv x = n13) := hn
  replace HK0 := hidup (HK0.out.later hb)
  replace HK1 := hidup (HK1.out.later hb)
  replace HC1 := hidup (HC1.out.later hb)
  replace HC2 := hidup (HC2.out.later hb)
  replace HW := hidup (HW.out.trans (hb.mono HW.out.size))
  clear hb he hn
  go_simp
  refine sched_call (f := 9) (args := #[.agg c13.toArray]) rfl (by rfl) (by go_simp) ?_
  refine (finv_any c13 n13 V13 HE13.out).mono ?_
  rintro e V14 ⟨c14, rfl, he, hb⟩
  refine ⟨_, rfl, hb, ?_⟩
  obtain ⟨n14, hn⟩ : ∃ n, finv n13 = n := ⟨_, rfl⟩
  rw [hn] at he
  have HE14 : Hid (Elm c14 n14) := he
  have HF14 : Hid (FC n14 (n14 : Int)) := FC.self he.lt
  have HI14 : Hid (finv n13 = n14) := hn
  replace HK0 := hidup (HK0.out.later hb)
  replace HK1 := hidup (HK1.out.later hb)
  replace HC1 := hidup (HC1.out.later hb)
  replace HC2 := hidup (HC2.out.later hb)
  replace HW := hidup (HW.out.trans (hb.mono HW.out.size))
  clear hb he hn
  go_simp
  refine sched_call (f := 11) (args := #[.agg c14.toArray]) rfl (by rfl) (by go_simp) ?_
  refine (fbytes_any c14 n14 V14 HE14.out).mono ?_
  rintro e V15 ⟨rfl, hb⟩
  refine ⟨_, rfl, hb, ?_⟩
  replace HK0 := hidup (HK0.out.later hb)
  replace HK1 := hidup (HK1.out.later hb)
  replace HC1 := hidup (HC1.out.later hb)
  replace HC2 := hidup (HC2.out.later hb)
  replace HW := hidup (HW.out.trans (hb.mono HW.out.size))
  clear hb
  go_simp
  refine sched_call (f := 11) (args := #[.agg c1.toArray]) rfl (by rfl) (by go_simp) ?_
  refine (fbytes_any c1 x V15 HE1.out).mono ?_
  rintro e V16 ⟨rfl, hb⟩
  refine ⟨_, rfl, hb, ?_⟩
  replace HK0 := hidup (HK0.out.later hb)
  replace HK1 := hidup (HK1.out.later hb)
  replace HC1 := hidup (HC1.out.later hb)
  replace HC2 := hidup (HC2.out.later hb)
  replace HW := hidup (HW.out.trans (hb.mono HW.out.size))
  clear hb
  go_simp
  have hq17 : Hid (n14 = x) := over_back HI13.out HI14.out HF1.out.lt
  refine sched_take rfl (by rfl) (v := ?_) ?_ ?_; rotate_left; (intro w' hw'; clear hw'; have q1 := key_same w' n14 x hq17.out; go_simp; with_reducible rfl); go_simp
  clear hq17
  iterate 2 (refine sched_take rfl (by rfl) (v := ?_) ?_ ?_; rotate_left; (intro w' hw'; clear hw'; go_simp; with_reducible rfl); go_simp)
  refine sched_done hKK4 ?_
  clear hKK4 HWd
  go_wp2
  go_ret
  exact ⟨rfl, HW.out⟩
end Go.Proofs.Ytgggdcliepgahaa.fieldOver
