/- FieldRing. For every 3 keys, without a condition. -/
import Derived.Test.YtgggdcliepgahaaDoorFieldShown
namespace Go.Proofs.YtgggdcliepgahaaDoor.fieldRing
open Go.ChangeShapes Go.WideShapes Go.ChangeAt Go.RowKit
set_option linter.unusedVariables false

set_option maxHeartbeats 8000000 in
set_option maxRecDepth 100000 in
theorem walk (l0 l1 l2 : List UInt8) (w : World) (w0 : l0.length = 32) (w1 : l1.length = 32) (w2 : l2.length = 32) (htab : FTab w) :
    Calls Tryd.prog 5 #[.agg (l0.map bv).toArray, .agg (l1.map bv).toArray, .agg (l2.map bv).toArray] w fun e w' => e = .returned (.bool true) ∧ Below w.heap.size w w' := by
  have HTab : Hid (FTab w) := htab
  clear htab
  have hIK0 : Hid ((Tryd.prog.info? 23).map (·.size) = some (l0.map bv).toArray.size) := info_size (n := 32) (by kernel_rfl) l0 w0
  have hIK1 : Hid ((Tryd.prog.info? 23).map (·.size) = some (l1.map bv).toArray.size) := info_size (n := 32) (by kernel_rfl) l1 w1
  have hIK2 : Hid ((Tryd.prog.info? 23).map (·.size) = some (l2.map bv).toArray.size) := info_size (n := 32) (by kernel_rfl) l2 w2
  go_enter Tryd.func5, Tryd.ntmps5
  go_wp2_with fail
  refine (fshown_any _).mono ?_
  rintro e V0 ⟨rfl, hb⟩
  obtain ⟨hk0, hk1, hk2, hbw⟩ := keys3 w l0 l1 l2
  have HK0 : Hid (Arr V0 w.heap.size 23 l0) := hk0.later hb
  have HK1 : Hid (Arr V0 (w.heap.size + 1) 23 l1) := hk1.later hb
  have HK2 : Hid (Arr V0 (w.heap.size + 1 + 1) 23 l2) := hk2.later hb
  have HW : Hid (Below w.heap.size w V0) := hbw.trans (hb.mono hbw.size)
  clear hb hbw hk0 hk1 hk2
  go_wp2_with (first | refine wpList_load_row rfl 23 _ rfl w.heap.size rfl 23 _ (0, 0) _ HK0.out Tryd.underlying23 rfl hIK0.out ?_ | refine wpList_load_row rfl 23 _ rfl (w.heap.size + 1) rfl 23 _ (0, 0) _ HK1.out Tryd.underlying23 rfl hIK1.out ?_ | refine wpList_load_row rfl 23 _ rfl (w.heap.size + 1 + 1) rfl 23 _ (0, 0) _ HK2.out Tryd.underlying23 rfl hIK2.out ?_ | fail)
  refine (ffrom_any l0 _ w0).mono ?_
  rintro e V1 ⟨c1, rfl, he, hb⟩
  obtain ⟨x, hn⟩ : ∃ n, leN l0 % 2 ^ 255 % P255 = n := ⟨_, rfl⟩
  rw [hn] at he
  have HE1 : Hid (Elm c1 x) := he
  have HF1 : Hid (FC x (x : Int)) := FC.self he.lt
  have hlen1 := he.len
  have hst := elm_store V1 he
  have hC := Cel.new V1 c1
  obtain ⟨W1, hW⟩ : ∃ W, V1.alloc (.cells c1.toArray 28) = W := ⟨_, rfl⟩
  rw [hW] at hst hC
  have hbW : Below V0.heap.size V0 W1 := by rw [← hW]; exact hb.alloc hb.size _
  replace HK0 := hidup (HK0.out.later hbW)
  replace HK1 := hidup (HK1.out.later hbW)
  replace HK2 := hidup (HK2.out.later hbW)
  replace HW := hidup (HW.out.trans (hbW.mono HW.out.size))
  have HC1 : Hid (Cel W1 V1.heap.size c1) := hC
  clear he hb hbW hC hW hn
  go_wp2_with (first | refine wpList_load_row rfl 23 _ rfl w.heap.size rfl 23 _ (0, 0) _ HK0.out Tryd.underlying23 rfl hIK0.out ?_ | refine wpList_load_row rfl 23 _ rfl (w.heap.size + 1) rfl 23 _ (0, 0) _ HK1.out Tryd.underlying23 rfl hIK1.out ?_ | refine wpList_load_row rfl 23 _ rfl (w.heap.size + 1 + 1) rfl 23 _ (0, 0) _ HK2.out Tryd.underlying23 rfl hIK2.out ?_ | refine wpList_load_row rfl 28 _ rfl V1.heap.size rfl 28 _ (0, 0) _ HC1.out Tryd.underlying28 rfl (elm_info HE1.out) ?_ | fail)
  clear hst
  generalize V1.heap.size = g1 at HC1 ⊢
  refine (ffrom_any l1 _ w1).mono ?_
  rintro e V2 ⟨c2, rfl, he, hb⟩
  obtain ⟨y, hn⟩ : ∃ n, leN l1 % 2 ^ 255 % P255 = n := ⟨_, rfl⟩
  rw [hn] at he
  have HE2 : Hid (Elm c2 y) := he
  have HF2 : Hid (FC y (y : Int)) := FC.self he.lt
  have hlen2 := he.len
  have hst := elm_store V2 he
  have hC := Cel.new V2 c2
  obtain ⟨W2, hW⟩ : ∃ W, V2.alloc (.cells c2.toArray 28) = W := ⟨_, rfl⟩
  rw [hW] at hst hC
  have hbW : Below W1.heap.size W1 W2 := by rw [← hW]; exact hb.alloc hb.size _
  replace HK0 := hidup (HK0.out.later hbW)
  replace HK1 := hidup (HK1.out.later hbW)
  replace HK2 := hidup (HK2.out.later hbW)
  replace HC1 := hidup (HC1.out.later hbW)
  replace HW := hidup (HW.out.trans (hbW.mono HW.out.size))
  have HC2 : Hid (Cel W2 V2.heap.size c2) := hC
  clear he hb hbW hC hW hn
  go_wp2_with (first | refine wpList_load_row rfl 23 _ rfl w.heap.size rfl 23 _ (0, 0) _ HK0.out Tryd.underlying23 rfl hIK0.out ?_ | refine wpList_load_row rfl 23 _ rfl (w.heap.size + 1) rfl 23 _ (0, 0) _ HK1.out Tryd.underlying23 rfl hIK1.out ?_ | refine wpList_load_row rfl 23 _ rfl (w.heap.size + 1 + 1) rfl 23 _ (0, 0) _ HK2.out Tryd.underlying23 rfl hIK2.out ?_ | refine wpList_load_row rfl 28 _ rfl g1 rfl 28 _ (0, 0) _ HC1.out Tryd.underlying28 rfl (elm_info HE1.out) ?_ | refine wpList_load_row rfl 28 _ rfl V2.heap.size rfl 28 _ (0, 0) _ HC2.out Tryd.underlying28 rfl (elm_info HE2.out) ?_ | fail)
  clear hst
  generalize V2.heap.size = g2 at HC2 ⊢
  refine (ffrom_any l2 _ w2).mono ?_
  rintro e V3 ⟨c3, rfl, he, hb⟩
  obtain ⟨z, hn⟩ : ∃ n, leN l2 % 2 ^ 255 % P255 = n := ⟨_, rfl⟩
  rw [hn] at he
  have HE3 : Hid (Elm c3 z) := he
  have HF3 : Hid (FC z (z : Int)) := FC.self he.lt
  have hlen3 := he.len
  have hst := elm_store V3 he
  have hC := Cel.new V3 c3
  obtain ⟨W3, hW⟩ : ∃ W, V3.alloc (.cells c3.toArray 28) = W := ⟨_, rfl⟩
  rw [hW] at hst hC
  have hbW : Below W2.heap.size W2 W3 := by rw [← hW]; exact hb.alloc hb.size _
  replace HK0 := hidup (HK0.out.later hbW)
  replace HK1 := hidup (HK1.out.later hbW)
  replace HK2 := hidup (HK2.out.later hbW)
  replace HC1 := hidup (HC1.out.later hbW)
  replace HC2 := hidup (HC2.out.later hbW)
  replace HW := hidup (HW.out.trans (hbW.mono HW.out.size))
  have HC3 : Hid (Cel W3 V3.heap.size c3) := hC
  clear he hb hbW hC hW hn
  go_wp2
  clear hst
  generalize V3.heap.size = g3 at HC3 ⊢
  obtain ⟨W4, hWd⟩ : ∃ W, W3.drew = W := ⟨_, rfl⟩
  have HWd : Hid (W3.drew = W4) := hWd
  have hdr : Below W3.heap.size W3 W4 := by rw [← hWd]; exact (Below.refl _ _).drew
  replace HK0 := hidup (HK0.out.later hdr)
  replace HK1 := hidup (HK1.out.later hdr)
  replace HK2 := hidup (HK2.out.later hdr)
  replace HC1 := hidup (HC1.out.later hdr)
  replace HC2 := hidup (HC2.out.later hdr)
  replace HC3 := hidup (HC3.out.later hdr)
  replace HW := hidup (HW.out.trans (hdr.mono HW.out.size))
  clear hdr hWd
  refine wp_region_sched' (G := Grows) (by kernel_rfl) Grows.refl Grows.trans (by kernel_rfl) [(0, true), (1, true), (4, true), (5, true), (2, false), (3, false), (6, false), (7, false), (8, true), (9, true), (10, true), (11, true), (14, true), (15, true), (12, false), (13, false), (16, false), (17, false), (18, true), (19, true), (20, true), (21, true), (22, true), (24, true), (27, true), (28, true), (29, true), (23, false), (25, false), (26, false), (30, false), (31, false), (32, false), (33, true), (34, true), (35, true), (36, true), (37, true), (39, true), (42, true), (43, true), (44, true), (38, false), (40, false), (41, false), (45, false), (46, false), (47, false), (48, true), (49, true)] rfl (by kernel_rfl) ?_
  intro KK5 hKK5
  rw [HWd.out]
  refine sched_take rfl (by rfl) (v := .agg c1.toArray) (fun w' hw' => exec_load_row 28 _ rfl g1 rfl 28 _ (0, 0) _ (HC1.out.later hw') Tryd.underlying28 rfl (elm_info HE1.out)) ?_
  go_simp
  refine sched_take rfl (by rfl) (v := .agg c2.toArray) (fun w' hw' => exec_load_row 28 _ rfl g2 rfl 28 _ (0, 0) _ (HC2.out.later hw') Tryd.underlying28 rfl (elm_info HE2.out)) ?_
  go_simp
  refine sched_take rfl (by rfl) (v := .agg c2.toArray) (fun w' hw' => exec_load_row 28 _ rfl g2 rfl 28 _ (0, 0) _ (HC2.out.later hw') Tryd.underlying28 rfl (elm_info HE2.out)) ?_
  go_simp
  refine sched_take rfl (by rfl) (v := .agg c1.toArray) (fun w' hw' => exec_load_row 28 _ rfl g1 rfl 28 _ (0, 0) _ (HC1.out.later hw') Tryd.underlying28 rfl (elm_info HE1.out)) ?_
  go_simp
  refine sched_call (f := 15) (args := #[.agg c1.toArray, .agg c2.toArray]) rfl (by rfl) (by go_simp) ?_
  refine (fadd_any c1 c2 x y W4 HE1.out HE2.out).mono ?_
  rintro e V6 ⟨c6, rfl, he, hb⟩
  refine ⟨_, rfl, hb, ?_⟩
  obtain ⟨n6, hn⟩ : ∃ n, (x + y) % P255 = n := ⟨_, rfl⟩
  rw [hn] at he
  have HE6 : Hid (Elm c6 n6) := he
  have HF6 : Hid (FC n6 ((x : Int) + (y : Int))) := by rw [← hn]; exact HF1.out.add HF2.out
  replace HK0 := hidup (HK0.out.later hb)
  replace HK1 := hidup (HK1.out.later hb)
  replace HK2 := hidup (HK2.out.later hb)
  replace HC1 := hidup (HC1.out.later hb)
  replace HC2 := hidup (HC2.out.later hb)
  replace HC3 := hidup (HC3.out.later hb)
  replace HW := hidup (HW.out.trans (hb.mono HW.out.size))
  clear hb he hn
  go_simp
  refine sched_call (f := 13) (args := #[.agg c6.toArray]) rfl (by rfl) (by go_simp) ?_
  refine (fbytes_any c6 n6 V6 HE6.out).mono ?_
  rintro e V7 ⟨rfl, hb⟩
  refine ⟨_, rfl, hb, ?_⟩
  replace HK0 := hidup (HK0.out.later hb)
  replace HK1 := hidup (HK1.out.later hb)
  replace HK2 := hidup (HK2.out.later hb)
  replace HC1 := hidup (HC1.out.later hb)
  replace HC2 := hidup (HC2.out.later hb)
  replace HC3 := hidup (HC3.out.later hb)
  replace HW := hidup (HW.out.trans (hb.mono HW.out.size))
  clear hb
  go_simp
  refine sched_call (f := 15) (args := #[.agg c2.toArray, .agg c1.toArray]) rfl (by rfl) (by go_simp) ?_
  refine (fadd_any c2 c1 y x V7 HE2.out HE1.out).mono ?_
  rintro e V8 ⟨c8, rfl, he, hb⟩
  refine ⟨_, rfl, hb, ?_⟩
  obtain ⟨n8, hn⟩ : ∃ n, (y + x) % P255 = n := ⟨_, rfl⟩
  rw [hn] at he
  have HE8 : Hid (Elm c8 n8) := he
  have HF8 : Hid (FC n8 ((y : Int) + (x : Int))) := by rw [← hn]; exact HF2.out.add HF1.out
  replace HK0 := hidup (HK0.out.later hb)
  replace HK1 := hidup (HK1.out.later hb)
  replace HK2 := hidup (HK2.out.later hb)
  replace HC1 := hidup (HC1.out.later hb)
  replace HC2 := hidup (HC2.out.later hb)
  replace HC3 := hidup (HC3.out.later hb)
  replace HW := hidup (HW.out.trans (hb.mono HW.out.size))
  clear hb he hn
  go_simp
  refine sched_call (f := 13) (args := #[.agg c8.toArray]) rfl (by rfl) (by go_simp) ?_
  refine (fbytes_any c8 n8 V8 HE8.out).mono ?_
  rintro e V9 ⟨rfl, hb⟩
  refine ⟨_, rfl, hb, ?_⟩
  replace HK0 := hidup (HK0.out.later hb)
  replace HK1 := hidup (HK1.out.later hb)
  replace HK2 := hidup (HK2.out.later hb)
  replace HC1 := hidup (HC1.out.later hb)
  replace HC2 := hidup (HC2.out.later hb)
  replace HC3 := hidup (HC3.out.later hb)
  replace HW := hidup (HW.out.trans (hb.mono HW.out.size))
  clear hb
  go_simp
  have hq10 : Hid (n6 = n8) := FC.eq HF6.out HF8.out (by grind)
  refine sched_take rfl (by rfl) (v := ?_) ?_ ?_; rotate_left; (intro w' hw'; clear hw'; have q1 := key_same w' n6 n8 hq10.out; go_simp; with_reducible rfl); go_simp
  clear hq10
  iterate 1 (refine sched_take rfl (by rfl) (v := ?_) ?_ ?_; rotate_left; (intro w' hw'; clear hw'; go_simp; with_reducible rfl); go_simp)
  refine sched_take rfl (by rfl) (v := .agg c1.toArray) (fun w' hw' => exec_load_row 28 _ rfl g1 rfl 28 _ (0, 0) _ (HC1.out.later hw') Tryd.underlying28 rfl (elm_info HE1.out)) ?_
  go_simp
  refine sched_take rfl (by rfl) (v := .agg c2.toArray) (fun w' hw' => exec_load_row 28 _ rfl g2 rfl 28 _ (0, 0) _ (HC2.out.later hw') Tryd.underlying28 rfl (elm_info HE2.out)) ?_
  go_simp
  refine sched_take rfl (by rfl) (v := .agg c2.toArray) (fun w' hw' => exec_load_row 28 _ rfl g2 rfl 28 _ (0, 0) _ (HC2.out.later hw') Tryd.underlying28 rfl (elm_info HE2.out)) ?_
  go_simp
  refine sched_take rfl (by rfl) (v := .agg c1.toArray) (fun w' hw' => exec_load_row 28 _ rfl g1 rfl 28 _ (0, 0) _ (HC1.out.later hw') Tryd.underlying28 rfl (elm_info HE1.out)) ?_
  go_simp
  refine sched_call (f := 19) (args := #[.agg c1.toArray, .agg c2.toArray]) rfl (by rfl) (by go_simp) ?_
  refine (fmul_any c1 c2 x y V9 HE1.out HE2.out).mono ?_
  rintro e V11 ⟨c11, rfl, he, hb⟩
  refine ⟨_, rfl, hb, ?_⟩
  obtain ⟨n11, hn⟩ : ∃ n, (x * y) % P255 = n := ⟨_, rfl⟩
  rw [hn] at he
  have HE11 : Hid (Elm c11 n11) := he
  have HF11 : Hid (FC n11 ((x : Int) * (y : Int))) := by rw [← hn]; exact HF1.out.mul HF2.out
  replace HK0 := hidup (HK0.out.later hb)
  replace HK1 := hidup (HK1.out.later hb)
  replace HK2 := hidup (HK2.out.later hb)
  replace HC1 := hidup (HC1.out.later hb)
  replace HC2 := hidup (HC2.out.later hb)
  replace HC3 := hidup (HC3.out.later hb)
  replace HW := hidup (HW.out.trans (hb.mono HW.out.size))
  clear hb he hn
  go_simp
  refine sched_call (f := 13) (args := #[.agg c11.toArray]) rfl (by rfl) (by go_simp) ?_
  refine (fbytes_any c11 n11 V11 HE11.out).mono ?_
  rintro e V12 ⟨rfl, hb⟩
  refine ⟨_, rfl, hb, ?_⟩
  replace HK0 := hidup (HK0.out.later hb)
  replace HK1 := hidup (HK1.out.later hb)
  replace HK2 := hidup (HK2.out.later hb)
  replace HC1 := hidup (HC1.out.later hb)
  replace HC2 := hidup (HC2.out.later hb)
  replace HC3 := hidup (HC3.out.later hb)
  replace HW := hidup (HW.out.trans (hb.mono HW.out.size))
  clear hb
  go_simp
  refine sched_call (f := 19) (args := #[.agg c2.toArray, .agg c1.toArray]) rfl (by rfl) (by go_simp) ?_
  refine (fmul_any c2 c1 y x V12 HE2.out HE1.out).mono ?_
  rintro e V13 ⟨c13, rfl, he, hb⟩
  refine ⟨_, rfl, hb, ?_⟩
  obtain ⟨n13, hn⟩ : ∃ n, (y * x) % P255 = n := ⟨_, rfl⟩
  rw [hn] at he
  have HE13 : Hid (Elm c13 n13) := he
  have HF13 : Hid (FC n13 ((y : Int) * (x : Int))) := by rw [← hn]; exact HF2.out.mul HF1.out
  replace HK0 := hidup (HK0.out.later hb)
  replace HK1 := hidup (HK1.out.later hb)
  replace HK2 := hidup (HK2.out.later hb)
  replace HC1 := hidup (HC1.out.later hb)
  replace HC2 := hidup (HC2.out.later hb)
  replace HC3 := hidup (HC3.out.later hb)
  replace HW := hidup (HW.out.trans (hb.mono HW.out.size))
  clear hb he hn
  go_simp
  refine sched_call (f := 13) (args := #[.agg c13.toArray]) rfl (by rfl) (by go_simp) ?_
  refine (fbytes_any c13 n13 V13 HE13.out).mono ?_
  rintro e V14 ⟨rfl, hb⟩
  refine ⟨_, rfl, hb, ?_⟩
  replace HK0 := hidup (HK0.out.later hb)
  replace HK1 := hidup (HK1.out.later hb)
  replace HK2 := hidup (HK2.out.later hb)
  replace HC1 := hidup (HC1.out.later hb)
  replace HC2 := hidup (HC2.out.later hb)
  replace HC3 := hidup (HC3.out.later hb)
  replace HW := hidup (HW.out.trans (hb.mono HW.out.size))
  clear hb
  go_simp
  have hq15 : Hid (n11 = n13) := FC.eq HF11.out HF13.out (by grind)
  refine sched_take rfl (by rfl) (v := ?_) ?_ ?_; rotate_left; (intro w' hw'; clear hw'; have q1 := key_same w' n11 n13 hq15.out; go_simp; with_reducible rfl); go_simp
  clear hq15
  iterate 2 (refine sched_take rfl (by rfl) (v := ?_) ?_ ?_; rotate_left; (intro w' hw'; clear hw'; go_simp; with_reducible rfl); go_simp)
  refine sched_take rfl (by rfl) (v := .agg c1.toArray) (fun w' hw' => exec_load_row 28 _ rfl g1 rfl 28 _ (0, 0) _ (HC1.out.later hw') Tryd.underlying28 rfl (elm_info HE1.out)) ?_
  go_simp
  refine sched_take rfl (by rfl) (v := .agg c2.toArray) (fun w' hw' => exec_load_row 28 _ rfl g2 rfl 28 _ (0, 0) _ (HC2.out.later hw') Tryd.underlying28 rfl (elm_info HE2.out)) ?_
  go_simp
  refine sched_take rfl (by rfl) (v := .agg c3.toArray) (fun w' hw' => exec_load_row 28 _ rfl g3 rfl 28 _ (0, 0) _ (HC3.out.later hw') Tryd.underlying28 rfl (elm_info HE3.out)) ?_
  go_simp
  refine sched_take rfl (by rfl) (v := .agg c1.toArray) (fun w' hw' => exec_load_row 28 _ rfl g1 rfl 28 _ (0, 0) _ (HC1.out.later hw') Tryd.underlying28 rfl (elm_info HE1.out)) ?_
  go_simp
  refine sched_take rfl (by rfl) (v := .agg c2.toArray) (fun w' hw' => exec_load_row 28 _ rfl g2 rfl 28 _ (0, 0) _ (HC2.out.later hw') Tryd.underlying28 rfl (elm_info HE2.out)) ?_
  go_simp
  refine sched_take rfl (by rfl) (v := .agg c3.toArray) (fun w' hw' => exec_load_row 28 _ rfl g3 rfl 28 _ (0, 0) _ (HC3.out.later hw') Tryd.underlying28 rfl (elm_info HE3.out)) ?_
  go_simp
  refine sched_call (f := 15) (args := #[.agg c1.toArray, .agg c2.toArray]) rfl (by rfl) (by go_simp) ?_
  refine (fadd_any c1 c2 x y V14 HE1.out HE2.out).mono ?_
  rintro e V16 ⟨c16, rfl, he, hb⟩
  refine ⟨_, rfl, hb, ?_⟩
  obtain ⟨n16, hn⟩ : ∃ n, (x + y) % P255 = n := ⟨_, rfl⟩
  rw [hn] at he
  have HE16 : Hid (Elm c16 n16) := he
  have HF16 : Hid (FC n16 ((x : Int) + (y : Int))) := by rw [← hn]; exact HF1.out.add HF2.out
  replace HK0 := hidup (HK0.out.later hb)
  replace HK1 := hidup (HK1.out.later hb)
  replace HK2 := hidup (HK2.out.later hb)
  replace HC1 := hidup (HC1.out.later hb)
  replace HC2 := hidup (HC2.out.later hb)
  replace HC3 := hidup (HC3.out.later hb)
  replace HW := hidup (HW.out.trans (hb.mono HW.out.size))
  clear hb he hn
  go_simp
  refine sched_call (f := 15) (args := #[.agg c16.toArray, .agg c3.toArray]) rfl (by rfl) (by go_simp) ?_
  refine (fadd_any c16 c3 n16 z V16 HE16.out HE3.out).mono ?_
  rintro e V17 ⟨c17, rfl, he, hb⟩
  refine ⟨_, rfl, hb, ?_⟩
  obtain ⟨n17, hn⟩ : ∃ n, (n16 + z) % P255 = n := ⟨_, rfl⟩
  rw [hn] at he
  have HE17 : Hid (Elm c17 n17) := he
  have HF17 : Hid (FC n17 (((x : Int) + (y : Int)) + (z : Int))) := by rw [← hn]; exact HF16.out.add HF3.out
  replace HK0 := hidup (HK0.out.later hb)
  replace HK1 := hidup (HK1.out.later hb)
  replace HK2 := hidup (HK2.out.later hb)
  replace HC1 := hidup (HC1.out.later hb)
  replace HC2 := hidup (HC2.out.later hb)
  replace HC3 := hidup (HC3.out.later hb)
  replace HW := hidup (HW.out.trans (hb.mono HW.out.size))
  clear hb he hn
  go_simp
  refine sched_call (f := 13) (args := #[.agg c17.toArray]) rfl (by rfl) (by go_simp) ?_
  refine (fbytes_any c17 n17 V17 HE17.out).mono ?_
  rintro e V18 ⟨rfl, hb⟩
  refine ⟨_, rfl, hb, ?_⟩
  replace HK0 := hidup (HK0.out.later hb)
  replace HK1 := hidup (HK1.out.later hb)
  replace HK2 := hidup (HK2.out.later hb)
  replace HC1 := hidup (HC1.out.later hb)
  replace HC2 := hidup (HC2.out.later hb)
  replace HC3 := hidup (HC3.out.later hb)
  replace HW := hidup (HW.out.trans (hb.mono HW.out.size))
  clear hb
  go_simp
  refine sched_call (f := 15) (args := #[.agg c2.toArray, .agg c3.toArray]) rfl (by rfl) (by go_simp) ?_
  refine (fadd_any c2 c3 y z V18 HE2.out HE3.out).mono ?_
  rintro e V19 ⟨c19, rfl, he, hb⟩
  refine ⟨_, rfl, hb, ?_⟩
  obtain ⟨n19, hn⟩ : ∃ n, (y + z) % P255 = n := ⟨_, rfl⟩
  rw [hn] at he
  have HE19 : Hid (Elm c19 n19) := he
  have HF19 : Hid (FC n19 ((y : Int) + (z : Int))) := by rw [← hn]; exact HF2.out.add HF3.out
  replace HK0 := hidup (HK0.out.later hb)
  replace HK1 := hidup (HK1.out.later hb)
  replace HK2 := hidup (HK2.out.later hb)
  replace HC1 := hidup (HC1.out.later hb)
  replace HC2 := hidup (HC2.out.later hb)
  replace HC3 := hidup (HC3.out.later hb)
  replace HW := hidup (HW.out.trans (hb.mono HW.out.size))
  clear hb he hn
  go_simp
  refine sched_call (f := 15) (args := #[.agg c1.toArray, .agg c19.toArray]) rfl (by rfl) (by go_simp) ?_
  refine (fadd_any c1 c19 x n19 V19 HE1.out HE19.out).mono ?_
  rintro e V20 ⟨c20, rfl, he, hb⟩
  refine ⟨_, rfl, hb, ?_⟩
  obtain ⟨n20, hn⟩ : ∃ n, (x + n19) % P255 = n := ⟨_, rfl⟩
  rw [hn] at he
  have HE20 : Hid (Elm c20 n20) := he
  have HF20 : Hid (FC n20 ((x : Int) + ((y : Int) + (z : Int)))) := by rw [← hn]; exact HF1.out.add HF19.out
  replace HK0 := hidup (HK0.out.later hb)
  replace HK1 := hidup (HK1.out.later hb)
  replace HK2 := hidup (HK2.out.later hb)
  replace HC1 := hidup (HC1.out.later hb)
  replace HC2 := hidup (HC2.out.later hb)
  replace HC3 := hidup (HC3.out.later hb)
  replace HW := hidup (HW.out.trans (hb.mono HW.out.size))
  clear hb he hn
  go_simp
  refine sched_call (f := 13) (args := #[.agg c20.toArray]) rfl (by rfl) (by go_simp) ?_
  refine (fbytes_any c20 n20 V20 HE20.out).mono ?_
  rintro e V21 ⟨rfl, hb⟩
  refine ⟨_, rfl, hb, ?_⟩
  replace HK0 := hidup (HK0.out.later hb)
  replace HK1 := hidup (HK1.out.later hb)
  replace HK2 := hidup (HK2.out.later hb)
  replace HC1 := hidup (HC1.out.later hb)
  replace HC2 := hidup (HC2.out.later hb)
  replace HC3 := hidup (HC3.out.later hb)
  replace HW := hidup (HW.out.trans (hb.mono HW.out.size))
  clear hb
  go_simp
  have hq22 : Hid (n17 = n20) := FC.eq HF17.out HF20.out (by grind)
  refine sched_take rfl (by rfl) (v := ?_) ?_ ?_; rotate_left; (intro w' hw'; clear hw'; have q1 := key_same w' n17 n20 hq22.out; go_simp; with_reducible rfl); go_simp
  clear hq22
  iterate 2 (refine sched_take rfl (by rfl) (v := ?_) ?_ ?_; rotate_left; (intro w' hw'; clear hw'; go_simp; with_reducible rfl); go_simp)
  refine sched_take rfl (by rfl) (v := .agg c1.toArray) (fun w' hw' => exec_load_row 28 _ rfl g1 rfl 28 _ (0, 0) _ (HC1.out.later hw') Tryd.underlying28 rfl (elm_info HE1.out)) ?_
  go_simp
  refine sched_take rfl (by rfl) (v := .agg c2.toArray) (fun w' hw' => exec_load_row 28 _ rfl g2 rfl 28 _ (0, 0) _ (HC2.out.later hw') Tryd.underlying28 rfl (elm_info HE2.out)) ?_
  go_simp
  refine sched_take rfl (by rfl) (v := .agg c3.toArray) (fun w' hw' => exec_load_row 28 _ rfl g3 rfl 28 _ (0, 0) _ (HC3.out.later hw') Tryd.underlying28 rfl (elm_info HE3.out)) ?_
  go_simp
  refine sched_take rfl (by rfl) (v := .agg c1.toArray) (fun w' hw' => exec_load_row 28 _ rfl g1 rfl 28 _ (0, 0) _ (HC1.out.later hw') Tryd.underlying28 rfl (elm_info HE1.out)) ?_
  go_simp
  refine sched_take rfl (by rfl) (v := .agg c2.toArray) (fun w' hw' => exec_load_row 28 _ rfl g2 rfl 28 _ (0, 0) _ (HC2.out.later hw') Tryd.underlying28 rfl (elm_info HE2.out)) ?_
  go_simp
  refine sched_take rfl (by rfl) (v := .agg c3.toArray) (fun w' hw' => exec_load_row 28 _ rfl g3 rfl 28 _ (0, 0) _ (HC3.out.later hw') Tryd.underlying28 rfl (elm_info HE3.out)) ?_
  go_simp
  refine sched_call (f := 19) (args := #[.agg c1.toArray, .agg c2.toArray]) rfl (by rfl) (by go_simp) ?_
  refine (fmul_any c1 c2 x y V21 HE1.out HE2.out).mono ?_
  rintro e V23 ⟨c23, rfl, he, hb⟩
  refine ⟨_, rfl, hb, ?_⟩
  obtain ⟨n23, hn⟩ : ∃ n, (x * y) % P255 = n := ⟨_, rfl⟩
  rw [hn] at he
  have HE23 : Hid (Elm c23 n23) := he
  have HF23 : Hid (FC n23 ((x : Int) * (y : Int))) := by rw [← hn]; exact HF1.out.mul HF2.out
  replace HK0 := hidup (HK0.out.later hb)
  replace HK1 := hidup (HK1.out.later hb)
  replace HK2 := hidup (HK2.out.later hb)
  replace HC1 := hidup (HC1.out.later hb)
  replace HC2 := hidup (HC2.out.later hb)
  replace HC3 := hidup (HC3.out.later hb)
  replace HW := hidup (HW.out.trans (hb.mono HW.out.size))
  clear hb he hn
  go_simp
  refine sched_call (f := 19) (args := #[.agg c23.toArray, .agg c3.toArray]) rfl (by rfl) (by go_simp) ?_
  refine (fmul_any c23 c3 n23 z V23 HE23.out HE3.out).mono ?_
  rintro e V24 ⟨c24, rfl, he, hb⟩
  refine ⟨_, rfl, hb, ?_⟩
  obtain ⟨n24, hn⟩ : ∃ n, (n23 * z) % P255 = n := ⟨_, rfl⟩
  rw [hn] at he
  have HE24 : Hid (Elm c24 n24) := he
  have HF24 : Hid (FC n24 (((x : Int) * (y : Int)) * (z : Int))) := by rw [← hn]; exact HF23.out.mul HF3.out
  replace HK0 := hidup (HK0.out.later hb)
  replace HK1 := hidup (HK1.out.later hb)
  replace HK2 := hidup (HK2.out.later hb)
  replace HC1 := hidup (HC1.out.later hb)
  replace HC2 := hidup (HC2.out.later hb)
  replace HC3 := hidup (HC3.out.later hb)
  replace HW := hidup (HW.out.trans (hb.mono HW.out.size))
  clear hb he hn
  go_simp
  refine sched_call (f := 13) (args := #[.agg c24.toArray]) rfl (by rfl) (by go_simp) ?_
  refine (fbytes_any c24 n24 V24 HE24.out).mono ?_
  rintro e V25 ⟨rfl, hb⟩
  refine ⟨_, rfl, hb, ?_⟩
  replace HK0 := hidup (HK0.out.later hb)
  replace HK1 := hidup (HK1.out.later hb)
  replace HK2 := hidup (HK2.out.later hb)
  replace HC1 := hidup (HC1.out.later hb)
  replace HC2 := hidup (HC2.out.later hb)
  replace HC3 := hidup (HC3.out.later hb)
  replace HW := hidup (HW.out.trans (hb.mono HW.out.size))
  clear hb
  go_simp
  refine sched_call (f := 19) (args := #[.agg c2.toArray, .agg c3.toArray]) rfl (by rfl) (by go_simp) ?_
  refine (fmul_any c2 c3 y z V25 HE2.out HE3.out).mono ?_
  rintro e V26 ⟨c26, rfl, he, hb⟩
  refine ⟨_, rfl, hb, ?_⟩
  obtain ⟨n26, hn⟩ : ∃ n, (y * z) % P255 = n := ⟨_, rfl⟩
  rw [hn] at he
  have HE26 : Hid (Elm c26 n26) := he
  have HF26 : Hid (FC n26 ((y : Int) * (z : Int))) := by rw [← hn]; exact HF2.out.mul HF3.out
  replace HK0 := hidup (HK0.out.later hb)
  replace HK1 := hidup (HK1.out.later hb)
  replace HK2 := hidup (HK2.out.later hb)
  replace HC1 := hidup (HC1.out.later hb)
  replace HC2 := hidup (HC2.out.later hb)
  replace HC3 := hidup (HC3.out.later hb)
  replace HW := hidup (HW.out.trans (hb.mono HW.out.size))
  clear hb he hn
  go_simp
  refine sched_call (f := 19) (args := #[.agg c1.toArray, .agg c26.toArray]) rfl (by rfl) (by go_simp) ?_
  refine (fmul_any c1 c26 x n26 V26 HE1.out HE26.out).mono ?_
  rintro e V27 ⟨c27, rfl, he, hb⟩
  refine ⟨_, rfl, hb, ?_⟩
  obtain ⟨n27, hn⟩ : ∃ n, (x * n26) % P255 = n := ⟨_, rfl⟩
  rw [hn] at he
  have HE27 : Hid (Elm c27 n27) := he
  have HF27 : Hid (FC n27 ((x : Int) * ((y : Int) * (z : Int)))) := by rw [← hn]; exact HF1.out.mul HF26.out
  replace HK0 := hidup (HK0.out.later hb)
  replace HK1 := hidup (HK1.out.later hb)
  replace HK2 := hidup (HK2.out.later hb)
  replace HC1 := hidup (HC1.out.later hb)
  replace HC2 := hidup (HC2.out.later hb)
  replace HC3 := hidup (HC3.out.later hb)
  replace HW := hidup (HW.out.trans (hb.mono HW.out.size))
  clear hb he hn
  go_simp
  refine sched_call (f := 13) (args := #[.agg c27.toArray]) rfl (by rfl) (by go_simp) ?_
  refine (fbytes_any c27 n27 V27 HE27.out).mono ?_
  rintro e V28 ⟨rfl, hb⟩
  refine ⟨_, rfl, hb, ?_⟩
  replace HK0 := hidup (HK0.out.later hb)
  replace HK1 := hidup (HK1.out.later hb)
  replace HK2 := hidup (HK2.out.later hb)
  replace HC1 := hidup (HC1.out.later hb)
  replace HC2 := hidup (HC2.out.later hb)
  replace HC3 := hidup (HC3.out.later hb)
  replace HW := hidup (HW.out.trans (hb.mono HW.out.size))
  clear hb
  go_simp
  have hq29 : Hid (n24 = n27) := FC.eq HF24.out HF27.out (by grind)
  refine sched_take rfl (by rfl) (v := ?_) ?_ ?_; rotate_left; (intro w' hw'; clear hw'; have q1 := key_same w' n24 n27 hq29.out; go_simp; with_reducible rfl); go_simp
  clear hq29
  iterate 1 (refine sched_take rfl (by rfl) (v := ?_) ?_ ?_; rotate_left; (intro w' hw'; clear hw'; go_simp; with_reducible rfl); go_simp)
  refine sched_done hKK5 ?_
  clear hKK5 HWd
  go_wp2
  obtain ⟨W30, hWd⟩ : ∃ W, V28.drew = W := ⟨_, rfl⟩
  have HWd : Hid (V28.drew = W30) := hWd
  have hdr : Below V28.heap.size V28 W30 := by rw [← hWd]; exact (Below.refl _ _).drew
  replace HK0 := hidup (HK0.out.later hdr)
  replace HK1 := hidup (HK1.out.later hdr)
  replace HK2 := hidup (HK2.out.later hdr)
  replace HC1 := hidup (HC1.out.later hdr)
  replace HC2 := hidup (HC2.out.later hdr)
  replace HC3 := hidup (HC3.out.later hdr)
  replace HW := hidup (HW.out.trans (hdr.mono HW.out.size))
  clear hdr hWd
  refine wp_region_sched' (G := Grows) (by kernel_rfl) Grows.refl Grows.trans (by kernel_rfl) [(0, true), (1, true), (2, true), (3, true), (5, true), (8, true), (9, true), (11, true), (12, true), (4, false), (6, false), (7, false), (10, false), (13, false), (14, false), (15, false), (16, true), (17, true), (18, true), (19, true), (20, true), (22, true), (25, true), (21, false), (23, false), (24, false), (26, false), (27, true), (28, true), (29, true), (30, true), (31, true), (34, true), (32, false), (33, false), (35, true), (36, true), (37, true)] rfl (by kernel_rfl) ?_
  intro KK31 hKK31
  rw [HWd.out]
  iterate 2 (refine sched_take rfl (by rfl) (v := ?_) ?_ ?_; rotate_left; (intro w' hw'; clear hw'; go_simp; with_reducible rfl); go_simp)
  refine sched_take rfl (by rfl) (v := .agg c1.toArray) (fun w' hw' => exec_load_row 28 _ rfl g1 rfl 28 _ (0, 0) _ (HC1.out.later hw') Tryd.underlying28 rfl (elm_info HE1.out)) ?_
  go_simp
  refine sched_take rfl (by rfl) (v := .agg c2.toArray) (fun w' hw' => exec_load_row 28 _ rfl g2 rfl 28 _ (0, 0) _ (HC2.out.later hw') Tryd.underlying28 rfl (elm_info HE2.out)) ?_
  go_simp
  refine sched_take rfl (by rfl) (v := .agg c3.toArray) (fun w' hw' => exec_load_row 28 _ rfl g3 rfl 28 _ (0, 0) _ (HC3.out.later hw') Tryd.underlying28 rfl (elm_info HE3.out)) ?_
  go_simp
  refine sched_take rfl (by rfl) (v := .agg c1.toArray) (fun w' hw' => exec_load_row 28 _ rfl g1 rfl 28 _ (0, 0) _ (HC1.out.later hw') Tryd.underlying28 rfl (elm_info HE1.out)) ?_
  go_simp
  refine sched_take rfl (by rfl) (v := .agg c3.toArray) (fun w' hw' => exec_load_row 28 _ rfl g3 rfl 28 _ (0, 0) _ (HC3.out.later hw') Tryd.underlying28 rfl (elm_info HE3.out)) ?_
  go_simp
  refine sched_take rfl (by rfl) (v := .agg c2.toArray) (fun w' hw' => exec_load_row 28 _ rfl g2 rfl 28 _ (0, 0) _ (HC2.out.later hw') Tryd.underlying28 rfl (elm_info HE2.out)) ?_
  go_simp
  refine sched_take rfl (by rfl) (v := .agg c3.toArray) (fun w' hw' => exec_load_row 28 _ rfl g3 rfl 28 _ (0, 0) _ (HC3.out.later hw') Tryd.underlying28 rfl (elm_info HE3.out)) ?_
  go_simp
  refine sched_call (f := 15) (args := #[.agg c1.toArray, .agg c2.toArray]) rfl (by rfl) (by go_simp) ?_
  refine (fadd_any c1 c2 x y W30 HE1.out HE2.out).mono ?_
  rintro e V32 ⟨c32, rfl, he, hb⟩
  refine ⟨_, rfl, hb, ?_⟩
  obtain ⟨n32, hn⟩ : ∃ n, (x + y) % P255 = n := ⟨_, rfl⟩
  rw [hn] at he
  have HE32 : Hid (Elm c32 n32) := he
  have HF32 : Hid (FC n32 ((x : Int) + (y : Int))) := by rw [← hn]; exact HF1.out.add HF2.out
  replace HK0 := hidup (HK0.out.later hb)
  replace HK1 := hidup (HK1.out.later hb)
  replace HK2 := hidup (HK2.out.later hb)
  replace HC1 := hidup (HC1.out.later hb)
  replace HC2 := hidup (HC2.out.later hb)
  replace HC3 := hidup (HC3.out.later hb)
  replace HW := hidup (HW.out.trans (hb.mono HW.out.size))
  clear hb he hn
  go_simp
  refine sched_call (f := 19) (args := #[.agg c32.toArray, .agg c3.toArray]) rfl (by rfl) (by go_simp) ?_
  refine (fmul_any c32 c3 n32 z V32 HE32.out HE3.out).mono ?_
  rintro e V33 ⟨c33, rfl, he, hb⟩
  refine ⟨_, rfl, hb, ?_⟩
  obtain ⟨n33, hn⟩ : ∃ n, (n32 * z) % P255 = n := ⟨_, rfl⟩
  rw [hn] at he
  have HE33 : Hid (Elm c33 n33) := he
  have HF33 : Hid (FC n33 (((x : Int) + (y : Int)) * (z : Int))) := by rw [← hn]; exact HF32.out.mul HF3.out
  replace HK0 := hidup (HK0.out.later hb)
  replace HK1 := hidup (HK1.out.later hb)
  replace HK2 := hidup (HK2.out.later hb)
  replace HC1 := hidup (HC1.out.later hb)
  replace HC2 := hidup (HC2.out.later hb)
  replace HC3 := hidup (HC3.out.later hb)
  replace HW := hidup (HW.out.trans (hb.mono HW.out.size))
  clear hb he hn
  go_simp
  refine sched_call (f := 13) (args := #[.agg c33.toArray]) rfl (by rfl) (by go_simp) ?_
  refine (fbytes_any c33 n33 V33 HE33.out).mono ?_
  rintro e V34 ⟨rfl, hb⟩
  refine ⟨_, rfl, hb, ?_⟩
  replace HK0 := hidup (HK0.out.later hb)
  replace HK1 := hidup (HK1.out.later hb)
  replace HK2 := hidup (HK2.out.later hb)
  replace HC1 := hidup (HC1.out.later hb)
  replace HC2 := hidup (HC2.out.later hb)
  replace HC3 := hidup (HC3.out.later hb)
  replace HW := hidup (HW.out.trans (hb.mono HW.out.size))
  clear hb
  go_simp
  refine sched_call (f := 19) (args := #[.agg c1.toArray, .agg c3.toArray]) rfl (by rfl) (by go_simp) ?_
  refine (fmul_any c1 c3 x z V34 HE1.out HE3.out).mono ?_
  rintro e V35 ⟨c35, rfl, he, hb⟩
  refine ⟨_, rfl, hb, ?_⟩
  obtain ⟨n35, hn⟩ : ∃ n, (x * z) % P255 = n := ⟨_, rfl⟩
  rw [hn] at he
  have HE35 : Hid (Elm c35 n35) := he
  have HF35 : Hid (FC n35 ((x : Int) * (z : Int))) := by rw [← hn]; exact HF1.out.mul HF3.out
  replace HK0 := hidup (HK0.out.later hb)
  replace HK1 := hidup (HK1.out.later hb)
  replace HK2 := hidup (HK2.out.later hb)
  replace HC1 := hidup (HC1.out.later hb)
  replace HC2 := hidup (HC2.out.later hb)
  replace HC3 := hidup (HC3.out.later hb)
  replace HW := hidup (HW.out.trans (hb.mono HW.out.size))
  clear hb he hn
  go_simp
  refine sched_call (f := 19) (args := #[.agg c2.toArray, .agg c3.toArray]) rfl (by rfl) (by go_simp) ?_
  refine (fmul_any c2 c3 y z V35 HE2.out HE3.out).mono ?_
  rintro e V36 ⟨c36, rfl, he, hb⟩
  refine ⟨_, rfl, hb, ?_⟩
  obtain ⟨n36, hn⟩ : ∃ n, (y * z) % P255 = n := ⟨_, rfl⟩
  rw [hn] at he
  have HE36 : Hid (Elm c36 n36) := he
  have HF36 : Hid (FC n36 ((y : Int) * (z : Int))) := by rw [← hn]; exact HF2.out.mul HF3.out
  replace HK0 := hidup (HK0.out.later hb)
  replace HK1 := hidup (HK1.out.later hb)
  replace HK2 := hidup (HK2.out.later hb)
  replace HC1 := hidup (HC1.out.later hb)
  replace HC2 := hidup (HC2.out.later hb)
  replace HC3 := hidup (HC3.out.later hb)
  replace HW := hidup (HW.out.trans (hb.mono HW.out.size))
  clear hb he hn
  go_simp
  refine sched_call (f := 15) (args := #[.agg c35.toArray, .agg c36.toArray]) rfl (by rfl) (by go_simp) ?_
  refine (fadd_any c35 c36 n35 n36 V36 HE35.out HE36.out).mono ?_
  rintro e V37 ⟨c37, rfl, he, hb⟩
  refine ⟨_, rfl, hb, ?_⟩
  obtain ⟨n37, hn⟩ : ∃ n, (n35 + n36) % P255 = n := ⟨_, rfl⟩
  rw [hn] at he
  have HE37 : Hid (Elm c37 n37) := he
  have HF37 : Hid (FC n37 (((x : Int) * (z : Int)) + ((y : Int) * (z : Int)))) := by rw [← hn]; exact HF35.out.add HF36.out
  replace HK0 := hidup (HK0.out.later hb)
  replace HK1 := hidup (HK1.out.later hb)
  replace HK2 := hidup (HK2.out.later hb)
  replace HC1 := hidup (HC1.out.later hb)
  replace HC2 := hidup (HC2.out.later hb)
  replace HC3 := hidup (HC3.out.later hb)
  replace HW := hidup (HW.out.trans (hb.mono HW.out.size))
  clear hb he hn
  go_simp
  refine sched_call (f := 13) (args := #[.agg c37.toArray]) rfl (by rfl) (by go_simp) ?_
  refine (fbytes_any c37 n37 V37 HE37.out).mono ?_
  rintro e V38 ⟨rfl, hb⟩
  refine ⟨_, rfl, hb, ?_⟩
  replace HK0 := hidup (HK0.out.later hb)
  replace HK1 := hidup (HK1.out.later hb)
  replace HK2 := hidup (HK2.out.later hb)
  replace HC1 := hidup (HC1.out.later hb)
  replace HC2 := hidup (HC2.out.later hb)
  replace HC3 := hidup (HC3.out.later hb)
  replace HW := hidup (HW.out.trans (hb.mono HW.out.size))
  clear hb
  go_simp
  have hq39 : Hid (n33 = n37) := FC.eq HF33.out HF37.out (by grind)
  refine sched_take rfl (by rfl) (v := ?_) ?_ ?_; rotate_left; (intro w' hw'; clear hw'; have q1 := key_same w' n33 n37 hq39.out; go_simp; with_reducible rfl); go_simp
  clear hq39
  iterate 2 (refine sched_take rfl (by rfl) (v := ?_) ?_ ?_; rotate_left; (intro w' hw'; clear hw'; go_simp; with_reducible rfl); go_simp)
  refine sched_take rfl (by rfl) (v := .agg c1.toArray) (fun w' hw' => exec_load_row 28 _ rfl g1 rfl 28 _ (0, 0) _ (HC1.out.later hw') Tryd.underlying28 rfl (elm_info HE1.out)) ?_
  go_simp
  refine sched_take rfl (by rfl) (v := .agg c2.toArray) (fun w' hw' => exec_load_row 28 _ rfl g2 rfl 28 _ (0, 0) _ (HC2.out.later hw') Tryd.underlying28 rfl (elm_info HE2.out)) ?_
  go_simp
  refine sched_take rfl (by rfl) (v := .agg c2.toArray) (fun w' hw' => exec_load_row 28 _ rfl g2 rfl 28 _ (0, 0) _ (HC2.out.later hw') Tryd.underlying28 rfl (elm_info HE2.out)) ?_
  go_simp
  refine sched_take rfl (by rfl) (v := .agg c1.toArray) (fun w' hw' => exec_load_row 28 _ rfl g1 rfl 28 _ (0, 0) _ (HC1.out.later hw') Tryd.underlying28 rfl (elm_info HE1.out)) ?_
  go_simp
  refine sched_call (f := 15) (args := #[.agg c1.toArray, .agg c2.toArray]) rfl (by rfl) (by go_simp) ?_
  refine (fadd_any c1 c2 x y V38 HE1.out HE2.out).mono ?_
  rintro e V40 ⟨c40, rfl, he, hb⟩
  refine ⟨_, rfl, hb, ?_⟩
  obtain ⟨n40, hn⟩ : ∃ n, (x + y) % P255 = n := ⟨_, rfl⟩
  rw [hn] at he
  have HE40 : Hid (Elm c40 n40) := he
  have HF40 : Hid (FC n40 ((x : Int) + (y : Int))) := by rw [← hn]; exact HF1.out.add HF2.out
  replace HK0 := hidup (HK0.out.later hb)
  replace HK1 := hidup (HK1.out.later hb)
  replace HK2 := hidup (HK2.out.later hb)
  replace HC1 := hidup (HC1.out.later hb)
  replace HC2 := hidup (HC2.out.later hb)
  replace HC3 := hidup (HC3.out.later hb)
  replace HW := hidup (HW.out.trans (hb.mono HW.out.size))
  clear hb he hn
  go_simp
  refine sched_call (f := 17) (args := #[.agg c40.toArray, .agg c2.toArray]) rfl (by rfl) (by go_simp) ?_
  refine (fsub_any c40 c2 n40 y V40 HE40.out HE2.out (HTab.out.later HW.out)).mono ?_
  rintro e V41 ⟨c41, rfl, he, hb⟩
  refine ⟨_, rfl, hb, ?_⟩
  obtain ⟨n41, hn⟩ : ∃ n, (n40 + (P255 - y)) % P255 = n := ⟨_, rfl⟩
  rw [hn] at he
  have HE41 : Hid (Elm c41 n41) := he
  have HF41 : Hid (FC n41 (((x : Int) + (y : Int)) - (y : Int))) := by rw [← hn]; exact HF40.out.sub HF2.out
  replace HK0 := hidup (HK0.out.later hb)
  replace HK1 := hidup (HK1.out.later hb)
  replace HK2 := hidup (HK2.out.later hb)
  replace HC1 := hidup (HC1.out.later hb)
  replace HC2 := hidup (HC2.out.later hb)
  replace HC3 := hidup (HC3.out.later hb)
  replace HW := hidup (HW.out.trans (hb.mono HW.out.size))
  clear hb he hn
  go_simp
  refine sched_call (f := 13) (args := #[.agg c41.toArray]) rfl (by rfl) (by go_simp) ?_
  refine (fbytes_any c41 n41 V41 HE41.out).mono ?_
  rintro e V42 ⟨rfl, hb⟩
  refine ⟨_, rfl, hb, ?_⟩
  replace HK0 := hidup (HK0.out.later hb)
  replace HK1 := hidup (HK1.out.later hb)
  replace HK2 := hidup (HK2.out.later hb)
  replace HC1 := hidup (HC1.out.later hb)
  replace HC2 := hidup (HC2.out.later hb)
  replace HC3 := hidup (HC3.out.later hb)
  replace HW := hidup (HW.out.trans (hb.mono HW.out.size))
  clear hb
  go_simp
  refine sched_call (f := 13) (args := #[.agg c1.toArray]) rfl (by rfl) (by go_simp) ?_
  refine (fbytes_any c1 x V42 HE1.out).mono ?_
  rintro e V43 ⟨rfl, hb⟩
  refine ⟨_, rfl, hb, ?_⟩
  replace HK0 := hidup (HK0.out.later hb)
  replace HK1 := hidup (HK1.out.later hb)
  replace HK2 := hidup (HK2.out.later hb)
  replace HC1 := hidup (HC1.out.later hb)
  replace HC2 := hidup (HC2.out.later hb)
  replace HC3 := hidup (HC3.out.later hb)
  replace HW := hidup (HW.out.trans (hb.mono HW.out.size))
  clear hb
  go_simp
  have hq44 : Hid (n41 = x) := FC.eq HF41.out HF1.out (by grind)
  refine sched_take rfl (by rfl) (v := ?_) ?_ ?_; rotate_left; (intro w' hw'; clear hw'; have q1 := key_same w' n41 x hq44.out; go_simp; with_reducible rfl); go_simp
  clear hq44
  iterate 2 (refine sched_take rfl (by rfl) (v := ?_) ?_ ?_; rotate_left; (intro w' hw'; clear hw'; go_simp; with_reducible rfl); go_simp)
  refine sched_take rfl (by rfl) (v := .agg c1.toArray) (fun w' hw' => exec_load_row 28 _ rfl g1 rfl 28 _ (0, 0) _ (HC1.out.later hw') Tryd.underlying28 rfl (elm_info HE1.out)) ?_
  go_simp
  refine sched_take rfl (by rfl) (v := .agg c1.toArray) (fun w' hw' => exec_load_row 28 _ rfl g1 rfl 28 _ (0, 0) _ (HC1.out.later hw') Tryd.underlying28 rfl (elm_info HE1.out)) ?_
  go_simp
  iterate 1 (refine sched_take rfl (by rfl) (v := ?_) ?_ ?_; rotate_left; (intro w' hw'; clear hw'; go_simp; with_reducible rfl); go_simp)
  refine sched_call (f := 17) (args := #[.agg c1.toArray, .agg c1.toArray]) rfl (by rfl) (by go_simp) ?_
  refine (fsub_any c1 c1 x x V43 HE1.out HE1.out (HTab.out.later HW.out)).mono ?_
  rintro e V45 ⟨c45, rfl, he, hb⟩
  refine ⟨_, rfl, hb, ?_⟩
  obtain ⟨n45, hn⟩ : ∃ n, (x + (P255 - x)) % P255 = n := ⟨_, rfl⟩
  rw [hn] at he
  have HE45 : Hid (Elm c45 n45) := he
  have HF45 : Hid (FC n45 ((x : Int) - (x : Int))) := by rw [← hn]; exact HF1.out.sub HF1.out
  replace HK0 := hidup (HK0.out.later hb)
  replace HK1 := hidup (HK1.out.later hb)
  replace HK2 := hidup (HK2.out.later hb)
  replace HC1 := hidup (HC1.out.later hb)
  replace HC2 := hidup (HC2.out.later hb)
  replace HC3 := hidup (HC3.out.later hb)
  replace HW := hidup (HW.out.trans (hb.mono HW.out.size))
  clear hb he hn
  go_simp
  refine sched_call (f := 13) (args := #[.agg c45.toArray]) rfl (by rfl) (by go_simp) ?_
  refine (fbytes_any c45 n45 V45 HE45.out).mono ?_
  rintro e V46 ⟨rfl, hb⟩
  refine ⟨_, rfl, hb, ?_⟩
  replace HK0 := hidup (HK0.out.later hb)
  replace HK1 := hidup (HK1.out.later hb)
  replace HK2 := hidup (HK2.out.later hb)
  replace HC1 := hidup (HC1.out.later hb)
  replace HC2 := hidup (HC2.out.later hb)
  replace HC3 := hidup (HC3.out.later hb)
  replace HW := hidup (HW.out.trans (hb.mono HW.out.size))
  clear hb
  go_simp
  have hq47 : Hid (n45 = 0) := FC.eq HF45.out (FC.self P255_pos) (by grind)
  refine sched_take rfl (by rfl) (v := ?_) ?_ ?_; rotate_left; (intro w' hw'; clear hw'; have q1 := key_null w' n45 hq47.out; go_simp; with_reducible rfl); go_simp
  clear hq47
  iterate 2 (refine sched_take rfl (by rfl) (v := ?_) ?_ ?_; rotate_left; (intro w' hw'; clear hw'; go_simp; with_reducible rfl); go_simp)
  refine sched_done hKK31 ?_
  clear hKK31 HWd
  go_wp2
  go_ret
  exact ⟨rfl, HW.out⟩
end Go.Proofs.YtgggdcliepgahaaDoor.fieldRing
