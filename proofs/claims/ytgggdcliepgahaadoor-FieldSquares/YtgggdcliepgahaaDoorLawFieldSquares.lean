/- FieldSquares. For every 2 keys, without a condition. -/
import Derived.Test.YtgggdcliepgahaaDoorFieldShown
namespace Go.Proofs.YtgggdcliepgahaaDoor.fieldSquares
open Go.ChangeShapes Go.WideShapes Go.ChangeAt Go.RowKit
set_option linter.unusedVariables false

set_option maxHeartbeats 8000000 in
set_option maxRecDepth 100000 in
theorem walk (l0 l1 : List UInt8) (w : World) (w0 : l0.length = 32) (w1 : l1.length = 32) (htab : FTab w) :
    Calls Tryd.prog 7 #[.agg (l0.map bv).toArray, .agg (l1.map bv).toArray] w fun e w' => e = .returned (.bool true) ∧ Below w.heap.size w w' := by
  have HTab : Hid (FTab w) := htab
  clear htab
  have hIK0 : Hid ((Tryd.prog.info? 23).map (·.size) = some (l0.map bv).toArray.size) := info_size (n := 32) (by kernel_rfl) l0 w0
  have hIK1 : Hid ((Tryd.prog.info? 23).map (·.size) = some (l1.map bv).toArray.size) := info_size (n := 32) (by kernel_rfl) l1 w1
  go_enter Tryd.func7, Tryd.ntmps7
  go_wp2_with fail
  refine (fshown_any _).mono ?_
  rintro e V0 ⟨rfl, hb⟩
  obtain ⟨hk0, hk1, hbw⟩ := keys2 w l0 l1
  have HK0 : Hid (Arr V0 w.heap.size 23 l0) := hk0.later hb
  have HK1 : Hid (Arr V0 (w.heap.size + 1) 23 l1) := hk1.later hb
  have HW : Hid (Below w.heap.size w V0) := hbw.trans (hb.mono hbw.size)
  clear hb hbw hk0 hk1
  go_wp2_with (first | refine wpList_load_row rfl 23 _ rfl w.heap.size rfl 23 _ (0, 0) _ HK0.out Tryd.underlying23 rfl hIK0.out ?_ | refine wpList_load_row rfl 23 _ rfl (w.heap.size + 1) rfl 23 _ (0, 0) _ HK1.out Tryd.underlying23 rfl hIK1.out ?_ | fail)
  refine (ffrom_any l0 _ w0).mono ?_
  rintro e V1 ⟨c1, rfl, he, hb⟩
  obtain ⟨x, hn⟩ : ∃ n, leN l0 % 2 ^ 255 % P255 = n := ⟨_, rfl⟩
  rw [hn] at he
  have HE1 : Hid (Elm c1 x) := he
  have HF1 : Hid (FC x (x : Int)) := FC.self he.lt
  have hlen1 := he.len
  have hst := elm_store V1 he
  have hC := Cel.new V1 c1
  obtain ⟨W1, hW⟩ : ∃ W, V1.alloc (.cells c1.toArray 28) = W := ⟨_, rfl⟩
  rw [hW] at hst hC
  have hbW : Below V0.heap.size V0 W1 := by rw [← hW]; exact hb.alloc hb.size _
  replace HK0 := hidup (HK0.out.later hbW)
  replace HK1 := hidup (HK1.out.later hbW)
  replace HW := hidup (HW.out.trans (hbW.mono HW.out.size))
  have HC1 : Hid (Cel W1 V1.heap.size c1) := hC
  clear he hb hbW hC hW hn
  go_wp2_with (first | refine wpList_load_row rfl 23 _ rfl w.heap.size rfl 23 _ (0, 0) _ HK0.out Tryd.underlying23 rfl hIK0.out ?_ | refine wpList_load_row rfl 23 _ rfl (w.heap.size + 1) rfl 23 _ (0, 0) _ HK1.out Tryd.underlying23 rfl hIK1.out ?_ | refine wpList_load_row rfl 28 _ rfl V1.heap.size rfl 28 _ (0, 0) _ HC1.out Tryd.underlying28 rfl (elm_info HE1.out) ?_ | fail)
  clear hst
  generalize V1.heap.size = g1 at HC1 ⊢
  refine (ffrom_any l1 _ w1).mono ?_
  rintro e V2 ⟨c2, rfl, he, hb⟩
  obtain ⟨y, hn⟩ : ∃ n, leN l1 % 2 ^ 255 % P255 = n := ⟨_, rfl⟩
  rw [hn] at he
  have HE2 : Hid (Elm c2 y) := he
  have HF2 : Hid (FC y (y : Int)) := FC.self he.lt
  have hlen2 := he.len
  have hst := elm_store V2 he
  have hC := Cel.new V2 c2
  obtain ⟨W2, hW⟩ : ∃ W, V2.alloc (.cells c2.toArray 28) = W := ⟨_, rfl⟩
  rw [hW] at hst hC
  have hbW : Below W1.heap.size W1 W2 := by rw [← hW]; exact hb.alloc hb.size _
  replace HK0 := hidup (HK0.out.later hbW)
  replace HK1 := hidup (HK1.out.later hbW)
  replace HC1 := hidup (HC1.out.later hbW)
  replace HW := hidup (HW.out.trans (hbW.mono HW.out.size))
  have HC2 : Hid (Cel W2 V2.heap.size c2) := hC
  clear he hb hbW hC hW hn
  go_wp2_with (first | refine wpList_load_row rfl 23 _ rfl w.heap.size rfl 23 _ (0, 0) _ HK0.out Tryd.underlying23 rfl hIK0.out ?_ | refine wpList_load_row rfl 23 _ rfl (w.heap.size + 1) rfl 23 _ (0, 0) _ HK1.out Tryd.underlying23 rfl hIK1.out ?_ | refine wpList_load_row rfl 28 _ rfl g1 rfl 28 _ (0, 0) _ HC1.out Tryd.underlying28 rfl (elm_info HE1.out) ?_ | refine wpList_load_row rfl 28 _ rfl V2.heap.size rfl 28 _ (0, 0) _ HC2.out Tryd.underlying28 rfl (elm_info HE2.out) ?_ | fail)
  clear hst
  generalize V2.heap.size = g2 at HC2 ⊢
  refine (fadd_any c1 c2 x y _ HE1.out HE2.out).mono ?_
  rintro e V3 ⟨c3, rfl, he, hb⟩
  obtain ⟨s, hn⟩ : ∃ n, (x + y) % P255 = n := ⟨_, rfl⟩
  rw [hn] at he
  have HE3 : Hid (Elm c3 s) := he
  have HF3 : Hid (FC s ((x : Int) + (y : Int))) := by rw [← hn]; exact HF1.out.add HF2.out
  have hlen3 := he.len
  have hst := elm_store V3 he
  have hC := Cel.new V3 c3
  obtain ⟨W3, hW⟩ : ∃ W, V3.alloc (.cells c3.toArray 28) = W := ⟨_, rfl⟩
  rw [hW] at hst hC
  have hbW : Below W2.heap.size W2 W3 := by rw [← hW]; exact hb.alloc hb.size _
  replace HK0 := hidup (HK0.out.later hbW)
  replace HK1 := hidup (HK1.out.later hbW)
  replace HC1 := hidup (HC1.out.later hbW)
  replace HC2 := hidup (HC2.out.later hbW)
  replace HW := hidup (HW.out.trans (hbW.mono HW.out.size))
  have HC3 : Hid (Cel W3 V3.heap.size c3) := hC
  clear he hb hbW hC hW hn
  go_wp2_with (first | refine wpList_load_row rfl 23 _ rfl w.heap.size rfl 23 _ (0, 0) _ HK0.out Tryd.underlying23 rfl hIK0.out ?_ | refine wpList_load_row rfl 23 _ rfl (w.heap.size + 1) rfl 23 _ (0, 0) _ HK1.out Tryd.underlying23 rfl hIK1.out ?_ | refine wpList_load_row rfl 28 _ rfl g1 rfl 28 _ (0, 0) _ HC1.out Tryd.underlying28 rfl (elm_info HE1.out) ?_ | refine wpList_load_row rfl 28 _ rfl g2 rfl 28 _ (0, 0) _ HC2.out Tryd.underlying28 rfl (elm_info HE2.out) ?_ | refine wpList_load_row rfl 28 _ rfl V3.heap.size rfl 28 _ (0, 0) _ HC3.out Tryd.underlying28 rfl (elm_info HE3.out) ?_ | fail)
  clear hst
  generalize V3.heap.size = g3 at HC3 ⊢
  refine (fsub_any c1 c2 x y _ HE1.out HE2.out (HTab.out.later HW.out)).mono ?_
  rintro e V4 ⟨c4, rfl, he, hb⟩
  obtain ⟨d, hn⟩ : ∃ n, (x + (P255 - y)) % P255 = n := ⟨_, rfl⟩
  rw [hn] at he
  have HE4 : Hid (Elm c4 d) := he
  have HF4 : Hid (FC d ((x : Int) - (y : Int))) := by rw [← hn]; exact HF1.out.sub HF2.out
  have hlen4 := he.len
  have hst := elm_store V4 he
  have hC := Cel.new V4 c4
  obtain ⟨W4, hW⟩ : ∃ W, V4.alloc (.cells c4.toArray 28) = W := ⟨_, rfl⟩
  rw [hW] at hst hC
  have hbW : Below W3.heap.size W3 W4 := by rw [← hW]; exact hb.alloc hb.size _
  replace HK0 := hidup (HK0.out.later hbW)
  replace HK1 := hidup (HK1.out.later hbW)
  replace HC1 := hidup (HC1.out.later hbW)
  replace HC2 := hidup (HC2.out.later hbW)
  replace HC3 := hidup (HC3.out.later hbW)
  replace HW := hidup (HW.out.trans (hbW.mono HW.out.size))
  have HC4 : Hid (Cel W4 V4.heap.size c4) := hC
  clear he hb hbW hC hW hn
  go_wp2_with (first | refine wpList_load_row rfl 23 _ rfl w.heap.size rfl 23 _ (0, 0) _ HK0.out Tryd.underlying23 rfl hIK0.out ?_ | refine wpList_load_row rfl 23 _ rfl (w.heap.size + 1) rfl 23 _ (0, 0) _ HK1.out Tryd.underlying23 rfl hIK1.out ?_ | refine wpList_load_row rfl 28 _ rfl g1 rfl 28 _ (0, 0) _ HC1.out Tryd.underlying28 rfl (elm_info HE1.out) ?_ | refine wpList_load_row rfl 28 _ rfl g2 rfl 28 _ (0, 0) _ HC2.out Tryd.underlying28 rfl (elm_info HE2.out) ?_ | refine wpList_load_row rfl 28 _ rfl g3 rfl 28 _ (0, 0) _ HC3.out Tryd.underlying28 rfl (elm_info HE3.out) ?_ | refine wpList_load_row rfl 28 _ rfl V4.heap.size rfl 28 _ (0, 0) _ HC4.out Tryd.underlying28 rfl (elm_info HE4.out) ?_ | fail)
  clear hst
  generalize V4.heap.size = g4 at HC4 ⊢
  refine (fmul_any c1 c2 x y _ HE1.out HE2.out).mono ?_
  rintro e V5 ⟨c5, rfl, he, hb⟩
  obtain ⟨p, hn⟩ : ∃ n, (x * y) % P255 = n := ⟨_, rfl⟩
  rw [hn] at he
  have HE5 : Hid (Elm c5 p) := he
  have HF5 : Hid (FC p ((x : Int) * (y : Int))) := by rw [← hn]; exact HF1.out.mul HF2.out
  have hlen5 := he.len
  have hst := elm_store V5 he
  have hC := Cel.new V5 c5
  obtain ⟨W5, hW⟩ : ∃ W, V5.alloc (.cells c5.toArray 28) = W := ⟨_, rfl⟩
  rw [hW] at hst hC
  have hbW : Below W4.heap.size W4 W5 := by rw [← hW]; exact hb.alloc hb.size _
  replace HK0 := hidup (HK0.out.later hbW)
  replace HK1 := hidup (HK1.out.later hbW)
  replace HC1 := hidup (HC1.out.later hbW)
  replace HC2 := hidup (HC2.out.later hbW)
  replace HC3 := hidup (HC3.out.later hbW)
  replace HC4 := hidup (HC4.out.later hbW)
  replace HW := hidup (HW.out.trans (hbW.mono HW.out.size))
  have HC5 : Hid (Cel W5 V5.heap.size c5) := hC
  clear he hb hbW hC hW hn
  go_wp2
  clear hst
  generalize V5.heap.size = g5 at HC5 ⊢
  refine wp_cut (fun a W => ∃ (g6 : Nat) (c6_0 : List Value) (n6_0 : Nat) (c6_1 : List Value) (n6_1 : Nat) (c6_2 : List Value) (n6_2 : Nat), a = { tmps := #[.agg (l0.map bv).toArray, .agg (l1.map bv).toArray, .pointer (some ⟨w.heap.size, 0, none⟩), .pointer (some ⟨(w.heap.size + 1), 0, none⟩), .bool false, .bool true, .pointer (some ⟨g1, 0, none⟩), .pointer (some ⟨g2, 0, none⟩), .pointer (some ⟨g3, 0, none⟩), .pointer (some ⟨g4, 0, none⟩), .pointer (some ⟨g5, 0, none⟩), .pointer (some ⟨g6, 0, none⟩), .bool true, .agg (l0.map bv).toArray, .agg c1.toArray, .agg (l1.map bv).toArray, .agg c2.toArray, .agg c1.toArray, .agg c2.toArray, .agg c3.toArray, .agg c1.toArray, .agg c2.toArray, .agg c4.toArray, .agg c1.toArray, .agg c2.toArray, .agg c5.toArray, .agg c1.toArray, .agg c1.toArray, .agg c6_0.toArray, .agg c2.toArray, .agg c2.toArray, .agg c6_1.toArray, .agg c6_2.toArray, undef, undef, undef, undef, undef, undef, undef, undef, undef, undef, undef, undef, undef, undef, undef, undef, undef, undef, undef, undef, undef, undef, undef, undef, undef, undef, undef, undef, undef, undef, undef, undef, undef, undef, undef, undef, undef, undef, undef, undef, undef, undef], defers := [] } ∧ Hid (Elm c6_2 n6_2) ∧ Hid (FC n6_2 (((x : Int) * (x : Int)) + ((y : Int) * (y : Int)))) ∧ Hid (Cel W g6 c6_2) ∧ Hid (Arr W w.heap.size 23 l0) ∧ Hid (Arr W (w.heap.size + 1) 23 l1) ∧ Hid (Cel W g1 c1) ∧ Hid (Cel W g2 c2) ∧ Hid (Cel W g3 c3) ∧ Hid (Cel W g4 c4) ∧ Hid (Cel W g5 c5) ∧ Hid (Below w.heap.size w W)) ?_ ?_
  · obtain ⟨W6, hWd⟩ : ∃ W, W5.drew = W := ⟨_, rfl⟩
    have HWd : Hid (W5.drew = W6) := hWd
    have hdr : Below W5.heap.size W5 W6 := by rw [← hWd]; exact (Below.refl _ _).drew
    replace HK0 := hidup (HK0.out.later hdr)
    replace HK1 := hidup (HK1.out.later hdr)
    replace HC1 := hidup (HC1.out.later hdr)
    replace HC2 := hidup (HC2.out.later hdr)
    replace HC3 := hidup (HC3.out.later hdr)
    replace HC4 := hidup (HC4.out.later hdr)
    replace HC5 := hidup (HC5.out.later hdr)
    replace HW := hidup (HW.out.trans (hdr.mono HW.out.size))
    clear hdr hWd
    obtain ⟨B6, hB⟩ : ∃ B, B = W6.heap.size := ⟨_, rfl⟩
    have LHK0 : w.heap.size < B6 := by rw [hB]; exact HK0.out.lt
    have LHK1 : (w.heap.size + 1) < B6 := by rw [hB]; exact HK1.out.lt
    have LHC1 : g1 < B6 := by rw [hB]; exact HC1.out.lt
    have LHC2 : g2 < B6 := by rw [hB]; exact HC2.out.lt
    have LHC3 : g3 < B6 := by rw [hB]; exact HC3.out.lt
    have LHC4 : g4 < B6 := by rw [hB]; exact HC4.out.lt
    have LHC5 : g5 < B6 := by rw [hB]; exact HC5.out.lt
    have HBs : Hid (B6 ≤ W6.heap.size) := Nat.le_of_eq hB
    have hwB : w.heap.size ≤ B6 := by rw [hB]; exact HW.out.size
    clear hB
    refine sched_begin (G := Below B6) (by kernel_rfl) (fun _ => Below.refl _ _) (fun _ _ _ h k => Below.trans h k) (by kernel_rfl) [(0, true), (1, true), (3, true), (4, true)] 5 #[true, true, false, true, true, false, false, false, false] rfl (by kernel_rfl) ?_
    intro KL hKL
    rw [HWd.out]
    refine sched_take rfl (by rfl) (v := .agg c1.toArray) (fun w' hw' => exec_load_row 28 _ rfl g1 rfl 28 _ (0, 0) _ (HC1.out.below hw' LHC1) Tryd.underlying28 rfl (elm_info HE1.out)) ?_
    go_simp
    refine sched_take rfl (by rfl) (v := .agg c1.toArray) (fun w' hw' => exec_load_row 28 _ rfl g1 rfl 28 _ (0, 0) _ (HC1.out.below hw' LHC1) Tryd.underlying28 rfl (elm_info HE1.out)) ?_
    go_simp
    refine sched_take rfl (by rfl) (v := .agg c2.toArray) (fun w' hw' => exec_load_row 28 _ rfl g2 rfl 28 _ (0, 0) _ (HC2.out.below hw' LHC2) Tryd.underlying28 rfl (elm_info HE2.out)) ?_
    go_simp
    refine sched_take rfl (by rfl) (v := .agg c2.toArray) (fun w' hw' => exec_load_row 28 _ rfl g2 rfl 28 _ (0, 0) _ (HC2.out.below hw' LHC2) Tryd.underlying28 rfl (elm_info HE2.out)) ?_
    go_simp
    refine hKL.out _ _ ?_
    clear hKL HWd
    refine sched_fork [2, 7] (by kernel_rfl) rfl ?_
    intro i hi
    simp only [List.mem_cons, List.not_mem_nil, or_false] at hi
    rcases hi with rfl | rfl
    · refine ⟨_, rfl, by rfl, oper_call (f := 19) (args := #[.agg c1.toArray, .agg c1.toArray]) (by go_simp) ?_⟩
      refine (fmul_any c1 c1 x x W6 HE1.out HE1.out).mono ?_
      rintro e V7 ⟨c6_0, rfl, he, hb⟩
      refine ⟨_, rfl, hb.mono HBs.out, ?_⟩
      obtain ⟨n6_0, hn⟩ : ∃ n, (x * x) % P255 = n := ⟨_, rfl⟩
      rw [hn] at he
      have HE6_0 : Hid (Elm c6_0 n6_0) := he
      have HF6_0 : Hid (FC n6_0 ((x : Int) * (x : Int))) := by rw [← hn]; exact HF1.out.mul HF1.out
      replace HBs : Hid (B6 ≤ V7.heap.size) := Nat.le_trans HBs.out hb.size
      replace HK0 := hidup (HK0.out.later hb)
      replace HK1 := hidup (HK1.out.later hb)
      replace HC1 := hidup (HC1.out.later hb)
      replace HC2 := hidup (HC2.out.later hb)
      replace HC3 := hidup (HC3.out.later hb)
      replace HC4 := hidup (HC4.out.later hb)
      replace HC5 := hidup (HC5.out.later hb)
      replace HW := hidup (HW.out.trans (hb.mono HW.out.size))
      clear hb he hn
      refine sched_fork [5, 7] (by kernel_rfl) rfl ?_
      intro i hi
      simp only [List.mem_cons, List.not_mem_nil, or_false] at hi
      rcases hi with rfl | rfl
      · refine ⟨_, rfl, by rfl, oper_call (f := 19) (args := #[.agg c2.toArray, .agg c2.toArray]) (by go_simp) ?_⟩
        refine (fmul_any c2 c2 y y V7 HE2.out HE2.out).mono ?_
        rintro e V8 ⟨c6_1, rfl, he, hb⟩
        refine ⟨_, rfl, hb.mono HBs.out, ?_⟩
        obtain ⟨n6_1, hn⟩ : ∃ n, (y * y) % P255 = n := ⟨_, rfl⟩
        rw [hn] at he
        have HE6_1 : Hid (Elm c6_1 n6_1) := he
        have HF6_1 : Hid (FC n6_1 ((y : Int) * (y : Int))) := by rw [← hn]; exact HF2.out.mul HF2.out
        replace HBs : Hid (B6 ≤ V8.heap.size) := Nat.le_trans HBs.out hb.size
        replace HK0 := hidup (HK0.out.later hb)
        replace HK1 := hidup (HK1.out.later hb)
        replace HC1 := hidup (HC1.out.later hb)
        replace HC2 := hidup (HC2.out.later hb)
        replace HC3 := hidup (HC3.out.later hb)
        replace HC4 := hidup (HC4.out.later hb)
        replace HC5 := hidup (HC5.out.later hb)
        replace HW := hidup (HW.out.trans (hb.mono HW.out.size))
        clear hb he hn
        refine sched_fork [6, 7] (by kernel_rfl) rfl ?_
        intro i hi
        simp only [List.mem_cons, List.not_mem_nil, or_false] at hi
        rcases hi with rfl | rfl
        · refine ⟨_, rfl, by rfl, oper_call (f := 15) (args := #[.agg c6_0.toArray, .agg c6_1.toArray]) (by go_simp) ?_⟩
          refine (fadd_any c6_0 c6_1 n6_0 n6_1 V8 HE6_0.out HE6_1.out).mono ?_
          rintro e V9 ⟨c6_2, rfl, he, hb⟩
          refine ⟨_, rfl, hb.mono HBs.out, ?_⟩
          obtain ⟨n6_2, hn⟩ : ∃ n, (n6_0 + n6_1) % P255 = n := ⟨_, rfl⟩
          rw [hn] at he
          have HE6_2 : Hid (Elm c6_2 n6_2) := he
          have HF6_2 : Hid (FC n6_2 (((x : Int) * (x : Int)) + ((y : Int) * (y : Int)))) := by rw [← hn]; exact HF6_0.out.add HF6_1.out
          replace HBs : Hid (B6 ≤ V9.heap.size) := Nat.le_trans HBs.out hb.size
          replace HK0 := hidup (HK0.out.later hb)
          replace HK1 := hidup (HK1.out.later hb)
          replace HC1 := hidup (HC1.out.later hb)
          replace HC2 := hidup (HC2.out.later hb)
          replace HC3 := hidup (HC3.out.later hb)
          replace HC4 := hidup (HC4.out.later hb)
          replace HC5 := hidup (HC5.out.later hb)
          replace HW := hidup (HW.out.trans (hb.mono HW.out.size))
          clear hb he hn
          refine sched_fork [7] (by kernel_rfl) rfl ?_
          intro i hi
          simp only [List.mem_cons, List.not_mem_nil, or_false] at hi
          subst hi
          refine ⟨_, rfl, by rfl, oper_val (v := .pointer (some ⟨V9.heap.size, 0, none⟩)) (w' := V9.alloc (.cells zeroE.toArray 28)) (by go_simp; rfl) ⟨(Below.refl _ _).alloc HBs.out _, ?_⟩⟩
          have hb : Below V9.heap.size V9 (V9.alloc (.cells zeroE.toArray 28)) := (Below.refl _ _).alloc (Nat.le_refl _) _
          have HZ : Hid (Cel (V9.alloc (.cells zeroE.toArray 28)) V9.heap.size zeroE) := Cel.new V9 zeroE
          have hgv : B6 ≤ V9.heap.size := HBs.out
          replace HBs : Hid (B6 ≤ (V9.alloc (.cells zeroE.toArray 28)).heap.size) := Nat.le_trans HBs.out hb.size
          replace HK0 := hidup (HK0.out.later hb)
          replace HK1 := hidup (HK1.out.later hb)
          replace HC1 := hidup (HC1.out.later hb)
          replace HC2 := hidup (HC2.out.later hb)
          replace HC3 := hidup (HC3.out.later hb)
          replace HC4 := hidup (HC4.out.later hb)
          replace HC5 := hidup (HC5.out.later hb)
          replace HW := hidup (HW.out.trans (hb.mono HW.out.size))
          clear hb
          generalize V9.alloc (.cells zeroE.toArray 28) = V10 at *
          generalize V9.heap.size = g6 at *
          have hst := store_row V10 g6 _ _ c6_2 HZ.out (by simp [HE6_2.out.len, zeroE_len]) HE6_2.out.one
          have HCv : Hid (Cel (V10.setRow g6 c6_2.toArray) g6 c6_2) := setRow_heap V10 g6 _ _ _ _ HZ.out
          replace HK0 := hidup (HK0.out.put_other (g' := g6) (by omega) c6_2.toArray)
          replace HK1 := hidup (HK1.out.put_other (g' := g6) (by omega) c6_2.toArray)
          replace HC1 := hidup (HC1.out.put_other (g' := g6) (by omega) c6_2.toArray)
          replace HC2 := hidup (HC2.out.put_other (g' := g6) (by omega) c6_2.toArray)
          replace HC3 := hidup (HC3.out.put_other (g' := g6) (by omega) c6_2.toArray)
          replace HC4 := hidup (HC4.out.put_other (g' := g6) (by omega) c6_2.toArray)
          replace HC5 := hidup (HC5.out.put_other (g' := g6) (by omega) c6_2.toArray)
          replace HW := hidup (below_setRow HW.out (g := g6) (by omega) c6_2.toArray)
          refine sched_end (G := Below B6) (fun _ => Below.refl _ _) (fun _ _ _ h k => Below.trans h k) (by kernel_rfl) [(8, false)] rfl (by kernel_rfl) ?_
          intro KM hKM
          go_simp
          have hlen := HE6_2.out.len
          refine sched_put rfl (by rfl) (w' := V10.setRow g6 c6_2.toArray) (by go_simp) (below_setRow (Below.refl _ _) hgv _) ?_
          go_simp
          exact hKM.out _ _ ⟨rfl, g6, c6_0, n6_0, c6_1, n6_1, c6_2, n6_2, rfl, HE6_2, HF6_2, HCv, HK0, HK1, HC1, HC2, HC3, HC4, HC5, HW⟩
        · refine ⟨_, rfl, by rfl, oper_val (v := .pointer (some ⟨V8.heap.size, 0, none⟩)) (w' := V8.alloc (.cells zeroE.toArray 28)) (by go_simp; rfl) ⟨(Below.refl _ _).alloc HBs.out _, ?_⟩⟩
          have hb : Below V8.heap.size V8 (V8.alloc (.cells zeroE.toArray 28)) := (Below.refl _ _).alloc (Nat.le_refl _) _
          have HZ : Hid (Cel (V8.alloc (.cells zeroE.toArray 28)) V8.heap.size zeroE) := Cel.new V8 zeroE
          have hgv : B6 ≤ V8.heap.size := HBs.out
          replace HBs : Hid (B6 ≤ (V8.alloc (.cells zeroE.toArray 28)).heap.size) := Nat.le_trans HBs.out hb.size
          replace HK0 := hidup (HK0.out.later hb)
          replace HK1 := hidup (HK1.out.later hb)
          replace HC1 := hidup (HC1.out.later hb)
          replace HC2 := hidup (HC2.out.later hb)
          replace HC3 := hidup (HC3.out.later hb)
          replace HC4 := hidup (HC4.out.later hb)
          replace HC5 := hidup (HC5.out.later hb)
          replace HW := hidup (HW.out.trans (hb.mono HW.out.size))
          clear hb
          generalize V8.alloc (.cells zeroE.toArray 28) = V11 at *
          generalize V8.heap.size = g6 at *
          refine sched_fork [6] (by kernel_rfl) rfl ?_
          intro i hi
          simp only [List.mem_cons, List.not_mem_nil, or_false] at hi
          subst hi
          refine ⟨_, rfl, by rfl, oper_call (f := 15) (args := #[.agg c6_0.toArray, .agg c6_1.toArray]) (by go_simp) ?_⟩
          refine (fadd_any c6_0 c6_1 n6_0 n6_1 V11 HE6_0.out HE6_1.out).mono ?_
          rintro e V12 ⟨c6_2, rfl, he, hb⟩
          refine ⟨_, rfl, hb.mono HBs.out, ?_⟩
          obtain ⟨n6_2, hn⟩ : ∃ n, (n6_0 + n6_1) % P255 = n := ⟨_, rfl⟩
          rw [hn] at he
          have HE6_2 : Hid (Elm c6_2 n6_2) := he
          have HF6_2 : Hid (FC n6_2 (((x : Int) * (x : Int)) + ((y : Int) * (y : Int)))) := by rw [← hn]; exact HF6_0.out.add HF6_1.out
          replace HBs : Hid (B6 ≤ V12.heap.size) := Nat.le_trans HBs.out hb.size
          replace HK0 := hidup (HK0.out.later hb)
          replace HK1 := hidup (HK1.out.later hb)
          replace HC1 := hidup (HC1.out.later hb)
          replace HC2 := hidup (HC2.out.later hb)
          replace HC3 := hidup (HC3.out.later hb)
          replace HC4 := hidup (HC4.out.later hb)
          replace HC5 := hidup (HC5.out.later hb)
          replace HW := hidup (HW.out.trans (hb.mono HW.out.size))
          replace HZ := hidup (HZ.out.later hb)
          clear hb he hn
          have hst := store_row V12 g6 _ _ c6_2 HZ.out (by simp [HE6_2.out.len, zeroE_len]) HE6_2.out.one
          have HCv : Hid (Cel (V12.setRow g6 c6_2.toArray) g6 c6_2) := setRow_heap V12 g6 _ _ _ _ HZ.out
          replace HK0 := hidup (HK0.out.put_other (g' := g6) (by omega) c6_2.toArray)
          replace HK1 := hidup (HK1.out.put_other (g' := g6) (by omega) c6_2.toArray)
          replace HC1 := hidup (HC1.out.put_other (g' := g6) (by omega) c6_2.toArray)
          replace HC2 := hidup (HC2.out.put_other (g' := g6) (by omega) c6_2.toArray)
          replace HC3 := hidup (HC3.out.put_other (g' := g6) (by omega) c6_2.toArray)
          replace HC4 := hidup (HC4.out.put_other (g' := g6) (by omega) c6_2.toArray)
          replace HC5 := hidup (HC5.out.put_other (g' := g6) (by omega) c6_2.toArray)
          replace HW := hidup (below_setRow HW.out (g := g6) (by omega) c6_2.toArray)
          refine sched_end (G := Below B6) (fun _ => Below.refl _ _) (fun _ _ _ h k => Below.trans h k) (by kernel_rfl) [(8, false)] rfl (by kernel_rfl) ?_
          intro KM hKM
          go_simp
          have hlen := HE6_2.out.len
          refine sched_put rfl (by rfl) (w' := V12.setRow g6 c6_2.toArray) (by go_simp) (below_setRow (Below.refl _ _) hgv _) ?_
          go_simp
          exact hKM.out _ _ ⟨rfl, g6, c6_0, n6_0, c6_1, n6_1, c6_2, n6_2, rfl, HE6_2, HF6_2, HCv, HK0, HK1, HC1, HC2, HC3, HC4, HC5, HW⟩
      · refine ⟨_, rfl, by rfl, oper_val (v := .pointer (some ⟨V7.heap.size, 0, none⟩)) (w' := V7.alloc (.cells zeroE.toArray 28)) (by go_simp; rfl) ⟨(Below.refl _ _).alloc HBs.out _, ?_⟩⟩
        have hb : Below V7.heap.size V7 (V7.alloc (.cells zeroE.toArray 28)) := (Below.refl _ _).alloc (Nat.le_refl _) _
        have HZ : Hid (Cel (V7.alloc (.cells zeroE.toArray 28)) V7.heap.size zeroE) := Cel.new V7 zeroE
        have hgv : B6 ≤ V7.heap.size := HBs.out
        replace HBs : Hid (B6 ≤ (V7.alloc (.cells zeroE.toArray 28)).heap.size) := Nat.le_trans HBs.out hb.size
        replace HK0 := hidup (HK0.out.later hb)
        replace HK1 := hidup (HK1.out.later hb)
        replace HC1 := hidup (HC1.out.later hb)
        replace HC2 := hidup (HC2.out.later hb)
        replace HC3 := hidup (HC3.out.later hb)
        replace HC4 := hidup (HC4.out.later hb)
        replace HC5 := hidup (HC5.out.later hb)
        replace HW := hidup (HW.out.trans (hb.mono HW.out.size))
        clear hb
        generalize V7.alloc (.cells zeroE.toArray 28) = V13 at *
        generalize V7.heap.size = g6 at *
        refine sched_fork [5] (by kernel_rfl) rfl ?_
        intro i hi
        simp only [List.mem_cons, List.not_mem_nil, or_false] at hi
        subst hi
        refine ⟨_, rfl, by rfl, oper_call (f := 19) (args := #[.agg c2.toArray, .agg c2.toArray]) (by go_simp) ?_⟩
        refine (fmul_any c2 c2 y y V13 HE2.out HE2.out).mono ?_
        rintro e V14 ⟨c6_1, rfl, he, hb⟩
        refine ⟨_, rfl, hb.mono HBs.out, ?_⟩
        obtain ⟨n6_1, hn⟩ : ∃ n, (y * y) % P255 = n := ⟨_, rfl⟩
        rw [hn] at he
        have HE6_1 : Hid (Elm c6_1 n6_1) := he
        have HF6_1 : Hid (FC n6_1 ((y : Int) * (y : Int))) := by rw [← hn]; exact HF2.out.mul HF2.out
        replace HBs : Hid (B6 ≤ V14.heap.size) := Nat.le_trans HBs.out hb.size
        replace HK0 := hidup (HK0.out.later hb)
        replace HK1 := hidup (HK1.out.later hb)
        replace HC1 := hidup (HC1.out.later hb)
        replace HC2 := hidup (HC2.out.later hb)
        replace HC3 := hidup (HC3.out.later hb)
        replace HC4 := hidup (HC4.out.later hb)
        replace HC5 := hidup (HC5.out.later hb)
        replace HW := hidup (HW.out.trans (hb.mono HW.out.size))
        replace HZ := hidup (HZ.out.later hb)
        clear hb he hn
        refine sched_fork [6] (by kernel_rfl) rfl ?_
        intro i hi
        simp only [List.mem_cons, List.not_mem_nil, or_false] at hi
        subst hi
        refine ⟨_, rfl, by rfl, oper_call (f := 15) (args := #[.agg c6_0.toArray, .agg c6_1.toArray]) (by go_simp) ?_⟩
        refine (fadd_any c6_0 c6_1 n6_0 n6_1 V14 HE6_0.out HE6_1.out).mono ?_
        rintro e V15 ⟨c6_2, rfl, he, hb⟩
        refine ⟨_, rfl, hb.mono HBs.out, ?_⟩
        obtain ⟨n6_2, hn⟩ : ∃ n, (n6_0 + n6_1) % P255 = n := ⟨_, rfl⟩
        rw [hn] at he
        have HE6_2 : Hid (Elm c6_2 n6_2) := he
        have HF6_2 : Hid (FC n6_2 (((x : Int) * (x : Int)) + ((y : Int) * (y : Int)))) := by rw [← hn]; exact HF6_0.out.add HF6_1.out
        replace HBs : Hid (B6 ≤ V15.heap.size) := Nat.le_trans HBs.out hb.size
        replace HK0 := hidup (HK0.out.later hb)
        replace HK1 := hidup (HK1.out.later hb)
        replace HC1 := hidup (HC1.out.later hb)
        replace HC2 := hidup (HC2.out.later hb)
        replace HC3 := hidup (HC3.out.later hb)
        replace HC4 := hidup (HC4.out.later hb)
        replace HC5 := hidup (HC5.out.later hb)
        replace HW := hidup (HW.out.trans (hb.mono HW.out.size))
        replace HZ := hidup (HZ.out.later hb)
        clear hb he hn
        have hst := store_row V15 g6 _ _ c6_2 HZ.out (by simp [HE6_2.out.len, zeroE_len]) HE6_2.out.one
        have HCv : Hid (Cel (V15.setRow g6 c6_2.toArray) g6 c6_2) := setRow_heap V15 g6 _ _ _ _ HZ.out
        replace HK0 := hidup (HK0.out.put_other (g' := g6) (by omega) c6_2.toArray)
        replace HK1 := hidup (HK1.out.put_other (g' := g6) (by omega) c6_2.toArray)
        replace HC1 := hidup (HC1.out.put_other (g' := g6) (by omega) c6_2.toArray)
        replace HC2 := hidup (HC2.out.put_other (g' := g6) (by omega) c6_2.toArray)
        replace HC3 := hidup (HC3.out.put_other (g' := g6) (by omega) c6_2.toArray)
        replace HC4 := hidup (HC4.out.put_other (g' := g6) (by omega) c6_2.toArray)
        replace HC5 := hidup (HC5.out.put_other (g' := g6) (by omega) c6_2.toArray)
        replace HW := hidup (below_setRow HW.out (g := g6) (by omega) c6_2.toArray)
        refine sched_end (G := Below B6) (fun _ => Below.refl _ _) (fun _ _ _ h k => Below.trans h k) (by kernel_rfl) [(8, false)] rfl (by kernel_rfl) ?_
        intro KM hKM
        go_simp
        have hlen := HE6_2.out.len
        refine sched_put rfl (by rfl) (w' := V15.setRow g6 c6_2.toArray) (by go_simp) (below_setRow (Below.refl _ _) hgv _) ?_
        go_simp
        exact hKM.out _ _ ⟨rfl, g6, c6_0, n6_0, c6_1, n6_1, c6_2, n6_2, rfl, HE6_2, HF6_2, HCv, HK0, HK1, HC1, HC2, HC3, HC4, HC5, HW⟩
    · refine ⟨_, rfl, by rfl, oper_val (v := .pointer (some ⟨W6.heap.size, 0, none⟩)) (w' := W6.alloc (.cells zeroE.toArray 28)) (by go_simp; rfl) ⟨(Below.refl _ _).alloc HBs.out _, ?_⟩⟩
      have hb : Below W6.heap.size W6 (W6.alloc (.cells zeroE.toArray 28)) := (Below.refl _ _).alloc (Nat.le_refl _) _
      have HZ : Hid (Cel (W6.alloc (.cells zeroE.toArray 28)) W6.heap.size zeroE) := Cel.new W6 zeroE
      have hgv : B6 ≤ W6.heap.size := HBs.out
      replace HBs : Hid (B6 ≤ (W6.alloc (.cells zeroE.toArray 28)).heap.size) := Nat.le_trans HBs.out hb.size
      replace HK0 := hidup (HK0.out.later hb)
      replace HK1 := hidup (HK1.out.later hb)
      replace HC1 := hidup (HC1.out.later hb)
      replace HC2 := hidup (HC2.out.later hb)
      replace HC3 := hidup (HC3.out.later hb)
      replace HC4 := hidup (HC4.out.later hb)
      replace HC5 := hidup (HC5.out.later hb)
      replace HW := hidup (HW.out.trans (hb.mono HW.out.size))
      clear hb
      generalize W6.alloc (.cells zeroE.toArray 28) = V16 at *
      generalize W6.heap.size = g6 at *
      refine sched_fork [2] (by kernel_rfl) rfl ?_
      intro i hi
      simp only [List.mem_cons, List.not_mem_nil, or_false] at hi
      subst hi
      refine ⟨_, rfl, by rfl, oper_call (f := 19) (args := #[.agg c1.toArray, .agg c1.toArray]) (by go_simp) ?_⟩
      refine (fmul_any c1 c1 x x V16 HE1.out HE1.out).mono ?_
      rintro e V17 ⟨c6_0, rfl, he, hb⟩
      refine ⟨_, rfl, hb.mono HBs.out, ?_⟩
      obtain ⟨n6_0, hn⟩ : ∃ n, (x * x) % P255 = n := ⟨_, rfl⟩
      rw [hn] at he
      have HE6_0 : Hid (Elm c6_0 n6_0) := he
      have HF6_0 : Hid (FC n6_0 ((x : Int) * (x : Int))) := by rw [← hn]; exact HF1.out.mul HF1.out
      replace HBs : Hid (B6 ≤ V17.heap.size) := Nat.le_trans HBs.out hb.size
      replace HK0 := hidup (HK0.out.later hb)
      replace HK1 := hidup (HK1.out.later hb)
      replace HC1 := hidup (HC1.out.later hb)
      replace HC2 := hidup (HC2.out.later hb)
      replace HC3 := hidup (HC3.out.later hb)
      replace HC4 := hidup (HC4.out.later hb)
      replace HC5 := hidup (HC5.out.later hb)
      replace HW := hidup (HW.out.trans (hb.mono HW.out.size))
      replace HZ := hidup (HZ.out.later hb)
      clear hb he hn
      refine sched_fork [5] (by kernel_rfl) rfl ?_
      intro i hi
      simp only [List.mem_cons, List.not_mem_nil, or_false] at hi
      subst hi
      refine ⟨_, rfl, by rfl, oper_call (f := 19) (args := #[.agg c2.toArray, .agg c2.toArray]) (by go_simp) ?_⟩
      refine (fmul_any c2 c2 y y V17 HE2.out HE2.out).mono ?_
      rintro e V18 ⟨c6_1, rfl, he, hb⟩
      refine ⟨_, rfl, hb.mono HBs.out, ?_⟩
      obtain ⟨n6_1, hn⟩ : ∃ n, (y * y) % P255 = n := ⟨_, rfl⟩
      rw [hn] at he
      have HE6_1 : Hid (Elm c6_1 n6_1) := he
      have HF6_1 : Hid (FC n6_1 ((y : Int) * (y : Int))) := by rw [← hn]; exact HF2.out.mul HF2.out
      replace HBs : Hid (B6 ≤ V18.heap.size) := Nat.le_trans HBs.out hb.size
      replace HK0 := hidup (HK0.out.later hb)
      replace HK1 := hidup (HK1.out.later hb)
      replace HC1 := hidup (HC1.out.later hb)
      replace HC2 := hidup (HC2.out.later hb)
      replace HC3 := hidup (HC3.out.later hb)
      replace HC4 := hidup (HC4.out.later hb)
      replace HC5 := hidup (HC5.out.later hb)
      replace HW := hidup (HW.out.trans (hb.mono HW.out.size))
      replace HZ := hidup (HZ.out.later hb)
      clear hb he hn
      refine sched_fork [6] (by kernel_rfl) rfl ?_
      intro i hi
      simp only [List.mem_cons, List.not_mem_nil, or_false] at hi
      subst hi
      refine ⟨_, rfl, by rfl, oper_call (f := 15) (args := #[.agg c6_0.toArray, .agg c6_1.toArray]) (by go_simp) ?_⟩
      refine (fadd_any c6_0 c6_1 n6_0 n6_1 V18 HE6_0.out HE6_1.out).mono ?_
      rintro e V19 ⟨c6_2, rfl, he, hb⟩
      refine ⟨_, rfl, hb.mono HBs.out, ?_⟩
      obtain ⟨n6_2, hn⟩ : ∃ n, (n6_0 + n6_1) % P255 = n := ⟨_, rfl⟩
      rw [hn] at he
      have HE6_2 : Hid (Elm c6_2 n6_2) := he
      have HF6_2 : Hid (FC n6_2 (((x : Int) * (x : Int)) + ((y : Int) * (y : Int)))) := by rw [← hn]; exact HF6_0.out.add HF6_1.out
      replace HBs : Hid (B6 ≤ V19.heap.size) := Nat.le_trans HBs.out hb.size
      replace HK0 := hidup (HK0.out.later hb)
      replace HK1 := hidup (HK1.out.later hb)
      replace HC1 := hidup (HC1.out.later hb)
      replace HC2 := hidup (HC2.out.later hb)
      replace HC3 := hidup (HC3.out.later hb)
      replace HC4 := hidup (HC4.out.later hb)
      replace HC5 := hidup (HC5.out.later hb)
      replace HW := hidup (HW.out.trans (hb.mono HW.out.size))
      replace HZ := hidup (HZ.out.later hb)
      clear hb he hn
      have hst := store_row V19 g6 _ _ c6_2 HZ.out (by simp [HE6_2.out.len, zeroE_len]) HE6_2.out.one
      have HCv : Hid (Cel (V19.setRow g6 c6_2.toArray) g6 c6_2) := setRow_heap V19 g6 _ _ _ _ HZ.out
      replace HK0 := hidup (HK0.out.put_other (g' := g6) (by omega) c6_2.toArray)
      replace HK1 := hidup (HK1.out.put_other (g' := g6) (by omega) c6_2.toArray)
      replace HC1 := hidup (HC1.out.put_other (g' := g6) (by omega) c6_2.toArray)
      replace HC2 := hidup (HC2.out.put_other (g' := g6) (by omega) c6_2.toArray)
      replace HC3 := hidup (HC3.out.put_other (g' := g6) (by omega) c6_2.toArray)
      replace HC4 := hidup (HC4.out.put_other (g' := g6) (by omega) c6_2.toArray)
      replace HC5 := hidup (HC5.out.put_other (g' := g6) (by omega) c6_2.toArray)
      replace HW := hidup (below_setRow HW.out (g := g6) (by omega) c6_2.toArray)
      refine sched_end (G := Below B6) (fun _ => Below.refl _ _) (fun _ _ _ h k => Below.trans h k) (by kernel_rfl) [(8, false)] rfl (by kernel_rfl) ?_
      intro KM hKM
      go_simp
      have hlen := HE6_2.out.len
      refine sched_put rfl (by rfl) (w' := V19.setRow g6 c6_2.toArray) (by go_simp) (below_setRow (Below.refl _ _) hgv _) ?_
      go_simp
      exact hKM.out _ _ ⟨rfl, g6, c6_0, n6_0, c6_1, n6_1, c6_2, n6_2, rfl, HE6_2, HF6_2, HCv, HK0, HK1, HC1, HC2, HC3, HC4, HC5, HW⟩
  · rintro a W20 ⟨g6, c6_0, n6_0, c6_1, n6_1, c6_2, n6_2, rfl, HE6_2, HF6_2, HC6, HK0, HK1, HC1, HC2, HC3, HC4, HC5, HW⟩
    dsimp only
    go_wp2
    obtain ⟨W21, hWd⟩ : ∃ W, W20.drew = W := ⟨_, rfl⟩
    have HWd : Hid (W20.drew = W21) := hWd
    have hdr : Below W20.heap.size W20 W21 := by rw [← hWd]; exact (Below.refl _ _).drew
    replace HK0 := hidup (HK0.out.later hdr)
    replace HK1 := hidup (HK1.out.later hdr)
    replace HC1 := hidup (HC1.out.later hdr)
    replace HC2 := hidup (HC2.out.later hdr)
    replace HC3 := hidup (HC3.out.later hdr)
    replace HC4 := hidup (HC4.out.later hdr)
    replace HC5 := hidup (HC5.out.later hdr)
    replace HC6 := hidup (HC6.out.later hdr)
    replace HW := hidup (HW.out.trans (hdr.mono HW.out.size))
    clear hdr hWd
    refine wp_region_sched' (G := Grows) (by kernel_rfl) Grows.refl Grows.trans (by kernel_rfl) [(0, true), (1, true), (2, true), (3, true), (6, true), (7, true), (9, true), (4, false), (5, false), (8, false), (10, false), (11, false), (12, true), (13, true), (14, true), (15, true), (16, true), (19, true), (20, true), (22, true), (17, false), (18, false), (21, false), (23, false), (24, false), (25, true), (26, true), (27, true), (28, true), (29, true), (32, true), (33, true), (35, true), (36, true), (30, false), (31, false), (34, false), (37, false), (38, false), (39, false), (40, true), (41, true), (42, true)] rfl (by kernel_rfl) ?_
    intro KK22 hKK22
    rw [HWd.out]
    iterate 2 (refine sched_take rfl (by rfl) (v := ?_) ?_ ?_; rotate_left; (intro w' hw'; clear hw'; go_simp; with_reducible rfl); go_simp)
    refine sched_take rfl (by rfl) (v := .agg c3.toArray) (fun w' hw' => exec_load_row 28 _ rfl g3 rfl 28 _ (0, 0) _ (HC3.out.later hw') Tryd.underlying28 rfl (elm_info HE3.out)) ?_
    go_simp
    refine sched_take rfl (by rfl) (v := .agg c3.toArray) (fun w' hw' => exec_load_row 28 _ rfl g3 rfl 28 _ (0, 0) _ (HC3.out.later hw') Tryd.underlying28 rfl (elm_info HE3.out)) ?_
    go_simp
    refine sched_take rfl (by rfl) (v := .agg c6_2.toArray) (fun w' hw' => exec_load_row 28 _ rfl g6 rfl 28 _ (0, 0) _ (HC6.out.later hw') Tryd.underlying28 rfl (elm_info HE6_2.out)) ?_
    go_simp
    refine sched_take rfl (by rfl) (v := .agg c5.toArray) (fun w' hw' => exec_load_row 28 _ rfl g5 rfl 28 _ (0, 0) _ (HC5.out.later hw') Tryd.underlying28 rfl (elm_info HE5.out)) ?_
    go_simp
    refine sched_take rfl (by rfl) (v := .agg c5.toArray) (fun w' hw' => exec_load_row 28 _ rfl g5 rfl 28 _ (0, 0) _ (HC5.out.later hw') Tryd.underlying28 rfl (elm_info HE5.out)) ?_
    go_simp
    refine sched_call (f := 19) (args := #[.agg c3.toArray, .agg c3.toArray]) rfl (by rfl) (by go_simp) ?_
    refine (fmul_any c3 c3 s s W21 HE3.out HE3.out).mono ?_
    rintro e V23 ⟨c23, rfl, he, hb⟩
    refine ⟨_, rfl, hb, ?_⟩
    obtain ⟨n23, hn⟩ : ∃ n, (s * s) % P255 = n := ⟨_, rfl⟩
    rw [hn] at he
    have HE23 : Hid (Elm c23 n23) := he
    have HF23 : Hid (FC n23 (((x : Int) + (y : Int)) * ((x : Int) + (y : Int)))) := by rw [← hn]; exact HF3.out.mul HF3.out
    replace HK0 := hidup (HK0.out.later hb)
    replace HK1 := hidup (HK1.out.later hb)
    replace HC1 := hidup (HC1.out.later hb)
    replace HC2 := hidup (HC2.out.later hb)
    replace HC3 := hidup (HC3.out.later hb)
    replace HC4 := hidup (HC4.out.later hb)
    replace HC5 := hidup (HC5.out.later hb)
    replace HC6 := hidup (HC6.out.later hb)
    replace HW := hidup (HW.out.trans (hb.mono HW.out.size))
    clear hb he hn
    go_simp
    refine sched_call (f := 13) (args := #[.agg c23.toArray]) rfl (by rfl) (by go_simp) ?_
    refine (fbytes_any c23 n23 V23 HE23.out).mono ?_
    rintro e V24 ⟨rfl, hb⟩
    refine ⟨_, rfl, hb, ?_⟩
    replace HK0 := hidup (HK0.out.later hb)
    replace HK1 := hidup (HK1.out.later hb)
    replace HC1 := hidup (HC1.out.later hb)
    replace HC2 := hidup (HC2.out.later hb)
    replace HC3 := hidup (HC3.out.later hb)
    replace HC4 := hidup (HC4.out.later hb)
    replace HC5 := hidup (HC5.out.later hb)
    replace HC6 := hidup (HC6.out.later hb)
    replace HW := hidup (HW.out.trans (hb.mono HW.out.size))
    clear hb
    go_simp
    refine sched_call (f := 15) (args := #[.agg c6_2.toArray, .agg c5.toArray]) rfl (by rfl) (by go_simp) ?_
    refine (fadd_any c6_2 c5 n6_2 p V24 HE6_2.out HE5.out).mono ?_
    rintro e V25 ⟨c25, rfl, he, hb⟩
    refine ⟨_, rfl, hb, ?_⟩
    obtain ⟨n25, hn⟩ : ∃ n, (n6_2 + p) % P255 = n := ⟨_, rfl⟩
    rw [hn] at he
    have HE25 : Hid (Elm c25 n25) := he
    have HF25 : Hid (FC n25 ((((x : Int) * (x : Int)) + ((y : Int) * (y : Int))) + ((x : Int) * (y : Int)))) := by rw [← hn]; exact HF6_2.out.add HF5.out
    replace HK0 := hidup (HK0.out.later hb)
    replace HK1 := hidup (HK1.out.later hb)
    replace HC1 := hidup (HC1.out.later hb)
    replace HC2 := hidup (HC2.out.later hb)
    replace HC3 := hidup (HC3.out.later hb)
    replace HC4 := hidup (HC4.out.later hb)
    replace HC5 := hidup (HC5.out.later hb)
    replace HC6 := hidup (HC6.out.later hb)
    replace HW := hidup (HW.out.trans (hb.mono HW.out.size))
    clear hb he hn
    go_simp
    refine sched_call (f := 15) (args := #[.agg c25.toArray, .agg c5.toArray]) rfl (by rfl) (by go_simp) ?_
    refine (fadd_any c25 c5 n25 p V25 HE25.out HE5.out).mono ?_
    rintro e V26 ⟨c26, rfl, he, hb⟩
    refine ⟨_, rfl, hb, ?_⟩
    obtain ⟨n26, hn⟩ : ∃ n, (n25 + p) % P255 = n := ⟨_, rfl⟩
    rw [hn] at he
    have HE26 : Hid (Elm c26 n26) := he
    have HF26 : Hid (FC n26 (((((x : Int) * (x : Int)) + ((y : Int) * (y : Int))) + ((x : Int) * (y : Int))) + ((x : Int) * (y : Int)))) := by rw [← hn]; exact HF25.out.add HF5.out
    replace HK0 := hidup (HK0.out.later hb)
    replace HK1 := hidup (HK1.out.later hb)
    replace HC1 := hidup (HC1.out.later hb)
    replace HC2 := hidup (HC2.out.later hb)
    replace HC3 := hidup (HC3.out.later hb)
    replace HC4 := hidup (HC4.out.later hb)
    replace HC5 := hidup (HC5.out.later hb)
    replace HC6 := hidup (HC6.out.later hb)
    replace HW := hidup (HW.out.trans (hb.mono HW.out.size))
    clear hb he hn
    go_simp
    refine sched_call (f := 13) (args := #[.agg c26.toArray]) rfl (by rfl) (by go_simp) ?_
    refine (fbytes_any c26 n26 V26 HE26.out).mono ?_
    rintro e V27 ⟨rfl, hb⟩
    refine ⟨_, rfl, hb, ?_⟩
    replace HK0 := hidup (HK0.out.later hb)
    replace HK1 := hidup (HK1.out.later hb)
    replace HC1 := hidup (HC1.out.later hb)
    replace HC2 := hidup (HC2.out.later hb)
    replace HC3 := hidup (HC3.out.later hb)
    replace HC4 := hidup (HC4.out.later hb)
    replace HC5 := hidup (HC5.out.later hb)
    replace HC6 := hidup (HC6.out.later hb)
    replace HW := hidup (HW.out.trans (hb.mono HW.out.size))
    clear hb
    go_simp
    have hq28 : Hid (n23 = n26) := FC.eq HF23.out HF26.out (by grind)
    refine sched_take rfl (by rfl) (v := ?_) ?_ ?_; rotate_left; (intro w' hw'; clear hw'; have q1 := key_same w' n23 n26 hq28.out; go_simp; with_reducible rfl); go_simp
    clear hq28
    iterate 2 (refine sched_take rfl (by rfl) (v := ?_) ?_ ?_; rotate_left; (intro w' hw'; clear hw'; go_simp; with_reducible rfl); go_simp)
    refine sched_take rfl (by rfl) (v := .agg c4.toArray) (fun w' hw' => exec_load_row 28 _ rfl g4 rfl 28 _ (0, 0) _ (HC4.out.later hw') Tryd.underlying28 rfl (elm_info HE4.out)) ?_
    go_simp
    refine sched_take rfl (by rfl) (v := .agg c4.toArray) (fun w' hw' => exec_load_row 28 _ rfl g4 rfl 28 _ (0, 0) _ (HC4.out.later hw') Tryd.underlying28 rfl (elm_info HE4.out)) ?_
    go_simp
    refine sched_take rfl (by rfl) (v := .agg c6_2.toArray) (fun w' hw' => exec_load_row 28 _ rfl g6 rfl 28 _ (0, 0) _ (HC6.out.later hw') Tryd.underlying28 rfl (elm_info HE6_2.out)) ?_
    go_simp
    refine sched_take rfl (by rfl) (v := .agg c5.toArray) (fun w' hw' => exec_load_row 28 _ rfl g5 rfl 28 _ (0, 0) _ (HC5.out.later hw') Tryd.underlying28 rfl (elm_info HE5.out)) ?_
    go_simp
    refine sched_take rfl (by rfl) (v := .agg c5.toArray) (fun w' hw' => exec_load_row 28 _ rfl g5 rfl 28 _ (0, 0) _ (HC5.out.later hw') Tryd.underlying28 rfl (elm_info HE5.out)) ?_
    go_simp
    refine sched_call (f := 19) (args := #[.agg c4.toArray, .agg c4.toArray]) rfl (by rfl) (by go_simp) ?_
    refine (fmul_any c4 c4 d d V27 HE4.out HE4.out).mono ?_
    rintro e V29 ⟨c29, rfl, he, hb⟩
    refine ⟨_, rfl, hb, ?_⟩
    obtain ⟨n29, hn⟩ : ∃ n, (d * d) % P255 = n := ⟨_, rfl⟩
    rw [hn] at he
    have HE29 : Hid (Elm c29 n29) := he
    have HF29 : Hid (FC n29 (((x : Int) - (y : Int)) * ((x : Int) - (y : Int)))) := by rw [← hn]; exact HF4.out.mul HF4.out
    replace HK0 := hidup (HK0.out.later hb)
    replace HK1 := hidup (HK1.out.later hb)
    replace HC1 := hidup (HC1.out.later hb)
    replace HC2 := hidup (HC2.out.later hb)
    replace HC3 := hidup (HC3.out.later hb)
    replace HC4 := hidup (HC4.out.later hb)
    replace HC5 := hidup (HC5.out.later hb)
    replace HC6 := hidup (HC6.out.later hb)
    replace HW := hidup (HW.out.trans (hb.mono HW.out.size))
    clear hb he hn
    go_simp
    refine sched_call (f := 13) (args := #[.agg c29.toArray]) rfl (by rfl) (by go_simp) ?_
    refine (fbytes_any c29 n29 V29 HE29.out).mono ?_
    rintro e V30 ⟨rfl, hb⟩
    refine ⟨_, rfl, hb, ?_⟩
    replace HK0 := hidup (HK0.out.later hb)
    replace HK1 := hidup (HK1.out.later hb)
    replace HC1 := hidup (HC1.out.later hb)
    replace HC2 := hidup (HC2.out.later hb)
    replace HC3 := hidup (HC3.out.later hb)
    replace HC4 := hidup (HC4.out.later hb)
    replace HC5 := hidup (HC5.out.later hb)
    replace HC6 := hidup (HC6.out.later hb)
    replace HW := hidup (HW.out.trans (hb.mono HW.out.size))
    clear hb
    go_simp
    refine sched_call (f := 17) (args := #[.agg c6_2.toArray, .agg c5.toArray]) rfl (by rfl) (by go_simp) ?_
    refine (fsub_any c6_2 c5 n6_2 p V30 HE6_2.out HE5.out (HTab.out.later HW.out)).mono ?_
    rintro e V31 ⟨c31, rfl, he, hb⟩
    refine ⟨_, rfl, hb, ?_⟩
    obtain ⟨n31, hn⟩ : ∃ n, (n6_2 + (P255 - p)) % P255 = n := ⟨_, rfl⟩
    rw [hn] at he
    have HE31 : Hid (Elm c31 n31) := he
    have HF31 : Hid (FC n31 ((((x : Int) * (x : Int)) + ((y : Int) * (y : Int))) - ((x : Int) * (y : Int)))) := by rw [← hn]; exact HF6_2.out.sub HF5.out
    replace HK0 := hidup (HK0.out.later hb)
    replace HK1 := hidup (HK1.out.later hb)
    replace HC1 := hidup (HC1.out.later hb)
    replace HC2 := hidup (HC2.out.later hb)
    replace HC3 := hidup (HC3.out.later hb)
    replace HC4 := hidup (HC4.out.later hb)
    replace HC5 := hidup (HC5.out.later hb)
    replace HC6 := hidup (HC6.out.later hb)
    replace HW := hidup (HW.out.trans (hb.mono HW.out.size))
    clear hb he hn
    go_simp
    refine sched_call (f := 17) (args := #[.agg c31.toArray, .agg c5.toArray]) rfl (by rfl) (by go_simp) ?_
    refine (fsub_any c31 c5 n31 p V31 HE31.out HE5.out (HTab.out.later HW.out)).mono ?_
    rintro e V32 ⟨c32, rfl, he, hb⟩
    refine ⟨_, rfl, hb, ?_⟩
    obtain ⟨n32, hn⟩ : ∃ n, (n31 + (P255 - p)) % P255 = n := ⟨_, rfl⟩
    rw [hn] at he
    have HE32 : Hid (Elm c32 n32) := he
    have HF32 : Hid (FC n32 (((((x : Int) * (x : Int)) + ((y : Int) * (y : Int))) - ((x : Int) * (y : Int))) - ((x : Int) * (y : Int)))) := by rw [← hn]; exact HF31.out.sub HF5.out
    replace HK0 := hidup (HK0.out.later hb)
    replace HK1 := hidup (HK1.out.later hb)
    replace HC1 := hidup (HC1.out.later hb)
    replace HC2 := hidup (HC2.out.later hb)
    replace HC3 := hidup (HC3.out.later hb)
    replace HC4 := hidup (HC4.out.later hb)
    replace HC5 := hidup (HC5.out.later hb)
    replace HC6 := hidup (HC6.out.later hb)
    replace HW := hidup (HW.out.trans (hb.mono HW.out.size))
    clear hb he hn
    go_simp
    refine sched_call (f := 13) (args := #[.agg c32.toArray]) rfl (by rfl) (by go_simp) ?_
    refine (fbytes_any c32 n32 V32 HE32.out).mono ?_
    rintro e V33 ⟨rfl, hb⟩
    refine ⟨_, rfl, hb, ?_⟩
    replace HK0 := hidup (HK0.out.later hb)
    replace HK1 := hidup (HK1.out.later hb)
    replace HC1 := hidup (HC1.out.later hb)
    replace HC2 := hidup (HC2.out.later hb)
    replace HC3 := hidup (HC3.out.later hb)
    replace HC4 := hidup (HC4.out.later hb)
    replace HC5 := hidup (HC5.out.later hb)
    replace HC6 := hidup (HC6.out.later hb)
    replace HW := hidup (HW.out.trans (hb.mono HW.out.size))
    clear hb
    go_simp
    have hq34 : Hid (n29 = n32) := FC.eq HF29.out HF32.out (by grind)
    refine sched_take rfl (by rfl) (v := ?_) ?_ ?_; rotate_left; (intro w' hw'; clear hw'; have q1 := key_same w' n29 n32 hq34.out; go_simp; with_reducible rfl); go_simp
    clear hq34
    iterate 2 (refine sched_take rfl (by rfl) (v := ?_) ?_ ?_; rotate_left; (intro w' hw'; clear hw'; go_simp; with_reducible rfl); go_simp)
    refine sched_take rfl (by rfl) (v := .agg c3.toArray) (fun w' hw' => exec_load_row 28 _ rfl g3 rfl 28 _ (0, 0) _ (HC3.out.later hw') Tryd.underlying28 rfl (elm_info HE3.out)) ?_
    go_simp
    refine sched_take rfl (by rfl) (v := .agg c4.toArray) (fun w' hw' => exec_load_row 28 _ rfl g4 rfl 28 _ (0, 0) _ (HC4.out.later hw') Tryd.underlying28 rfl (elm_info HE4.out)) ?_
    go_simp
    refine sched_take rfl (by rfl) (v := .agg c1.toArray) (fun w' hw' => exec_load_row 28 _ rfl g1 rfl 28 _ (0, 0) _ (HC1.out.later hw') Tryd.underlying28 rfl (elm_info HE1.out)) ?_
    go_simp
    refine sched_take rfl (by rfl) (v := .agg c1.toArray) (fun w' hw' => exec_load_row 28 _ rfl g1 rfl 28 _ (0, 0) _ (HC1.out.later hw') Tryd.underlying28 rfl (elm_info HE1.out)) ?_
    go_simp
    refine sched_take rfl (by rfl) (v := .agg c2.toArray) (fun w' hw' => exec_load_row 28 _ rfl g2 rfl 28 _ (0, 0) _ (HC2.out.later hw') Tryd.underlying28 rfl (elm_info HE2.out)) ?_
    go_simp
    refine sched_take rfl (by rfl) (v := .agg c2.toArray) (fun w' hw' => exec_load_row 28 _ rfl g2 rfl 28 _ (0, 0) _ (HC2.out.later hw') Tryd.underlying28 rfl (elm_info HE2.out)) ?_
    go_simp
    refine sched_call (f := 19) (args := #[.agg c3.toArray, .agg c4.toArray]) rfl (by rfl) (by go_simp) ?_
    refine (fmul_any c3 c4 s d V33 HE3.out HE4.out).mono ?_
    rintro e V35 ⟨c35, rfl, he, hb⟩
    refine ⟨_, rfl, hb, ?_⟩
    obtain ⟨n35, hn⟩ : ∃ n, (s * d) % P255 = n := ⟨_, rfl⟩
    rw [hn] at he
    have HE35 : Hid (Elm c35 n35) := he
    have HF35 : Hid (FC n35 (((x : Int) + (y : Int)) * ((x : Int) - (y : Int)))) := by rw [← hn]; exact HF3.out.mul HF4.out
    replace HK0 := hidup (HK0.out.later hb)
    replace HK1 := hidup (HK1.out.later hb)
    replace HC1 := hidup (HC1.out.later hb)
    replace HC2 := hidup (HC2.out.later hb)
    replace HC3 := hidup (HC3.out.later hb)
    replace HC4 := hidup (HC4.out.later hb)
    replace HC5 := hidup (HC5.out.later hb)
    replace HC6 := hidup (HC6.out.later hb)
    replace HW := hidup (HW.out.trans (hb.mono HW.out.size))
    clear hb he hn
    go_simp
    refine sched_call (f := 13) (args := #[.agg c35.toArray]) rfl (by rfl) (by go_simp) ?_
    refine (fbytes_any c35 n35 V35 HE35.out).mono ?_
    rintro e V36 ⟨rfl, hb⟩
    refine ⟨_, rfl, hb, ?_⟩
    replace HK0 := hidup (HK0.out.later hb)
    replace HK1 := hidup (HK1.out.later hb)
    replace HC1 := hidup (HC1.out.later hb)
    replace HC2 := hidup (HC2.out.later hb)
    replace HC3 := hidup (HC3.out.later hb)
    replace HC4 := hidup (HC4.out.later hb)
    replace HC5 := hidup (HC5.out.later hb)
    replace HC6 := hidup (HC6.out.later hb)
    replace HW := hidup (HW.out.trans (hb.mono HW.out.size))
    clear hb
    go_simp
    refine sched_call (f := 19) (args := #[.agg c1.toArray, .agg c1.toArray]) rfl (by rfl) (by go_simp) ?_
    refine (fmul_any c1 c1 x x V36 HE1.out HE1.out).mono ?_
    rintro e V37 ⟨c37, rfl, he, hb⟩
    refine ⟨_, rfl, hb, ?_⟩
    obtain ⟨n37, hn⟩ : ∃ n, (x * x) % P255 = n := ⟨_, rfl⟩
    rw [hn] at he
    have HE37 : Hid (Elm c37 n37) := he
    have HF37 : Hid (FC n37 ((x : Int) * (x : Int))) := by rw [← hn]; exact HF1.out.mul HF1.out
    replace HK0 := hidup (HK0.out.later hb)
    replace HK1 := hidup (HK1.out.later hb)
    replace HC1 := hidup (HC1.out.later hb)
    replace HC2 := hidup (HC2.out.later hb)
    replace HC3 := hidup (HC3.out.later hb)
    replace HC4 := hidup (HC4.out.later hb)
    replace HC5 := hidup (HC5.out.later hb)
    replace HC6 := hidup (HC6.out.later hb)
    replace HW := hidup (HW.out.trans (hb.mono HW.out.size))
    clear hb he hn
    go_simp
    refine sched_call (f := 19) (args := #[.agg c2.toArray, .agg c2.toArray]) rfl (by rfl) (by go_simp) ?_
    refine (fmul_any c2 c2 y y V37 HE2.out HE2.out).mono ?_
    rintro e V38 ⟨c38, rfl, he, hb⟩
    refine ⟨_, rfl, hb, ?_⟩
    obtain ⟨n38, hn⟩ : ∃ n, (y * y) % P255 = n := ⟨_, rfl⟩
    rw [hn] at he
    have HE38 : Hid (Elm c38 n38) := he
    have HF38 : Hid (FC n38 ((y : Int) * (y : Int))) := by rw [← hn]; exact HF2.out.mul HF2.out
    replace HK0 := hidup (HK0.out.later hb)
    replace HK1 := hidup (HK1.out.later hb)
    replace HC1 := hidup (HC1.out.later hb)
    replace HC2 := hidup (HC2.out.later hb)
    replace HC3 := hidup (HC3.out.later hb)
    replace HC4 := hidup (HC4.out.later hb)
    replace HC5 := hidup (HC5.out.later hb)
    replace HC6 := hidup (HC6.out.later hb)
    replace HW := hidup (HW.out.trans (hb.mono HW.out.size))
    clear hb he hn
    go_simp
    refine sched_call (f := 17) (args := #[.agg c37.toArray, .agg c38.toArray]) rfl (by rfl) (by go_simp) ?_
    refine (fsub_any c37 c38 n37 n38 V38 HE37.out HE38.out (HTab.out.later HW.out)).mono ?_
    rintro e V39 ⟨c39, rfl, he, hb⟩
    refine ⟨_, rfl, hb, ?_⟩
    obtain ⟨n39, hn⟩ : ∃ n, (n37 + (P255 - n38)) % P255 = n := ⟨_, rfl⟩
    rw [hn] at he
    have HE39 : Hid (Elm c39 n39) := he
    have HF39 : Hid (FC n39 (((x : Int) * (x : Int)) - ((y : Int) * (y : Int)))) := by rw [← hn]; exact HF37.out.sub HF38.out
    replace HK0 := hidup (HK0.out.later hb)
    replace HK1 := hidup (HK1.out.later hb)
    replace HC1 := hidup (HC1.out.later hb)
    replace HC2 := hidup (HC2.out.later hb)
    replace HC3 := hidup (HC3.out.later hb)
    replace HC4 := hidup (HC4.out.later hb)
    replace HC5 := hidup (HC5.out.later hb)
    replace HC6 := hidup (HC6.out.later hb)
    replace HW := hidup (HW.out.trans (hb.mono HW.out.size))
    clear hb he hn
    go_simp
    refine sched_call (f := 13) (args := #[.agg c39.toArray]) rfl (by rfl) (by go_simp) ?_
    refine (fbytes_any c39 n39 V39 HE39.out).mono ?_
    rintro e V40 ⟨rfl, hb⟩
    refine ⟨_, rfl, hb, ?_⟩
    replace HK0 := hidup (HK0.out.later hb)
    replace HK1 := hidup (HK1.out.later hb)
    replace HC1 := hidup (HC1.out.later hb)
    replace HC2 := hidup (HC2.out.later hb)
    replace HC3 := hidup (HC3.out.later hb)
    replace HC4 := hidup (HC4.out.later hb)
    replace HC5 := hidup (HC5.out.later hb)
    replace HC6 := hidup (HC6.out.later hb)
    replace HW := hidup (HW.out.trans (hb.mono HW.out.size))
    clear hb
    go_simp
    have hq41 : Hid (n35 = n39) := FC.eq HF35.out HF39.out (by grind)
    refine sched_take rfl (by rfl) (v := ?_) ?_ ?_; rotate_left; (intro w' hw'; clear hw'; have q1 := key_same w' n35 n39 hq41.out; go_simp; with_reducible rfl); go_simp
    clear hq41
    iterate 2 (refine sched_take rfl (by rfl) (v := ?_) ?_ ?_; rotate_left; (intro w' hw'; clear hw'; go_simp; with_reducible rfl); go_simp)
    refine sched_done hKK22 ?_
    clear hKK22 HWd
    go_wp2
    go_ret
    exact ⟨rfl, HW.out⟩
end Go.Proofs.YtgggdcliepgahaaDoor.fieldSquares
