/- The walk over the program's Inv (field). Written by tools/mkinv.py. -/
import Derived.Test.YtgggdcliepgahaaDoorFieldT
namespace Go.Proofs.YtgggdcliepgahaaDoor
set_option linter.unusedVariables false
open Go.RowKit

theorem pw_add (x a b c : Nat) (h : a + b = c) : pw x a * pw x b % P255 = pw x c := by rw [pw_mul, h]

set_option maxHeartbeats 8000000 in
set_option maxRecDepth 100000 in
theorem finv_any (A : List Value) (x : Nat) (w : World) (hA : Elm A x) :
    Calls Tryd.prog 22 #[.agg A.toArray] w fun e w' => ∃ cs, e = .returned (.agg cs.toArray) ∧ Elm cs (finv x) ∧ Below w.heap.size w w' := by
  rw [pw_inv x _ E255_num]
  have HE1 : Hid (Elm A (pw x 1)) := by rw [pw_one x hA.lt]; exact hA
  clear hA
  have HC0 : Hid (Cel ((w.alloc (.cells A.toArray 28)).alloc (.cells zeroE.toArray 28)) w.heap.size A) := (Cel.new w A).later ((Below.refl _ _).alloc (Nat.le_refl _) _)
  have HR0 : Hid (Cel ((w.alloc (.cells A.toArray 28)).alloc (.cells zeroE.toArray 28)) (w.heap.size + 1) zeroE) := by
    have := Cel.new (w.alloc (.cells A.toArray 28)) zeroE
    rw [World.size_alloc] at this
    exact this
  have HW0 : Hid (Below w.heap.size w ((w.alloc (.cells A.toArray 28)).alloc (.cells zeroE.toArray 28))) := ((Below.refl _ _).alloc (Nat.le_refl _) _).alloc (by simp) _
  go_enter Tryd.func22, Tryd.ntmps22
  go_wp2
  refine from_world (P := Code.wp Tryd.prog _ _ _) (R := fun W => Hid (Cel W w.heap.size A) ∧ Hid (Cel W (w.heap.size + 1) zeroE) ∧ Hid (Below w.heap.size w W)) _ ⟨HC0, HR0, HW0⟩ ?_
  rintro W0 ⟨HC1, HR, HW⟩
  clear HC0 HR0 HW0
  refine wp_cut (fun a W => ∃ (g3 : Nat) (q3 c3 : List Value), a = { tmps := #[.agg A.toArray, .pointer (some ⟨w.heap.size, 0, none⟩), .pointer (some ⟨w.heap.size + 1, 0, none⟩), .pointer (some ⟨g3, 0, none⟩), undef, undef, undef, undef, undef, undef, undef, undef, undef, .agg A.toArray, .agg q3.toArray, .agg A.toArray, .agg c3.toArray, undef, undef, undef, undef, undef, undef, undef, undef, undef, undef, undef, undef, undef, undef, undef, undef, undef, undef, undef, undef, undef, undef, undef, undef, undef, undef, undef, undef, undef, undef, undef, undef, undef, undef, undef, undef, undef, undef, undef, undef], defers := [] } ∧ Hid (Elm c3 (pw x 9)) ∧ Hid (Cel W g3 c3) ∧ Hid (Cel W w.heap.size A) ∧ Hid (Cel W (w.heap.size + 1) zeroE) ∧ Hid (Below w.heap.size w W)) ?_ ?_
  · obtain ⟨W1, hWd⟩ : ∃ W, W0.drew = W := ⟨_, rfl⟩
    have HWd : Hid (W0.drew = W1) := hWd
    have hdr : Below W0.heap.size W0 W1 := by rw [← hWd]; exact (Below.refl _ _).drew
    replace HC1 := hidup (HC1.out.later hdr)
    replace HR := hidup (HR.out.later hdr)
    replace HW := hidup (HW.out.trans (hdr.mono HW.out.size))
    clear hdr hWd
    obtain ⟨B1, hB⟩ : ∃ B, B = W1.heap.size := ⟨_, rfl⟩
    have LHC1 : w.heap.size < B1 := by rw [hB]; exact HC1.out.lt
    have LHR : w.heap.size + 1 < B1 := by rw [hB]; exact HR.out.lt
    have HBs : Hid (B1 ≤ W1.heap.size) := Nat.le_of_eq hB
    have hwB : w.heap.size ≤ B1 := by rw [hB]; exact HW.out.size
    clear hB
    refine sched_begin (G := Below B1) (by kernel_rfl) (fun _ => Below.refl _ _) (fun _ _ _ h k => Below.trans h k) (by kernel_rfl) [(0, true), (2, true)] 4 #[true, false, true, false, false, false] rfl (by kernel_rfl) ?_
    intro KL hKL
    rw [HWd.out]
    refine sched_take rfl (by rfl) (v := .agg A.toArray) (fun w' hw' => exec_load_row 28 _ rfl (w.heap.size) rfl 28 _ (0, 0) _ (HC1.out.below hw' LHC1) Tryd.underlying28 rfl (elm_info HE1.out)) ?_
    go_simp
    refine sched_take rfl (by rfl) (v := .agg A.toArray) (fun w' hw' => exec_load_row 28 _ rfl (w.heap.size) rfl 28 _ (0, 0) _ (HC1.out.below hw' LHC1) Tryd.underlying28 rfl (elm_info HE1.out)) ?_
    go_simp
    refine hKL.out _ _ ?_
    clear hKL HWd
    refine sched_fork [1, 4] (by kernel_rfl) rfl ?_
    intro i hi
    simp only [List.mem_cons, List.not_mem_nil, or_false] at hi
    rcases hi with rfl | rfl
    · refine ⟨_, rfl, by rfl, oper_call (f := 36) (args := #[.agg A.toArray, .int .i64 ((3 : Nat) : Int)]) (by go_simp; try rfl) ?_⟩
      refine (fsquares_any 3 x 1 8 A W1 (by decide) HE1.out (by decide)).mono ?_
      rintro e V2 ⟨q3, rfl, he, hb⟩
      refine ⟨_, rfl, hb.mono HBs.out, ?_⟩
      have HEq : Hid (Elm q3 (pw x 8)) := he
      replace HBs : Hid (B1 ≤ V2.heap.size) := Nat.le_trans HBs.out hb.size
      replace HC1 := hidup (HC1.out.later hb)
      replace HR := hidup (HR.out.later hb)
      replace HW := hidup (HW.out.trans (hb.mono HW.out.size))
      clear hb he
      refine sched_fork [3, 4] (by kernel_rfl) rfl ?_
      intro i hi
      simp only [List.mem_cons, List.not_mem_nil, or_false] at hi
      rcases hi with rfl | rfl
      · refine ⟨_, rfl, by rfl, oper_call (f := 19) (args := #[.agg q3.toArray, .agg A.toArray]) (by go_simp) ?_⟩
        refine (fmul_any q3 A (pw x 8) (pw x 1) V2 HEq.out HE1.out).mono ?_
        rintro e V3 ⟨c3, rfl, he, hb⟩
        refine ⟨_, rfl, hb.mono HBs.out, ?_⟩
        rw [pw_add x 8 1 9 (by decide)] at he
        have HEc : Hid (Elm c3 (pw x 9)) := he
        replace HBs : Hid (B1 ≤ V3.heap.size) := Nat.le_trans HBs.out hb.size
        replace HC1 := hidup (HC1.out.later hb)
        replace HR := hidup (HR.out.later hb)
        replace HW := hidup (HW.out.trans (hb.mono HW.out.size))
        clear hb he
        refine sched_fork [4] (by kernel_rfl) rfl ?_
        intro i hi
        simp only [List.mem_cons, List.not_mem_nil, or_false] at hi
        subst hi
        refine ⟨_, rfl, by rfl, oper_val (v := .pointer (some ⟨V3.heap.size, 0, none⟩)) (w' := V3.alloc (.cells zeroE.toArray 28)) (by go_simp; rfl) ⟨(Below.refl _ _).alloc HBs.out _, ?_⟩⟩
        have hb : Below V3.heap.size V3 (V3.alloc (.cells zeroE.toArray 28)) := (Below.refl _ _).alloc (Nat.le_refl _) _
        have HZ : Hid (Cel (V3.alloc (.cells zeroE.toArray 28)) V3.heap.size zeroE) := Cel.new V3 zeroE
        have hgv : B1 ≤ V3.heap.size := HBs.out
        replace HBs : Hid (B1 ≤ (V3.alloc (.cells zeroE.toArray 28)).heap.size) := Nat.le_trans HBs.out hb.size
        replace HC1 := hidup (HC1.out.later hb)
        replace HR := hidup (HR.out.later hb)
        replace HW := hidup (HW.out.trans (hb.mono HW.out.size))
        clear hb
        generalize V3.alloc (.cells zeroE.toArray 28) = V4 at *
        generalize V3.heap.size = g3 at *
        have hst := store_row V4 g3 _ _ c3 HZ.out (by simp [HEc.out.len, zeroE_len]) HEc.out.one
        have HCv : Hid (Cel (V4.setRow g3 c3.toArray) g3 c3) := setRow_heap V4 g3 _ _ _ _ HZ.out
        replace HC1 := hidup (HC1.out.put_other (g' := g3) (by omega) c3.toArray)
        replace HR := hidup (HR.out.put_other (g' := g3) (by omega) c3.toArray)
        replace HW := hidup (below_setRow HW.out (g := g3) (by omega) c3.toArray)
        refine sched_end (G := Below B1) (fun _ => Below.refl _ _) (fun _ _ _ h k => Below.trans h k) (by kernel_rfl) [(5, false)] rfl (by kernel_rfl) ?_
        intro KM hKM
        go_simp
        have hlen := HEc.out.len
        refine sched_put rfl (by rfl) (w' := V4.setRow g3 c3.toArray) (by go_simp) (below_setRow (Below.refl _ _) hgv _) ?_
        go_simp
        exact hKM.out _ _ ⟨rfl, g3, q3, c3, rfl, HEc, HCv, HC1, HR, HW⟩
      · refine ⟨_, rfl, by rfl, oper_val (v := .pointer (some ⟨V2.heap.size, 0, none⟩)) (w' := V2.alloc (.cells zeroE.toArray 28)) (by go_simp; rfl) ⟨(Below.refl _ _).alloc HBs.out _, ?_⟩⟩
        have hb : Below V2.heap.size V2 (V2.alloc (.cells zeroE.toArray 28)) := (Below.refl _ _).alloc (Nat.le_refl _) _
        have HZ : Hid (Cel (V2.alloc (.cells zeroE.toArray 28)) V2.heap.size zeroE) := Cel.new V2 zeroE
        have hgv : B1 ≤ V2.heap.size := HBs.out
        replace HBs : Hid (B1 ≤ (V2.alloc (.cells zeroE.toArray 28)).heap.size) := Nat.le_trans HBs.out hb.size
        replace HC1 := hidup (HC1.out.later hb)
        replace HR := hidup (HR.out.later hb)
        replace HW := hidup (HW.out.trans (hb.mono HW.out.size))
        clear hb
        generalize V2.alloc (.cells zeroE.toArray 28) = V5 at *
        generalize V2.heap.size = g3 at *
        refine sched_fork [3] (by kernel_rfl) rfl ?_
        intro i hi
        simp only [List.mem_cons, List.not_mem_nil, or_false] at hi
        subst hi
        refine ⟨_, rfl, by rfl, oper_call (f := 19) (args := #[.agg q3.toArray, .agg A.toArray]) (by go_simp) ?_⟩
        refine (fmul_any q3 A (pw x 8) (pw x 1) V5 HEq.out HE1.out).mono ?_
        rintro e V6 ⟨c3, rfl, he, hb⟩
        refine ⟨_, rfl, hb.mono HBs.out, ?_⟩
        rw [pw_add x 8 1 9 (by decide)] at he
        have HEc : Hid (Elm c3 (pw x 9)) := he
        replace HBs : Hid (B1 ≤ V6.heap.size) := Nat.le_trans HBs.out hb.size
        replace HC1 := hidup (HC1.out.later hb)
        replace HR := hidup (HR.out.later hb)
        replace HZ := hidup (HZ.out.later hb)
        replace HW := hidup (HW.out.trans (hb.mono HW.out.size))
        clear hb he
        have hst := store_row V6 g3 _ _ c3 HZ.out (by simp [HEc.out.len, zeroE_len]) HEc.out.one
        have HCv : Hid (Cel (V6.setRow g3 c3.toArray) g3 c3) := setRow_heap V6 g3 _ _ _ _ HZ.out
        replace HC1 := hidup (HC1.out.put_other (g' := g3) (by omega) c3.toArray)
        replace HR := hidup (HR.out.put_other (g' := g3) (by omega) c3.toArray)
        replace HW := hidup (below_setRow HW.out (g := g3) (by omega) c3.toArray)
        refine sched_end (G := Below B1) (fun _ => Below.refl _ _) (fun _ _ _ h k => Below.trans h k) (by kernel_rfl) [(5, false)] rfl (by kernel_rfl) ?_
        intro KM hKM
        go_simp
        have hlen := HEc.out.len
        refine sched_put rfl (by rfl) (w' := V6.setRow g3 c3.toArray) (by go_simp) (below_setRow (Below.refl _ _) hgv _) ?_
        go_simp
        exact hKM.out _ _ ⟨rfl, g3, q3, c3, rfl, HEc, HCv, HC1, HR, HW⟩
    · refine ⟨_, rfl, by rfl, oper_val (v := .pointer (some ⟨W1.heap.size, 0, none⟩)) (w' := W1.alloc (.cells zeroE.toArray 28)) (by go_simp; rfl) ⟨(Below.refl _ _).alloc HBs.out _, ?_⟩⟩
      have hb : Below W1.heap.size W1 (W1.alloc (.cells zeroE.toArray 28)) := (Below.refl _ _).alloc (Nat.le_refl _) _
      have HZ : Hid (Cel (W1.alloc (.cells zeroE.toArray 28)) W1.heap.size zeroE) := Cel.new W1 zeroE
      have hgv : B1 ≤ W1.heap.size := HBs.out
      replace HBs : Hid (B1 ≤ (W1.alloc (.cells zeroE.toArray 28)).heap.size) := Nat.le_trans HBs.out hb.size
      replace HC1 := hidup (HC1.out.later hb)
      replace HR := hidup (HR.out.later hb)
      replace HW := hidup (HW.out.trans (hb.mono HW.out.size))
      clear hb
      generalize W1.alloc (.cells zeroE.toArray 28) = V7 at *
      generalize W1.heap.size = g3 at *
      refine sched_fork [1] (by kernel_rfl) rfl ?_
      intro i hi
      simp only [List.mem_cons, List.not_mem_nil, or_false] at hi
      subst hi
      refine ⟨_, rfl, by rfl, oper_call (f := 36) (args := #[.agg A.toArray, .int .i64 ((3 : Nat) : Int)]) (by go_simp; try rfl) ?_⟩
      refine (fsquares_any 3 x 1 8 A V7 (by decide) HE1.out (by decide)).mono ?_
      rintro e V8 ⟨q3, rfl, he, hb⟩
      refine ⟨_, rfl, hb.mono HBs.out, ?_⟩
      have HEq : Hid (Elm q3 (pw x 8)) := he
      replace HBs : Hid (B1 ≤ V8.heap.size) := Nat.le_trans HBs.out hb.size
      replace HC1 := hidup (HC1.out.later hb)
      replace HR := hidup (HR.out.later hb)
      replace HZ := hidup (HZ.out.later hb)
      replace HW := hidup (HW.out.trans (hb.mono HW.out.size))
      clear hb he
      refine sched_fork [3] (by kernel_rfl) rfl ?_
      intro i hi
      simp only [List.mem_cons, List.not_mem_nil, or_false] at hi
      subst hi
      refine ⟨_, rfl, by rfl, oper_call (f := 19) (args := #[.agg q3.toArray, .agg A.toArray]) (by go_simp) ?_⟩
      refine (fmul_any q3 A (pw x 8) (pw x 1) V8 HEq.out HE1.out).mono ?_
      rintro e V9 ⟨c3, rfl, he, hb⟩
      refine ⟨_, rfl, hb.mono HBs.out, ?_⟩
      rw [pw_add x 8 1 9 (by decide)] at he
      have HEc : Hid (Elm c3 (pw x 9)) := he
      replace HBs : Hid (B1 ≤ V9.heap.size) := Nat.le_trans HBs.out hb.size
      replace HC1 := hidup (HC1.out.later hb)
      replace HR := hidup (HR.out.later hb)
      replace HZ := hidup (HZ.out.later hb)
      replace HW := hidup (HW.out.trans (hb.mono HW.out.size))
      clear hb he
      have hst := store_row V9 g3 _ _ c3 HZ.out (by simp [HEc.out.len, zeroE_len]) HEc.out.one
      have HCv : Hid (Cel (V9.setRow g3 c3.toArray) g3 c3) := setRow_heap V9 g3 _ _ _ _ HZ.out
      replace HC1 := hidup (HC1.out.put_other (g' := g3) (by omega) c3.toArray)
      replace HR := hidup (HR.out.put_other (g' := g3) (by omega) c3.toArray)
      replace HW := hidup (below_setRow HW.out (g := g3) (by omega) c3.toArray)
      refine sched_end (G := Below B1) (fun _ => Below.refl _ _) (fun _ _ _ h k => Below.trans h k) (by kernel_rfl) [(5, false)] rfl (by kernel_rfl) ?_
      intro KM hKM
      go_simp
      have hlen := HEc.out.len
      refine sched_put rfl (by rfl) (w' := V9.setRow g3 c3.toArray) (by go_simp) (below_setRow (Below.refl _ _) hgv _) ?_
      go_simp
      exact hKM.out _ _ ⟨rfl, g3, q3, c3, rfl, HEc, HCv, HC1, HR, HW⟩
  · rintro a W10 ⟨g3, q3, c3, rfl, HE3, HC3, HC1, HR, HW⟩
    (try dsimp only)
    go_wp2
    refine wp_cut (fun a W => ∃ (g4 : Nat) (q4 c4 : List Value), a = { tmps := #[.agg A.toArray, .pointer (some ⟨w.heap.size, 0, none⟩), .pointer (some ⟨w.heap.size + 1, 0, none⟩), .pointer (some ⟨g3, 0, none⟩), .pointer (some ⟨g4, 0, none⟩), undef, undef, undef, undef, undef, undef, undef, undef, .agg A.toArray, .agg q3.toArray, .agg A.toArray, .agg c3.toArray, .agg A.toArray, .agg q4.toArray, .agg c3.toArray, .agg c4.toArray, undef, undef, undef, undef, undef, undef, undef, undef, undef, undef, undef, undef, undef, undef, undef, undef, undef, undef, undef, undef, undef, undef, undef, undef, undef, undef, undef, undef, undef, undef, undef, undef, undef, undef, undef, undef], defers := [] } ∧ Hid (Elm c4 (pw x 11)) ∧ Hid (Cel W g4 c4) ∧ Hid (Cel W (w.heap.size + 1) zeroE) ∧ Hid (Cel W g3 c3) ∧ Hid (Below w.heap.size w W)) ?_ ?_
    · obtain ⟨W11, hWd⟩ : ∃ W, W10.drew = W := ⟨_, rfl⟩
      have HWd : Hid (W10.drew = W11) := hWd
      have hdr : Below W10.heap.size W10 W11 := by rw [← hWd]; exact (Below.refl _ _).drew
      replace HC1 := hidup (HC1.out.later hdr)
      replace HR := hidup (HR.out.later hdr)
      replace HC3 := hidup (HC3.out.later hdr)
      replace HW := hidup (HW.out.trans (hdr.mono HW.out.size))
      clear hdr hWd
      obtain ⟨B11, hB⟩ : ∃ B, B = W11.heap.size := ⟨_, rfl⟩
      have LHC1 : w.heap.size < B11 := by rw [hB]; exact HC1.out.lt
      have LHR : w.heap.size + 1 < B11 := by rw [hB]; exact HR.out.lt
      have LHC3 : g3 < B11 := by rw [hB]; exact HC3.out.lt
      have HBs : Hid (B11 ≤ W11.heap.size) := Nat.le_of_eq hB
      have hwB : w.heap.size ≤ B11 := by rw [hB]; exact HW.out.size
      clear hB
      refine sched_begin (G := Below B11) (by kernel_rfl) (fun _ => Below.refl _ _) (fun _ _ _ h k => Below.trans h k) (by kernel_rfl) [(0, true), (2, true)] 4 #[true, false, true, false, false, false] rfl (by kernel_rfl) ?_
      intro KL hKL
      rw [HWd.out]
      refine sched_take rfl (by rfl) (v := .agg A.toArray) (fun w' hw' => exec_load_row 28 _ rfl (w.heap.size) rfl 28 _ (0, 0) _ (HC1.out.below hw' LHC1) Tryd.underlying28 rfl (elm_info HE1.out)) ?_
      go_simp
      refine sched_take rfl (by rfl) (v := .agg c3.toArray) (fun w' hw' => exec_load_row 28 _ rfl g3 rfl 28 _ (0, 0) _ (HC3.out.below hw' LHC3) Tryd.underlying28 rfl (elm_info HE3.out)) ?_
      go_simp
      refine hKL.out _ _ ?_
      clear hKL HWd HC1 LHC1
      refine sched_fork [1, 4] (by kernel_rfl) rfl ?_
      intro i hi
      simp only [List.mem_cons, List.not_mem_nil, or_false] at hi
      rcases hi with rfl | rfl
      · refine ⟨_, rfl, by rfl, oper_call (f := 36) (args := #[.agg A.toArray, .int .i64 ((1 : Nat) : Int)]) (by go_simp; try rfl) ?_⟩
        refine (fsquares_any 1 x 1 2 A W11 (by decide) HE1.out (by decide)).mono ?_
        rintro e V12 ⟨q4, rfl, he, hb⟩
        refine ⟨_, rfl, hb.mono HBs.out, ?_⟩
        have HEq : Hid (Elm q4 (pw x 2)) := he
        replace HBs : Hid (B11 ≤ V12.heap.size) := Nat.le_trans HBs.out hb.size
        replace HR := hidup (HR.out.later hb)
        replace HC3 := hidup (HC3.out.later hb)
        replace HW := hidup (HW.out.trans (hb.mono HW.out.size))
        clear hb he
        refine sched_fork [3, 4] (by kernel_rfl) rfl ?_
        intro i hi
        simp only [List.mem_cons, List.not_mem_nil, or_false] at hi
        rcases hi with rfl | rfl
        · refine ⟨_, rfl, by rfl, oper_call (f := 19) (args := #[.agg q4.toArray, .agg c3.toArray]) (by go_simp) ?_⟩
          refine (fmul_any q4 c3 (pw x 2) (pw x 9) V12 HEq.out HE3.out).mono ?_
          rintro e V13 ⟨c4, rfl, he, hb⟩
          refine ⟨_, rfl, hb.mono HBs.out, ?_⟩
          rw [pw_add x 2 9 11 (by decide)] at he
          have HEc : Hid (Elm c4 (pw x 11)) := he
          replace HBs : Hid (B11 ≤ V13.heap.size) := Nat.le_trans HBs.out hb.size
          replace HR := hidup (HR.out.later hb)
          replace HC3 := hidup (HC3.out.later hb)
          replace HW := hidup (HW.out.trans (hb.mono HW.out.size))
          clear hb he
          refine sched_fork [4] (by kernel_rfl) rfl ?_
          intro i hi
          simp only [List.mem_cons, List.not_mem_nil, or_false] at hi
          subst hi
          refine ⟨_, rfl, by rfl, oper_val (v := .pointer (some ⟨V13.heap.size, 0, none⟩)) (w' := V13.alloc (.cells zeroE.toArray 28)) (by go_simp; rfl) ⟨(Below.refl _ _).alloc HBs.out _, ?_⟩⟩
          have hb : Below V13.heap.size V13 (V13.alloc (.cells zeroE.toArray 28)) := (Below.refl _ _).alloc (Nat.le_refl _) _
          have HZ : Hid (Cel (V13.alloc (.cells zeroE.toArray 28)) V13.heap.size zeroE) := Cel.new V13 zeroE
          have hgv : B11 ≤ V13.heap.size := HBs.out
          replace HBs : Hid (B11 ≤ (V13.alloc (.cells zeroE.toArray 28)).heap.size) := Nat.le_trans HBs.out hb.size
          replace HR := hidup (HR.out.later hb)
          replace HC3 := hidup (HC3.out.later hb)
          replace HW := hidup (HW.out.trans (hb.mono HW.out.size))
          clear hb
          generalize V13.alloc (.cells zeroE.toArray 28) = V14 at *
          generalize V13.heap.size = g4 at *
          have hst := store_row V14 g4 _ _ c4 HZ.out (by simp [HEc.out.len, zeroE_len]) HEc.out.one
          have HCv : Hid (Cel (V14.setRow g4 c4.toArray) g4 c4) := setRow_heap V14 g4 _ _ _ _ HZ.out
          replace HR := hidup (HR.out.put_other (g' := g4) (by omega) c4.toArray)
          replace HC3 := hidup (HC3.out.put_other (g' := g4) (by omega) c4.toArray)
          replace HW := hidup (below_setRow HW.out (g := g4) (by omega) c4.toArray)
          refine sched_end (G := Below B11) (fun _ => Below.refl _ _) (fun _ _ _ h k => Below.trans h k) (by kernel_rfl) [(5, false)] rfl (by kernel_rfl) ?_
          intro KM hKM
          go_simp
          have hlen := HEc.out.len
          refine sched_put rfl (by rfl) (w' := V14.setRow g4 c4.toArray) (by go_simp) (below_setRow (Below.refl _ _) hgv _) ?_
          go_simp
          exact hKM.out _ _ ⟨rfl, g4, q4, c4, rfl, HEc, HCv, HR, HC3, HW⟩
        · refine ⟨_, rfl, by rfl, oper_val (v := .pointer (some ⟨V12.heap.size, 0, none⟩)) (w' := V12.alloc (.cells zeroE.toArray 28)) (by go_simp; rfl) ⟨(Below.refl _ _).alloc HBs.out _, ?_⟩⟩
          have hb : Below V12.heap.size V12 (V12.alloc (.cells zeroE.toArray 28)) := (Below.refl _ _).alloc (Nat.le_refl _) _
          have HZ : Hid (Cel (V12.alloc (.cells zeroE.toArray 28)) V12.heap.size zeroE) := Cel.new V12 zeroE
          have hgv : B11 ≤ V12.heap.size := HBs.out
          replace HBs : Hid (B11 ≤ (V12.alloc (.cells zeroE.toArray 28)).heap.size) := Nat.le_trans HBs.out hb.size
          replace HR := hidup (HR.out.later hb)
          replace HC3 := hidup (HC3.out.later hb)
          replace HW := hidup (HW.out.trans (hb.mono HW.out.size))
          clear hb
          generalize V12.alloc (.cells zeroE.toArray 28) = V15 at *
          generalize V12.heap.size = g4 at *
          refine sched_fork [3] (by kernel_rfl) rfl ?_
          intro i hi
          simp only [List.mem_cons, List.not_mem_nil, or_false] at hi
          subst hi
          refine ⟨_, rfl, by rfl, oper_call (f := 19) (args := #[.agg q4.toArray, .agg c3.toArray]) (by go_simp) ?_⟩
          refine (fmul_any q4 c3 (pw x 2) (pw x 9) V15 HEq.out HE3.out).mono ?_
          rintro e V16 ⟨c4, rfl, he, hb⟩
          refine ⟨_, rfl, hb.mono HBs.out, ?_⟩
          rw [pw_add x 2 9 11 (by decide)] at he
          have HEc : Hid (Elm c4 (pw x 11)) := he
          replace HBs : Hid (B11 ≤ V16.heap.size) := Nat.le_trans HBs.out hb.size
          replace HR := hidup (HR.out.later hb)
          replace HC3 := hidup (HC3.out.later hb)
          replace HZ := hidup (HZ.out.later hb)
          replace HW := hidup (HW.out.trans (hb.mono HW.out.size))
          clear hb he
          have hst := store_row V16 g4 _ _ c4 HZ.out (by simp [HEc.out.len, zeroE_len]) HEc.out.one
          have HCv : Hid (Cel (V16.setRow g4 c4.toArray) g4 c4) := setRow_heap V16 g4 _ _ _ _ HZ.out
          replace HR := hidup (HR.out.put_other (g' := g4) (by omega) c4.toArray)
          replace HC3 := hidup (HC3.out.put_other (g' := g4) (by omega) c4.toArray)
          replace HW := hidup (below_setRow HW.out (g := g4) (by omega) c4.toArray)
          refine sched_end (G := Below B11) (fun _ => Below.refl _ _) (fun _ _ _ h k => Below.trans h k) (by kernel_rfl) [(5, false)] rfl (by kernel_rfl) ?_
          intro KM hKM
          go_simp
          have hlen := HEc.out.len
          refine sched_put rfl (by rfl) (w' := V16.setRow g4 c4.toArray) (by go_simp) (below_setRow (Below.refl _ _) hgv _) ?_
          go_simp
          exact hKM.out _ _ ⟨rfl, g4, q4, c4, rfl, HEc, HCv, HR, HC3, HW⟩
      · refine ⟨_, rfl, by rfl, oper_val (v := .pointer (some ⟨W11.heap.size, 0, none⟩)) (w' := W11.alloc (.cells zeroE.toArray 28)) (by go_simp; rfl) ⟨(Below.refl _ _).alloc HBs.out _, ?_⟩⟩
        have hb : Below W11.heap.size W11 (W11.alloc (.cells zeroE.toArray 28)) := (Below.refl _ _).alloc (Nat.le_refl _) _
        have HZ : Hid (Cel (W11.alloc (.cells zeroE.toArray 28)) W11.heap.size zeroE) := Cel.new W11 zeroE
        have hgv : B11 ≤ W11.heap.size := HBs.out
        replace HBs : Hid (B11 ≤ (W11.alloc (.cells zeroE.toArray 28)).heap.size) := Nat.le_trans HBs.out hb.size
        replace HR := hidup (HR.out.later hb)
        replace HC3 := hidup (HC3.out.later hb)
        replace HW := hidup (HW.out.trans (hb.mono HW.out.size))
        clear hb
        generalize W11.alloc (.cells zeroE.toArray 28) = V17 at *
        generalize W11.heap.size = g4 at *
        refine sched_fork [1] (by kernel_rfl) rfl ?_
        intro i hi
        simp only [List.mem_cons, List.not_mem_nil, or_false] at hi
        subst hi
        refine ⟨_, rfl, by rfl, oper_call (f := 36) (args := #[.agg A.toArray, .int .i64 ((1 : Nat) : Int)]) (by go_simp; try rfl) ?_⟩
        refine (fsquares_any 1 x 1 2 A V17 (by decide) HE1.out (by decide)).mono ?_
        rintro e V18 ⟨q4, rfl, he, hb⟩
        refine ⟨_, rfl, hb.mono HBs.out, ?_⟩
        have HEq : Hid (Elm q4 (pw x 2)) := he
        replace HBs : Hid (B11 ≤ V18.heap.size) := Nat.le_trans HBs.out hb.size
        replace HR := hidup (HR.out.later hb)
        replace HC3 := hidup (HC3.out.later hb)
        replace HZ := hidup (HZ.out.later hb)
        replace HW := hidup (HW.out.trans (hb.mono HW.out.size))
        clear hb he
        refine sched_fork [3] (by kernel_rfl) rfl ?_
        intro i hi
        simp only [List.mem_cons, List.not_mem_nil, or_false] at hi
        subst hi
        refine ⟨_, rfl, by rfl, oper_call (f := 19) (args := #[.agg q4.toArray, .agg c3.toArray]) (by go_simp) ?_⟩
        refine (fmul_any q4 c3 (pw x 2) (pw x 9) V18 HEq.out HE3.out).mono ?_
        rintro e V19 ⟨c4, rfl, he, hb⟩
        refine ⟨_, rfl, hb.mono HBs.out, ?_⟩
        rw [pw_add x 2 9 11 (by decide)] at he
        have HEc : Hid (Elm c4 (pw x 11)) := he
        replace HBs : Hid (B11 ≤ V19.heap.size) := Nat.le_trans HBs.out hb.size
        replace HR := hidup (HR.out.later hb)
        replace HC3 := hidup (HC3.out.later hb)
        replace HZ := hidup (HZ.out.later hb)
        replace HW := hidup (HW.out.trans (hb.mono HW.out.size))
        clear hb he
        have hst := store_row V19 g4 _ _ c4 HZ.out (by simp [HEc.out.len, zeroE_len]) HEc.out.one
        have HCv : Hid (Cel (V19.setRow g4 c4.toArray) g4 c4) := setRow_heap V19 g4 _ _ _ _ HZ.out
        replace HR := hidup (HR.out.put_other (g' := g4) (by omega) c4.toArray)
        replace HC3 := hidup (HC3.out.put_other (g' := g4) (by omega) c4.toArray)
        replace HW := hidup (below_setRow HW.out (g := g4) (by omega) c4.toArray)
        refine sched_end (G := Below B11) (fun _ => Below.refl _ _) (fun _ _ _ h k => Below.trans h k) (by kernel_rfl) [(5, false)] rfl (by kernel_rfl) ?_
        intro KM hKM
        go_simp
        have hlen := HEc.out.len
        refine sched_put rfl (by rfl) (w' := V19.setRow g4 c4.toArray) (by go_simp) (below_setRow (Below.refl _ _) hgv _) ?_
        go_simp
        exact hKM.out _ _ ⟨rfl, g4, q4, c4, rfl, HEc, HCv, HR, HC3, HW⟩
    · rintro a W20 ⟨g4, q4, c4, rfl, HE4, HC4, HR, HC3, HW⟩
      (try dsimp only)
      go_wp2
      refine wp_cut (fun a W => ∃ (g5 : Nat) (q5 c5 : List Value), a = { tmps := #[.agg A.toArray, .pointer (some ⟨w.heap.size, 0, none⟩), .pointer (some ⟨w.heap.size + 1, 0, none⟩), .pointer (some ⟨g3, 0, none⟩), .pointer (some ⟨g4, 0, none⟩), .pointer (some ⟨g5, 0, none⟩), undef, undef, undef, undef, undef, undef, undef, .agg A.toArray, .agg q3.toArray, .agg A.toArray, .agg c3.toArray, .agg A.toArray, .agg q4.toArray, .agg c3.toArray, .agg c4.toArray, .agg c4.toArray, .agg q5.toArray, .agg c3.toArray, .agg c5.toArray, undef, undef, undef, undef, undef, undef, undef, undef, undef, undef, undef, undef, undef, undef, undef, undef, undef, undef, undef, undef, undef, undef, undef, undef, undef, undef, undef, undef, undef, undef, undef, undef], defers := [] } ∧ Hid (Elm c5 (pw x 31)) ∧ Hid (Cel W g5 c5) ∧ Hid (Cel W (w.heap.size + 1) zeroE) ∧ Hid (Cel W g4 c4) ∧ Hid (Below w.heap.size w W)) ?_ ?_
      · obtain ⟨W21, hWd⟩ : ∃ W, W20.drew = W := ⟨_, rfl⟩
        have HWd : Hid (W20.drew = W21) := hWd
        have hdr : Below W20.heap.size W20 W21 := by rw [← hWd]; exact (Below.refl _ _).drew
        replace HR := hidup (HR.out.later hdr)
        replace HC3 := hidup (HC3.out.later hdr)
        replace HC4 := hidup (HC4.out.later hdr)
        replace HW := hidup (HW.out.trans (hdr.mono HW.out.size))
        clear hdr hWd
        obtain ⟨B21, hB⟩ : ∃ B, B = W21.heap.size := ⟨_, rfl⟩
        have LHR : w.heap.size + 1 < B21 := by rw [hB]; exact HR.out.lt
        have LHC3 : g3 < B21 := by rw [hB]; exact HC3.out.lt
        have LHC4 : g4 < B21 := by rw [hB]; exact HC4.out.lt
        have HBs : Hid (B21 ≤ W21.heap.size) := Nat.le_of_eq hB
        have hwB : w.heap.size ≤ B21 := by rw [hB]; exact HW.out.size
        clear hB
        refine sched_begin (G := Below B21) (by kernel_rfl) (fun _ => Below.refl _ _) (fun _ _ _ h k => Below.trans h k) (by kernel_rfl) [(0, true), (2, true)] 4 #[true, false, true, false, false, false] rfl (by kernel_rfl) ?_
        intro KL hKL
        rw [HWd.out]
        refine sched_take rfl (by rfl) (v := .agg c4.toArray) (fun w' hw' => exec_load_row 28 _ rfl g4 rfl 28 _ (0, 0) _ (HC4.out.below hw' LHC4) Tryd.underlying28 rfl (elm_info HE4.out)) ?_
        go_simp
        refine sched_take rfl (by rfl) (v := .agg c3.toArray) (fun w' hw' => exec_load_row 28 _ rfl g3 rfl 28 _ (0, 0) _ (HC3.out.below hw' LHC3) Tryd.underlying28 rfl (elm_info HE3.out)) ?_
        go_simp
        refine hKL.out _ _ ?_
        clear hKL HWd HC3 LHC3
        refine sched_fork [1, 4] (by kernel_rfl) rfl ?_
        intro i hi
        simp only [List.mem_cons, List.not_mem_nil, or_false] at hi
        rcases hi with rfl | rfl
        · refine ⟨_, rfl, by rfl, oper_call (f := 36) (args := #[.agg c4.toArray, .int .i64 ((1 : Nat) : Int)]) (by go_simp; try rfl) ?_⟩
          refine (fsquares_any 1 x 11 22 c4 W21 (by decide) HE4.out (by decide)).mono ?_
          rintro e V22 ⟨q5, rfl, he, hb⟩
          refine ⟨_, rfl, hb.mono HBs.out, ?_⟩
          have HEq : Hid (Elm q5 (pw x 22)) := he
          replace HBs : Hid (B21 ≤ V22.heap.size) := Nat.le_trans HBs.out hb.size
          replace HR := hidup (HR.out.later hb)
          replace HC4 := hidup (HC4.out.later hb)
          replace HW := hidup (HW.out.trans (hb.mono HW.out.size))
          clear hb he
          refine sched_fork [3, 4] (by kernel_rfl) rfl ?_
          intro i hi
          simp only [List.mem_cons, List.not_mem_nil, or_false] at hi
          rcases hi with rfl | rfl
          · refine ⟨_, rfl, by rfl, oper_call (f := 19) (args := #[.agg q5.toArray, .agg c3.toArray]) (by go_simp) ?_⟩
            refine (fmul_any q5 c3 (pw x 22) (pw x 9) V22 HEq.out HE3.out).mono ?_
            rintro e V23 ⟨c5, rfl, he, hb⟩
            refine ⟨_, rfl, hb.mono HBs.out, ?_⟩
            rw [pw_add x 22 9 31 (by decide)] at he
            have HEc : Hid (Elm c5 (pw x 31)) := he
            replace HBs : Hid (B21 ≤ V23.heap.size) := Nat.le_trans HBs.out hb.size
            replace HR := hidup (HR.out.later hb)
            replace HC4 := hidup (HC4.out.later hb)
            replace HW := hidup (HW.out.trans (hb.mono HW.out.size))
            clear hb he
            refine sched_fork [4] (by kernel_rfl) rfl ?_
            intro i hi
            simp only [List.mem_cons, List.not_mem_nil, or_false] at hi
            subst hi
            refine ⟨_, rfl, by rfl, oper_val (v := .pointer (some ⟨V23.heap.size, 0, none⟩)) (w' := V23.alloc (.cells zeroE.toArray 28)) (by go_simp; rfl) ⟨(Below.refl _ _).alloc HBs.out _, ?_⟩⟩
            have hb : Below V23.heap.size V23 (V23.alloc (.cells zeroE.toArray 28)) := (Below.refl _ _).alloc (Nat.le_refl _) _
            have HZ : Hid (Cel (V23.alloc (.cells zeroE.toArray 28)) V23.heap.size zeroE) := Cel.new V23 zeroE
            have hgv : B21 ≤ V23.heap.size := HBs.out
            replace HBs : Hid (B21 ≤ (V23.alloc (.cells zeroE.toArray 28)).heap.size) := Nat.le_trans HBs.out hb.size
            replace HR := hidup (HR.out.later hb)
            replace HC4 := hidup (HC4.out.later hb)
            replace HW := hidup (HW.out.trans (hb.mono HW.out.size))
            clear hb
            generalize V23.alloc (.cells zeroE.toArray 28) = V24 at *
            generalize V23.heap.size = g5 at *
            have hst := store_row V24 g5 _ _ c5 HZ.out (by simp [HEc.out.len, zeroE_len]) HEc.out.one
            have HCv : Hid (Cel (V24.setRow g5 c5.toArray) g5 c5) := setRow_heap V24 g5 _ _ _ _ HZ.out
            replace HR := hidup (HR.out.put_other (g' := g5) (by omega) c5.toArray)
            replace HC4 := hidup (HC4.out.put_other (g' := g5) (by omega) c5.toArray)
            replace HW := hidup (below_setRow HW.out (g := g5) (by omega) c5.toArray)
            refine sched_end (G := Below B21) (fun _ => Below.refl _ _) (fun _ _ _ h k => Below.trans h k) (by kernel_rfl) [(5, false)] rfl (by kernel_rfl) ?_
            intro KM hKM
            go_simp
            have hlen := HEc.out.len
            refine sched_put rfl (by rfl) (w' := V24.setRow g5 c5.toArray) (by go_simp) (below_setRow (Below.refl _ _) hgv _) ?_
            go_simp
            exact hKM.out _ _ ⟨rfl, g5, q5, c5, rfl, HEc, HCv, HR, HC4, HW⟩
          · refine ⟨_, rfl, by rfl, oper_val (v := .pointer (some ⟨V22.heap.size, 0, none⟩)) (w' := V22.alloc (.cells zeroE.toArray 28)) (by go_simp; rfl) ⟨(Below.refl _ _).alloc HBs.out _, ?_⟩⟩
            have hb : Below V22.heap.size V22 (V22.alloc (.cells zeroE.toArray 28)) := (Below.refl _ _).alloc (Nat.le_refl _) _
            have HZ : Hid (Cel (V22.alloc (.cells zeroE.toArray 28)) V22.heap.size zeroE) := Cel.new V22 zeroE
            have hgv : B21 ≤ V22.heap.size := HBs.out
            replace HBs : Hid (B21 ≤ (V22.alloc (.cells zeroE.toArray 28)).heap.size) := Nat.le_trans HBs.out hb.size
            replace HR := hidup (HR.out.later hb)
            replace HC4 := hidup (HC4.out.later hb)
            replace HW := hidup (HW.out.trans (hb.mono HW.out.size))
            clear hb
            generalize V22.alloc (.cells zeroE.toArray 28) = V25 at *
            generalize V22.heap.size = g5 at *
            refine sched_fork [3] (by kernel_rfl) rfl ?_
            intro i hi
            simp only [List.mem_cons, List.not_mem_nil, or_false] at hi
            subst hi
            refine ⟨_, rfl, by rfl, oper_call (f := 19) (args := #[.agg q5.toArray, .agg c3.toArray]) (by go_simp) ?_⟩
            refine (fmul_any q5 c3 (pw x 22) (pw x 9) V25 HEq.out HE3.out).mono ?_
            rintro e V26 ⟨c5, rfl, he, hb⟩
            refine ⟨_, rfl, hb.mono HBs.out, ?_⟩
            rw [pw_add x 22 9 31 (by decide)] at he
            have HEc : Hid (Elm c5 (pw x 31)) := he
            replace HBs : Hid (B21 ≤ V26.heap.size) := Nat.le_trans HBs.out hb.size
            replace HR := hidup (HR.out.later hb)
            replace HC4 := hidup (HC4.out.later hb)
            replace HZ := hidup (HZ.out.later hb)
            replace HW := hidup (HW.out.trans (hb.mono HW.out.size))
            clear hb he
            have hst := store_row V26 g5 _ _ c5 HZ.out (by simp [HEc.out.len, zeroE_len]) HEc.out.one
            have HCv : Hid (Cel (V26.setRow g5 c5.toArray) g5 c5) := setRow_heap V26 g5 _ _ _ _ HZ.out
            replace HR := hidup (HR.out.put_other (g' := g5) (by omega) c5.toArray)
            replace HC4 := hidup (HC4.out.put_other (g' := g5) (by omega) c5.toArray)
            replace HW := hidup (below_setRow HW.out (g := g5) (by omega) c5.toArray)
            refine sched_end (G := Below B21) (fun _ => Below.refl _ _) (fun _ _ _ h k => Below.trans h k) (by kernel_rfl) [(5, false)] rfl (by kernel_rfl) ?_
            intro KM hKM
            go_simp
            have hlen := HEc.out.len
            refine sched_put rfl (by rfl) (w' := V26.setRow g5 c5.toArray) (by go_simp) (below_setRow (Below.refl _ _) hgv _) ?_
            go_simp
            exact hKM.out _ _ ⟨rfl, g5, q5, c5, rfl, HEc, HCv, HR, HC4, HW⟩
        · refine ⟨_, rfl, by rfl, oper_val (v := .pointer (some ⟨W21.heap.size, 0, none⟩)) (w' := W21.alloc (.cells zeroE.toArray 28)) (by go_simp; rfl) ⟨(Below.refl _ _).alloc HBs.out _, ?_⟩⟩
          have hb : Below W21.heap.size W21 (W21.alloc (.cells zeroE.toArray 28)) := (Below.refl _ _).alloc (Nat.le_refl _) _
          have HZ : Hid (Cel (W21.alloc (.cells zeroE.toArray 28)) W21.heap.size zeroE) := Cel.new W21 zeroE
          have hgv : B21 ≤ W21.heap.size := HBs.out
          replace HBs : Hid (B21 ≤ (W21.alloc (.cells zeroE.toArray 28)).heap.size) := Nat.le_trans HBs.out hb.size
          replace HR := hidup (HR.out.later hb)
          replace HC4 := hidup (HC4.out.later hb)
          replace HW := hidup (HW.out.trans (hb.mono HW.out.size))
          clear hb
          generalize W21.alloc (.cells zeroE.toArray 28) = V27 at *
          generalize W21.heap.size = g5 at *
          refine sched_fork [1] (by kernel_rfl) rfl ?_
          intro i hi
          simp only [List.mem_cons, List.not_mem_nil, or_false] at hi
          subst hi
          refine ⟨_, rfl, by rfl, oper_call (f := 36) (args := #[.agg c4.toArray, .int .i64 ((1 : Nat) : Int)]) (by go_simp; try rfl) ?_⟩
          refine (fsquares_any 1 x 11 22 c4 V27 (by decide) HE4.out (by decide)).mono ?_
          rintro e V28 ⟨q5, rfl, he, hb⟩
          refine ⟨_, rfl, hb.mono HBs.out, ?_⟩
          have HEq : Hid (Elm q5 (pw x 22)) := he
          replace HBs : Hid (B21 ≤ V28.heap.size) := Nat.le_trans HBs.out hb.size
          replace HR := hidup (HR.out.later hb)
          replace HC4 := hidup (HC4.out.later hb)
          replace HZ := hidup (HZ.out.later hb)
          replace HW := hidup (HW.out.trans (hb.mono HW.out.size))
          clear hb he
          refine sched_fork [3] (by kernel_rfl) rfl ?_
          intro i hi
          simp only [List.mem_cons, List.not_mem_nil, or_false] at hi
          subst hi
          refine ⟨_, rfl, by rfl, oper_call (f := 19) (args := #[.agg q5.toArray, .agg c3.toArray]) (by go_simp) ?_⟩
          refine (fmul_any q5 c3 (pw x 22) (pw x 9) V28 HEq.out HE3.out).mono ?_
          rintro e V29 ⟨c5, rfl, he, hb⟩
          refine ⟨_, rfl, hb.mono HBs.out, ?_⟩
          rw [pw_add x 22 9 31 (by decide)] at he
          have HEc : Hid (Elm c5 (pw x 31)) := he
          replace HBs : Hid (B21 ≤ V29.heap.size) := Nat.le_trans HBs.out hb.size
          replace HR := hidup (HR.out.later hb)
          replace HC4 := hidup (HC4.out.later hb)
          replace HZ := hidup (HZ.out.later hb)
          replace HW := hidup (HW.out.trans (hb.mono HW.out.size))
          clear hb he
          have hst := store_row V29 g5 _ _ c5 HZ.out (by simp [HEc.out.len, zeroE_len]) HEc.out.one
          have HCv : Hid (Cel (V29.setRow g5 c5.toArray) g5 c5) := setRow_heap V29 g5 _ _ _ _ HZ.out
          replace HR := hidup (HR.out.put_other (g' := g5) (by omega) c5.toArray)
          replace HC4 := hidup (HC4.out.put_other (g' := g5) (by omega) c5.toArray)
          replace HW := hidup (below_setRow HW.out (g := g5) (by omega) c5.toArray)
          refine sched_end (G := Below B21) (fun _ => Below.refl _ _) (fun _ _ _ h k => Below.trans h k) (by kernel_rfl) [(5, false)] rfl (by kernel_rfl) ?_
          intro KM hKM
          go_simp
          have hlen := HEc.out.len
          refine sched_put rfl (by rfl) (w' := V29.setRow g5 c5.toArray) (by go_simp) (below_setRow (Below.refl _ _) hgv _) ?_
          go_simp
          exact hKM.out _ _ ⟨rfl, g5, q5, c5, rfl, HEc, HCv, HR, HC4, HW⟩
      · rintro a W30 ⟨g5, q5, c5, rfl, HE5, HC5, HR, HC4, HW⟩
        (try dsimp only)
        go_wp2
        refine wp_cut (fun a W => ∃ (g6 : Nat) (q6 c6 : List Value), a = { tmps := #[.agg A.toArray, .pointer (some ⟨w.heap.size, 0, none⟩), .pointer (some ⟨w.heap.size + 1, 0, none⟩), .pointer (some ⟨g3, 0, none⟩), .pointer (some ⟨g4, 0, none⟩), .pointer (some ⟨g5, 0, none⟩), .pointer (some ⟨g6, 0, none⟩), undef, undef, undef, undef, undef, undef, .agg A.toArray, .agg q3.toArray, .agg A.toArray, .agg c3.toArray, .agg A.toArray, .agg q4.toArray, .agg c3.toArray, .agg c4.toArray, .agg c4.toArray, .agg q5.toArray, .agg c3.toArray, .agg c5.toArray, .agg c5.toArray, .agg q6.toArray, .agg c5.toArray, .agg c6.toArray, undef, undef, undef, undef, undef, undef, undef, undef, undef, undef, undef, undef, undef, undef, undef, undef, undef, undef, undef, undef, undef, undef, undef, undef, undef, undef, undef, undef], defers := [] } ∧ Hid (Elm c6 (pw x 1023)) ∧ Hid (Cel W g6 c6) ∧ Hid (Cel W (w.heap.size + 1) zeroE) ∧ Hid (Cel W g4 c4) ∧ Hid (Below w.heap.size w W)) ?_ ?_
        · obtain ⟨W31, hWd⟩ : ∃ W, W30.drew = W := ⟨_, rfl⟩
          have HWd : Hid (W30.drew = W31) := hWd
          have hdr : Below W30.heap.size W30 W31 := by rw [← hWd]; exact (Below.refl _ _).drew
          replace HR := hidup (HR.out.later hdr)
          replace HC4 := hidup (HC4.out.later hdr)
          replace HC5 := hidup (HC5.out.later hdr)
          replace HW := hidup (HW.out.trans (hdr.mono HW.out.size))
          clear hdr hWd
          obtain ⟨B31, hB⟩ : ∃ B, B = W31.heap.size := ⟨_, rfl⟩
          have LHR : w.heap.size + 1 < B31 := by rw [hB]; exact HR.out.lt
          have LHC4 : g4 < B31 := by rw [hB]; exact HC4.out.lt
          have LHC5 : g5 < B31 := by rw [hB]; exact HC5.out.lt
          have HBs : Hid (B31 ≤ W31.heap.size) := Nat.le_of_eq hB
          have hwB : w.heap.size ≤ B31 := by rw [hB]; exact HW.out.size
          clear hB
          refine sched_begin (G := Below B31) (by kernel_rfl) (fun _ => Below.refl _ _) (fun _ _ _ h k => Below.trans h k) (by kernel_rfl) [(0, true), (2, true)] 4 #[true, false, true, false, false, false] rfl (by kernel_rfl) ?_
          intro KL hKL
          rw [HWd.out]
          refine sched_take rfl (by rfl) (v := .agg c5.toArray) (fun w' hw' => exec_load_row 28 _ rfl g5 rfl 28 _ (0, 0) _ (HC5.out.below hw' LHC5) Tryd.underlying28 rfl (elm_info HE5.out)) ?_
          go_simp
          refine sched_take rfl (by rfl) (v := .agg c5.toArray) (fun w' hw' => exec_load_row 28 _ rfl g5 rfl 28 _ (0, 0) _ (HC5.out.below hw' LHC5) Tryd.underlying28 rfl (elm_info HE5.out)) ?_
          go_simp
          refine hKL.out _ _ ?_
          clear hKL HWd HC5 LHC5
          refine sched_fork [1, 4] (by kernel_rfl) rfl ?_
          intro i hi
          simp only [List.mem_cons, List.not_mem_nil, or_false] at hi
          rcases hi with rfl | rfl
          · refine ⟨_, rfl, by rfl, oper_call (f := 36) (args := #[.agg c5.toArray, .int .i64 ((5 : Nat) : Int)]) (by go_simp; try rfl) ?_⟩
            refine (fsquares_any 5 x 31 992 c5 W31 (by decide) HE5.out (by decide)).mono ?_
            rintro e V32 ⟨q6, rfl, he, hb⟩
            refine ⟨_, rfl, hb.mono HBs.out, ?_⟩
            have HEq : Hid (Elm q6 (pw x 992)) := he
            replace HBs : Hid (B31 ≤ V32.heap.size) := Nat.le_trans HBs.out hb.size
            replace HR := hidup (HR.out.later hb)
            replace HC4 := hidup (HC4.out.later hb)
            replace HW := hidup (HW.out.trans (hb.mono HW.out.size))
            clear hb he
            refine sched_fork [3, 4] (by kernel_rfl) rfl ?_
            intro i hi
            simp only [List.mem_cons, List.not_mem_nil, or_false] at hi
            rcases hi with rfl | rfl
            · refine ⟨_, rfl, by rfl, oper_call (f := 19) (args := #[.agg q6.toArray, .agg c5.toArray]) (by go_simp) ?_⟩
              refine (fmul_any q6 c5 (pw x 992) (pw x 31) V32 HEq.out HE5.out).mono ?_
              rintro e V33 ⟨c6, rfl, he, hb⟩
              refine ⟨_, rfl, hb.mono HBs.out, ?_⟩
              rw [pw_add x 992 31 1023 (by decide)] at he
              have HEc : Hid (Elm c6 (pw x 1023)) := he
              replace HBs : Hid (B31 ≤ V33.heap.size) := Nat.le_trans HBs.out hb.size
              replace HR := hidup (HR.out.later hb)
              replace HC4 := hidup (HC4.out.later hb)
              replace HW := hidup (HW.out.trans (hb.mono HW.out.size))
              clear hb he
              refine sched_fork [4] (by kernel_rfl) rfl ?_
              intro i hi
              simp only [List.mem_cons, List.not_mem_nil, or_false] at hi
              subst hi
              refine ⟨_, rfl, by rfl, oper_val (v := .pointer (some ⟨V33.heap.size, 0, none⟩)) (w' := V33.alloc (.cells zeroE.toArray 28)) (by go_simp; rfl) ⟨(Below.refl _ _).alloc HBs.out _, ?_⟩⟩
              have hb : Below V33.heap.size V33 (V33.alloc (.cells zeroE.toArray 28)) := (Below.refl _ _).alloc (Nat.le_refl _) _
              have HZ : Hid (Cel (V33.alloc (.cells zeroE.toArray 28)) V33.heap.size zeroE) := Cel.new V33 zeroE
              have hgv : B31 ≤ V33.heap.size := HBs.out
              replace HBs : Hid (B31 ≤ (V33.alloc (.cells zeroE.toArray 28)).heap.size) := Nat.le_trans HBs.out hb.size
              replace HR := hidup (HR.out.later hb)
              replace HC4 := hidup (HC4.out.later hb)
              replace HW := hidup (HW.out.trans (hb.mono HW.out.size))
              clear hb
              generalize V33.alloc (.cells zeroE.toArray 28) = V34 at *
              generalize V33.heap.size = g6 at *
              have hst := store_row V34 g6 _ _ c6 HZ.out (by simp [HEc.out.len, zeroE_len]) HEc.out.one
              have HCv : Hid (Cel (V34.setRow g6 c6.toArray) g6 c6) := setRow_heap V34 g6 _ _ _ _ HZ.out
              replace HR := hidup (HR.out.put_other (g' := g6) (by omega) c6.toArray)
              replace HC4 := hidup (HC4.out.put_other (g' := g6) (by omega) c6.toArray)
              replace HW := hidup (below_setRow HW.out (g := g6) (by omega) c6.toArray)
              refine sched_end (G := Below B31) (fun _ => Below.refl _ _) (fun _ _ _ h k => Below.trans h k) (by kernel_rfl) [(5, false)] rfl (by kernel_rfl) ?_
              intro KM hKM
              go_simp
              have hlen := HEc.out.len
              refine sched_put rfl (by rfl) (w' := V34.setRow g6 c6.toArray) (by go_simp) (below_setRow (Below.refl _ _) hgv _) ?_
              go_simp
              exact hKM.out _ _ ⟨rfl, g6, q6, c6, rfl, HEc, HCv, HR, HC4, HW⟩
            · refine ⟨_, rfl, by rfl, oper_val (v := .pointer (some ⟨V32.heap.size, 0, none⟩)) (w' := V32.alloc (.cells zeroE.toArray 28)) (by go_simp; rfl) ⟨(Below.refl _ _).alloc HBs.out _, ?_⟩⟩
              have hb : Below V32.heap.size V32 (V32.alloc (.cells zeroE.toArray 28)) := (Below.refl _ _).alloc (Nat.le_refl _) _
              have HZ : Hid (Cel (V32.alloc (.cells zeroE.toArray 28)) V32.heap.size zeroE) := Cel.new V32 zeroE
              have hgv : B31 ≤ V32.heap.size := HBs.out
              replace HBs : Hid (B31 ≤ (V32.alloc (.cells zeroE.toArray 28)).heap.size) := Nat.le_trans HBs.out hb.size
              replace HR := hidup (HR.out.later hb)
              replace HC4 := hidup (HC4.out.later hb)
              replace HW := hidup (HW.out.trans (hb.mono HW.out.size))
              clear hb
              generalize V32.alloc (.cells zeroE.toArray 28) = V35 at *
              generalize V32.heap.size = g6 at *
              refine sched_fork [3] (by kernel_rfl) rfl ?_
              intro i hi
              simp only [List.mem_cons, List.not_mem_nil, or_false] at hi
              subst hi
              refine ⟨_, rfl, by rfl, oper_call (f := 19) (args := #[.agg q6.toArray, .agg c5.toArray]) (by go_simp) ?_⟩
              refine (fmul_any q6 c5 (pw x 992) (pw x 31) V35 HEq.out HE5.out).mono ?_
              rintro e V36 ⟨c6, rfl, he, hb⟩
              refine ⟨_, rfl, hb.mono HBs.out, ?_⟩
              rw [pw_add x 992 31 1023 (by decide)] at he
              have HEc : Hid (Elm c6 (pw x 1023)) := he
              replace HBs : Hid (B31 ≤ V36.heap.size) := Nat.le_trans HBs.out hb.size
              replace HR := hidup (HR.out.later hb)
              replace HC4 := hidup (HC4.out.later hb)
              replace HZ := hidup (HZ.out.later hb)
              replace HW := hidup (HW.out.trans (hb.mono HW.out.size))
              clear hb he
              have hst := store_row V36 g6 _ _ c6 HZ.out (by simp [HEc.out.len, zeroE_len]) HEc.out.one
              have HCv : Hid (Cel (V36.setRow g6 c6.toArray) g6 c6) := setRow_heap V36 g6 _ _ _ _ HZ.out
              replace HR := hidup (HR.out.put_other (g' := g6) (by omega) c6.toArray)
              replace HC4 := hidup (HC4.out.put_other (g' := g6) (by omega) c6.toArray)
              replace HW := hidup (below_setRow HW.out (g := g6) (by omega) c6.toArray)
              refine sched_end (G := Below B31) (fun _ => Below.refl _ _) (fun _ _ _ h k => Below.trans h k) (by kernel_rfl) [(5, false)] rfl (by kernel_rfl) ?_
              intro KM hKM
              go_simp
              have hlen := HEc.out.len
              refine sched_put rfl (by rfl) (w' := V36.setRow g6 c6.toArray) (by go_simp) (below_setRow (Below.refl _ _) hgv _) ?_
              go_simp
              exact hKM.out _ _ ⟨rfl, g6, q6, c6, rfl, HEc, HCv, HR, HC4, HW⟩
          · refine ⟨_, rfl, by rfl, oper_val (v := .pointer (some ⟨W31.heap.size, 0, none⟩)) (w' := W31.alloc (.cells zeroE.toArray 28)) (by go_simp; rfl) ⟨(Below.refl _ _).alloc HBs.out _, ?_⟩⟩
            have hb : Below W31.heap.size W31 (W31.alloc (.cells zeroE.toArray 28)) := (Below.refl _ _).alloc (Nat.le_refl _) _
            have HZ : Hid (Cel (W31.alloc (.cells zeroE.toArray 28)) W31.heap.size zeroE) := Cel.new W31 zeroE
            have hgv : B31 ≤ W31.heap.size := HBs.out
            replace HBs : Hid (B31 ≤ (W31.alloc (.cells zeroE.toArray 28)).heap.size) := Nat.le_trans HBs.out hb.size
            replace HR := hidup (HR.out.later hb)
            replace HC4 := hidup (HC4.out.later hb)
            replace HW := hidup (HW.out.trans (hb.mono HW.out.size))
            clear hb
            generalize W31.alloc (.cells zeroE.toArray 28) = V37 at *
            generalize W31.heap.size = g6 at *
            refine sched_fork [1] (by kernel_rfl) rfl ?_
            intro i hi
            simp only [List.mem_cons, List.not_mem_nil, or_false] at hi
            subst hi
            refine ⟨_, rfl, by rfl, oper_call (f := 36) (args := #[.agg c5.toArray, .int .i64 ((5 : Nat) : Int)]) (by go_simp; try rfl) ?_⟩
            refine (fsquares_any 5 x 31 992 c5 V37 (by decide) HE5.out (by decide)).mono ?_
            rintro e V38 ⟨q6, rfl, he, hb⟩
            refine ⟨_, rfl, hb.mono HBs.out, ?_⟩
            have HEq : Hid (Elm q6 (pw x 992)) := he
            replace HBs : Hid (B31 ≤ V38.heap.size) := Nat.le_trans HBs.out hb.size
            replace HR := hidup (HR.out.later hb)
            replace HC4 := hidup (HC4.out.later hb)
            replace HZ := hidup (HZ.out.later hb)
            replace HW := hidup (HW.out.trans (hb.mono HW.out.size))
            clear hb he
            refine sched_fork [3] (by kernel_rfl) rfl ?_
            intro i hi
            simp only [List.mem_cons, List.not_mem_nil, or_false] at hi
            subst hi
            refine ⟨_, rfl, by rfl, oper_call (f := 19) (args := #[.agg q6.toArray, .agg c5.toArray]) (by go_simp) ?_⟩
            refine (fmul_any q6 c5 (pw x 992) (pw x 31) V38 HEq.out HE5.out).mono ?_
            rintro e V39 ⟨c6, rfl, he, hb⟩
            refine ⟨_, rfl, hb.mono HBs.out, ?_⟩
            rw [pw_add x 992 31 1023 (by decide)] at he
            have HEc : Hid (Elm c6 (pw x 1023)) := he
            replace HBs : Hid (B31 ≤ V39.heap.size) := Nat.le_trans HBs.out hb.size
            replace HR := hidup (HR.out.later hb)
            replace HC4 := hidup (HC4.out.later hb)
            replace HZ := hidup (HZ.out.later hb)
            replace HW := hidup (HW.out.trans (hb.mono HW.out.size))
            clear hb he
            have hst := store_row V39 g6 _ _ c6 HZ.out (by simp [HEc.out.len, zeroE_len]) HEc.out.one
            have HCv : Hid (Cel (V39.setRow g6 c6.toArray) g6 c6) := setRow_heap V39 g6 _ _ _ _ HZ.out
            replace HR := hidup (HR.out.put_other (g' := g6) (by omega) c6.toArray)
            replace HC4 := hidup (HC4.out.put_other (g' := g6) (by omega) c6.toArray)
            replace HW := hidup (below_setRow HW.out (g := g6) (by omega) c6.toArray)
            refine sched_end (G := Below B31) (fun _ => Below.refl _ _) (fun _ _ _ h k => Below.trans h k) (by kernel_rfl) [(5, false)] rfl (by kernel_rfl) ?_
            intro KM hKM
            go_simp
            have hlen := HEc.out.len
            refine sched_put rfl (by rfl) (w' := V39.setRow g6 c6.toArray) (by go_simp) (below_setRow (Below.refl _ _) hgv _) ?_
            go_simp
            exact hKM.out _ _ ⟨rfl, g6, q6, c6, rfl, HEc, HCv, HR, HC4, HW⟩
        · rintro a W40 ⟨g6, q6, c6, rfl, HE6, HC6, HR, HC4, HW⟩
          (try dsimp only)
          go_wp2
          refine wp_cut (fun a W => ∃ (g7 : Nat) (q7 c7 : List Value), a = { tmps := #[.agg A.toArray, .pointer (some ⟨w.heap.size, 0, none⟩), .pointer (some ⟨w.heap.size + 1, 0, none⟩), .pointer (some ⟨g3, 0, none⟩), .pointer (some ⟨g4, 0, none⟩), .pointer (some ⟨g5, 0, none⟩), .pointer (some ⟨g6, 0, none⟩), .pointer (some ⟨g7, 0, none⟩), undef, undef, undef, undef, undef, .agg A.toArray, .agg q3.toArray, .agg A.toArray, .agg c3.toArray, .agg A.toArray, .agg q4.toArray, .agg c3.toArray, .agg c4.toArray, .agg c4.toArray, .agg q5.toArray, .agg c3.toArray, .agg c5.toArray, .agg c5.toArray, .agg q6.toArray, .agg c5.toArray, .agg c6.toArray, .agg c6.toArray, .agg q7.toArray, .agg c6.toArray, .agg c7.toArray, undef, undef, undef, undef, undef, undef, undef, undef, undef, undef, undef, undef, undef, undef, undef, undef, undef, undef, undef, undef, undef, undef, undef, undef], defers := [] } ∧ Hid (Elm c7 (pw x 1048575)) ∧ Hid (Cel W g7 c7) ∧ Hid (Cel W (w.heap.size + 1) zeroE) ∧ Hid (Cel W g4 c4) ∧ Hid (Cel W g6 c6) ∧ Hid (Below w.heap.size w W)) ?_ ?_
          · obtain ⟨W41, hWd⟩ : ∃ W, W40.drew = W := ⟨_, rfl⟩
            have HWd : Hid (W40.drew = W41) := hWd
            have hdr : Below W40.heap.size W40 W41 := by rw [← hWd]; exact (Below.refl _ _).drew
            replace HR := hidup (HR.out.later hdr)
            replace HC4 := hidup (HC4.out.later hdr)
            replace HC6 := hidup (HC6.out.later hdr)
            replace HW := hidup (HW.out.trans (hdr.mono HW.out.size))
            clear hdr hWd
            obtain ⟨B41, hB⟩ : ∃ B, B = W41.heap.size := ⟨_, rfl⟩
            have LHR : w.heap.size + 1 < B41 := by rw [hB]; exact HR.out.lt
            have LHC4 : g4 < B41 := by rw [hB]; exact HC4.out.lt
            have LHC6 : g6 < B41 := by rw [hB]; exact HC6.out.lt
            have HBs : Hid (B41 ≤ W41.heap.size) := Nat.le_of_eq hB
            have hwB : w.heap.size ≤ B41 := by rw [hB]; exact HW.out.size
            clear hB
            refine sched_begin (G := Below B41) (by kernel_rfl) (fun _ => Below.refl _ _) (fun _ _ _ h k => Below.trans h k) (by kernel_rfl) [(0, true), (2, true)] 4 #[true, false, true, false, false, false] rfl (by kernel_rfl) ?_
            intro KL hKL
            rw [HWd.out]
            refine sched_take rfl (by rfl) (v := .agg c6.toArray) (fun w' hw' => exec_load_row 28 _ rfl g6 rfl 28 _ (0, 0) _ (HC6.out.below hw' LHC6) Tryd.underlying28 rfl (elm_info HE6.out)) ?_
            go_simp
            refine sched_take rfl (by rfl) (v := .agg c6.toArray) (fun w' hw' => exec_load_row 28 _ rfl g6 rfl 28 _ (0, 0) _ (HC6.out.below hw' LHC6) Tryd.underlying28 rfl (elm_info HE6.out)) ?_
            go_simp
            refine hKL.out _ _ ?_
            clear hKL HWd
            refine sched_fork [1, 4] (by kernel_rfl) rfl ?_
            intro i hi
            simp only [List.mem_cons, List.not_mem_nil, or_false] at hi
            rcases hi with rfl | rfl
            · refine ⟨_, rfl, by rfl, oper_call (f := 36) (args := #[.agg c6.toArray, .int .i64 ((10 : Nat) : Int)]) (by go_simp; try rfl) ?_⟩
              refine (fsquares_any 10 x 1023 1047552 c6 W41 (by decide) HE6.out (by decide)).mono ?_
              rintro e V42 ⟨q7, rfl, he, hb⟩
              refine ⟨_, rfl, hb.mono HBs.out, ?_⟩
              have HEq : Hid (Elm q7 (pw x 1047552)) := he
              replace HBs : Hid (B41 ≤ V42.heap.size) := Nat.le_trans HBs.out hb.size
              replace HR := hidup (HR.out.later hb)
              replace HC4 := hidup (HC4.out.later hb)
              replace HC6 := hidup (HC6.out.later hb)
              replace HW := hidup (HW.out.trans (hb.mono HW.out.size))
              clear hb he
              refine sched_fork [3, 4] (by kernel_rfl) rfl ?_
              intro i hi
              simp only [List.mem_cons, List.not_mem_nil, or_false] at hi
              rcases hi with rfl | rfl
              · refine ⟨_, rfl, by rfl, oper_call (f := 19) (args := #[.agg q7.toArray, .agg c6.toArray]) (by go_simp) ?_⟩
                refine (fmul_any q7 c6 (pw x 1047552) (pw x 1023) V42 HEq.out HE6.out).mono ?_
                rintro e V43 ⟨c7, rfl, he, hb⟩
                refine ⟨_, rfl, hb.mono HBs.out, ?_⟩
                rw [pw_add x 1047552 1023 1048575 (by decide)] at he
                have HEc : Hid (Elm c7 (pw x 1048575)) := he
                replace HBs : Hid (B41 ≤ V43.heap.size) := Nat.le_trans HBs.out hb.size
                replace HR := hidup (HR.out.later hb)
                replace HC4 := hidup (HC4.out.later hb)
                replace HC6 := hidup (HC6.out.later hb)
                replace HW := hidup (HW.out.trans (hb.mono HW.out.size))
                clear hb he
                refine sched_fork [4] (by kernel_rfl) rfl ?_
                intro i hi
                simp only [List.mem_cons, List.not_mem_nil, or_false] at hi
                subst hi
                refine ⟨_, rfl, by rfl, oper_val (v := .pointer (some ⟨V43.heap.size, 0, none⟩)) (w' := V43.alloc (.cells zeroE.toArray 28)) (by go_simp; rfl) ⟨(Below.refl _ _).alloc HBs.out _, ?_⟩⟩
                have hb : Below V43.heap.size V43 (V43.alloc (.cells zeroE.toArray 28)) := (Below.refl _ _).alloc (Nat.le_refl _) _
                have HZ : Hid (Cel (V43.alloc (.cells zeroE.toArray 28)) V43.heap.size zeroE) := Cel.new V43 zeroE
                have hgv : B41 ≤ V43.heap.size := HBs.out
                replace HBs : Hid (B41 ≤ (V43.alloc (.cells zeroE.toArray 28)).heap.size) := Nat.le_trans HBs.out hb.size
                replace HR := hidup (HR.out.later hb)
                replace HC4 := hidup (HC4.out.later hb)
                replace HC6 := hidup (HC6.out.later hb)
                replace HW := hidup (HW.out.trans (hb.mono HW.out.size))
                clear hb
                generalize V43.alloc (.cells zeroE.toArray 28) = V44 at *
                generalize V43.heap.size = g7 at *
                have hst := store_row V44 g7 _ _ c7 HZ.out (by simp [HEc.out.len, zeroE_len]) HEc.out.one
                have HCv : Hid (Cel (V44.setRow g7 c7.toArray) g7 c7) := setRow_heap V44 g7 _ _ _ _ HZ.out
                replace HR := hidup (HR.out.put_other (g' := g7) (by omega) c7.toArray)
                replace HC4 := hidup (HC4.out.put_other (g' := g7) (by omega) c7.toArray)
                replace HC6 := hidup (HC6.out.put_other (g' := g7) (by omega) c7.toArray)
                replace HW := hidup (below_setRow HW.out (g := g7) (by omega) c7.toArray)
                refine sched_end (G := Below B41) (fun _ => Below.refl _ _) (fun _ _ _ h k => Below.trans h k) (by kernel_rfl) [(5, false)] rfl (by kernel_rfl) ?_
                intro KM hKM
                go_simp
                have hlen := HEc.out.len
                refine sched_put rfl (by rfl) (w' := V44.setRow g7 c7.toArray) (by go_simp) (below_setRow (Below.refl _ _) hgv _) ?_
                go_simp
                exact hKM.out _ _ ⟨rfl, g7, q7, c7, rfl, HEc, HCv, HR, HC4, HC6, HW⟩
              · refine ⟨_, rfl, by rfl, oper_val (v := .pointer (some ⟨V42.heap.size, 0, none⟩)) (w' := V42.alloc (.cells zeroE.toArray 28)) (by go_simp; rfl) ⟨(Below.refl _ _).alloc HBs.out _, ?_⟩⟩
                have hb : Below V42.heap.size V42 (V42.alloc (.cells zeroE.toArray 28)) := (Below.refl _ _).alloc (Nat.le_refl _) _
                have HZ : Hid (Cel (V42.alloc (.cells zeroE.toArray 28)) V42.heap.size zeroE) := Cel.new V42 zeroE
                have hgv : B41 ≤ V42.heap.size := HBs.out
                replace HBs : Hid (B41 ≤ (V42.alloc (.cells zeroE.toArray 28)).heap.size) := Nat.le_trans HBs.out hb.size
                replace HR := hidup (HR.out.later hb)
                replace HC4 := hidup (HC4.out.later hb)
                replace HC6 := hidup (HC6.out.later hb)
                replace HW := hidup (HW.out.trans (hb.mono HW.out.size))
                clear hb
                generalize V42.alloc (.cells zeroE.toArray 28) = V45 at *
                generalize V42.heap.size = g7 at *
                refine sched_fork [3] (by kernel_rfl) rfl ?_
                intro i hi
                simp only [List.mem_cons, List.not_mem_nil, or_false] at hi
                subst hi
                refine ⟨_, rfl, by rfl, oper_call (f := 19) (args := #[.agg q7.toArray, .agg c6.toArray]) (by go_simp) ?_⟩
                refine (fmul_any q7 c6 (pw x 1047552) (pw x 1023) V45 HEq.out HE6.out).mono ?_
                rintro e V46 ⟨c7, rfl, he, hb⟩
                refine ⟨_, rfl, hb.mono HBs.out, ?_⟩
                rw [pw_add x 1047552 1023 1048575 (by decide)] at he
                have HEc : Hid (Elm c7 (pw x 1048575)) := he
                replace HBs : Hid (B41 ≤ V46.heap.size) := Nat.le_trans HBs.out hb.size
                replace HR := hidup (HR.out.later hb)
                replace HC4 := hidup (HC4.out.later hb)
                replace HC6 := hidup (HC6.out.later hb)
                replace HZ := hidup (HZ.out.later hb)
                replace HW := hidup (HW.out.trans (hb.mono HW.out.size))
                clear hb he
                have hst := store_row V46 g7 _ _ c7 HZ.out (by simp [HEc.out.len, zeroE_len]) HEc.out.one
                have HCv : Hid (Cel (V46.setRow g7 c7.toArray) g7 c7) := setRow_heap V46 g7 _ _ _ _ HZ.out
                replace HR := hidup (HR.out.put_other (g' := g7) (by omega) c7.toArray)
                replace HC4 := hidup (HC4.out.put_other (g' := g7) (by omega) c7.toArray)
                replace HC6 := hidup (HC6.out.put_other (g' := g7) (by omega) c7.toArray)
                replace HW := hidup (below_setRow HW.out (g := g7) (by omega) c7.toArray)
                refine sched_end (G := Below B41) (fun _ => Below.refl _ _) (fun _ _ _ h k => Below.trans h k) (by kernel_rfl) [(5, false)] rfl (by kernel_rfl) ?_
                intro KM hKM
                go_simp
                have hlen := HEc.out.len
                refine sched_put rfl (by rfl) (w' := V46.setRow g7 c7.toArray) (by go_simp) (below_setRow (Below.refl _ _) hgv _) ?_
                go_simp
                exact hKM.out _ _ ⟨rfl, g7, q7, c7, rfl, HEc, HCv, HR, HC4, HC6, HW⟩
            · refine ⟨_, rfl, by rfl, oper_val (v := .pointer (some ⟨W41.heap.size, 0, none⟩)) (w' := W41.alloc (.cells zeroE.toArray 28)) (by go_simp; rfl) ⟨(Below.refl _ _).alloc HBs.out _, ?_⟩⟩
              have hb : Below W41.heap.size W41 (W41.alloc (.cells zeroE.toArray 28)) := (Below.refl _ _).alloc (Nat.le_refl _) _
              have HZ : Hid (Cel (W41.alloc (.cells zeroE.toArray 28)) W41.heap.size zeroE) := Cel.new W41 zeroE
              have hgv : B41 ≤ W41.heap.size := HBs.out
              replace HBs : Hid (B41 ≤ (W41.alloc (.cells zeroE.toArray 28)).heap.size) := Nat.le_trans HBs.out hb.size
              replace HR := hidup (HR.out.later hb)
              replace HC4 := hidup (HC4.out.later hb)
              replace HC6 := hidup (HC6.out.later hb)
              replace HW := hidup (HW.out.trans (hb.mono HW.out.size))
              clear hb
              generalize W41.alloc (.cells zeroE.toArray 28) = V47 at *
              generalize W41.heap.size = g7 at *
              refine sched_fork [1] (by kernel_rfl) rfl ?_
              intro i hi
              simp only [List.mem_cons, List.not_mem_nil, or_false] at hi
              subst hi
              refine ⟨_, rfl, by rfl, oper_call (f := 36) (args := #[.agg c6.toArray, .int .i64 ((10 : Nat) : Int)]) (by go_simp; try rfl) ?_⟩
              refine (fsquares_any 10 x 1023 1047552 c6 V47 (by decide) HE6.out (by decide)).mono ?_
              rintro e V48 ⟨q7, rfl, he, hb⟩
              refine ⟨_, rfl, hb.mono HBs.out, ?_⟩
              have HEq : Hid (Elm q7 (pw x 1047552)) := he
              replace HBs : Hid (B41 ≤ V48.heap.size) := Nat.le_trans HBs.out hb.size
              replace HR := hidup (HR.out.later hb)
              replace HC4 := hidup (HC4.out.later hb)
              replace HC6 := hidup (HC6.out.later hb)
              replace HZ := hidup (HZ.out.later hb)
              replace HW := hidup (HW.out.trans (hb.mono HW.out.size))
              clear hb he
              refine sched_fork [3] (by kernel_rfl) rfl ?_
              intro i hi
              simp only [List.mem_cons, List.not_mem_nil, or_false] at hi
              subst hi
              refine ⟨_, rfl, by rfl, oper_call (f := 19) (args := #[.agg q7.toArray, .agg c6.toArray]) (by go_simp) ?_⟩
              refine (fmul_any q7 c6 (pw x 1047552) (pw x 1023) V48 HEq.out HE6.out).mono ?_
              rintro e V49 ⟨c7, rfl, he, hb⟩
              refine ⟨_, rfl, hb.mono HBs.out, ?_⟩
              rw [pw_add x 1047552 1023 1048575 (by decide)] at he
              have HEc : Hid (Elm c7 (pw x 1048575)) := he
              replace HBs : Hid (B41 ≤ V49.heap.size) := Nat.le_trans HBs.out hb.size
              replace HR := hidup (HR.out.later hb)
              replace HC4 := hidup (HC4.out.later hb)
              replace HC6 := hidup (HC6.out.later hb)
              replace HZ := hidup (HZ.out.later hb)
              replace HW := hidup (HW.out.trans (hb.mono HW.out.size))
              clear hb he
              have hst := store_row V49 g7 _ _ c7 HZ.out (by simp [HEc.out.len, zeroE_len]) HEc.out.one
              have HCv : Hid (Cel (V49.setRow g7 c7.toArray) g7 c7) := setRow_heap V49 g7 _ _ _ _ HZ.out
              replace HR := hidup (HR.out.put_other (g' := g7) (by omega) c7.toArray)
              replace HC4 := hidup (HC4.out.put_other (g' := g7) (by omega) c7.toArray)
              replace HC6 := hidup (HC6.out.put_other (g' := g7) (by omega) c7.toArray)
              replace HW := hidup (below_setRow HW.out (g := g7) (by omega) c7.toArray)
              refine sched_end (G := Below B41) (fun _ => Below.refl _ _) (fun _ _ _ h k => Below.trans h k) (by kernel_rfl) [(5, false)] rfl (by kernel_rfl) ?_
              intro KM hKM
              go_simp
              have hlen := HEc.out.len
              refine sched_put rfl (by rfl) (w' := V49.setRow g7 c7.toArray) (by go_simp) (below_setRow (Below.refl _ _) hgv _) ?_
              go_simp
              exact hKM.out _ _ ⟨rfl, g7, q7, c7, rfl, HEc, HCv, HR, HC4, HC6, HW⟩
          · rintro a W50 ⟨g7, q7, c7, rfl, HE7, HC7, HR, HC4, HC6, HW⟩
            (try dsimp only)
            go_wp2
            refine wp_cut (fun a W => ∃ (g8 : Nat) (q8 c8 : List Value), a = { tmps := #[.agg A.toArray, .pointer (some ⟨w.heap.size, 0, none⟩), .pointer (some ⟨w.heap.size + 1, 0, none⟩), .pointer (some ⟨g3, 0, none⟩), .pointer (some ⟨g4, 0, none⟩), .pointer (some ⟨g5, 0, none⟩), .pointer (some ⟨g6, 0, none⟩), .pointer (some ⟨g7, 0, none⟩), .pointer (some ⟨g8, 0, none⟩), undef, undef, undef, undef, .agg A.toArray, .agg q3.toArray, .agg A.toArray, .agg c3.toArray, .agg A.toArray, .agg q4.toArray, .agg c3.toArray, .agg c4.toArray, .agg c4.toArray, .agg q5.toArray, .agg c3.toArray, .agg c5.toArray, .agg c5.toArray, .agg q6.toArray, .agg c5.toArray, .agg c6.toArray, .agg c6.toArray, .agg q7.toArray, .agg c6.toArray, .agg c7.toArray, .agg c7.toArray, .agg q8.toArray, .agg c7.toArray, .agg c8.toArray, undef, undef, undef, undef, undef, undef, undef, undef, undef, undef, undef, undef, undef, undef, undef, undef, undef, undef, undef, undef], defers := [] } ∧ Hid (Elm c8 (pw x 1099511627775)) ∧ Hid (Cel W g8 c8) ∧ Hid (Cel W (w.heap.size + 1) zeroE) ∧ Hid (Cel W g4 c4) ∧ Hid (Cel W g6 c6) ∧ Hid (Below w.heap.size w W)) ?_ ?_
            · obtain ⟨W51, hWd⟩ : ∃ W, W50.drew = W := ⟨_, rfl⟩
              have HWd : Hid (W50.drew = W51) := hWd
              have hdr : Below W50.heap.size W50 W51 := by rw [← hWd]; exact (Below.refl _ _).drew
              replace HR := hidup (HR.out.later hdr)
              replace HC4 := hidup (HC4.out.later hdr)
              replace HC6 := hidup (HC6.out.later hdr)
              replace HC7 := hidup (HC7.out.later hdr)
              replace HW := hidup (HW.out.trans (hdr.mono HW.out.size))
              clear hdr hWd
              obtain ⟨B51, hB⟩ : ∃ B, B = W51.heap.size := ⟨_, rfl⟩
              have LHR : w.heap.size + 1 < B51 := by rw [hB]; exact HR.out.lt
              have LHC4 : g4 < B51 := by rw [hB]; exact HC4.out.lt
              have LHC6 : g6 < B51 := by rw [hB]; exact HC6.out.lt
              have LHC7 : g7 < B51 := by rw [hB]; exact HC7.out.lt
              have HBs : Hid (B51 ≤ W51.heap.size) := Nat.le_of_eq hB
              have hwB : w.heap.size ≤ B51 := by rw [hB]; exact HW.out.size
              clear hB
              refine sched_begin (G := Below B51) (by kernel_rfl) (fun _ => Below.refl _ _) (fun _ _ _ h k => Below.trans h k) (by kernel_rfl) [(0, true), (2, true)] 4 #[true, false, true, false, false, false] rfl (by kernel_rfl) ?_
              intro KL hKL
              rw [HWd.out]
              refine sched_take rfl (by rfl) (v := .agg c7.toArray) (fun w' hw' => exec_load_row 28 _ rfl g7 rfl 28 _ (0, 0) _ (HC7.out.below hw' LHC7) Tryd.underlying28 rfl (elm_info HE7.out)) ?_
              go_simp
              refine sched_take rfl (by rfl) (v := .agg c7.toArray) (fun w' hw' => exec_load_row 28 _ rfl g7 rfl 28 _ (0, 0) _ (HC7.out.below hw' LHC7) Tryd.underlying28 rfl (elm_info HE7.out)) ?_
              go_simp
              refine hKL.out _ _ ?_
              clear hKL HWd HC7 LHC7
              refine sched_fork [1, 4] (by kernel_rfl) rfl ?_
              intro i hi
              simp only [List.mem_cons, List.not_mem_nil, or_false] at hi
              rcases hi with rfl | rfl
              · refine ⟨_, rfl, by rfl, oper_call (f := 36) (args := #[.agg c7.toArray, .int .i64 ((20 : Nat) : Int)]) (by go_simp; try rfl) ?_⟩
                refine (fsquares_any 20 x 1048575 1099510579200 c7 W51 (by decide) HE7.out (by decide)).mono ?_
                rintro e V52 ⟨q8, rfl, he, hb⟩
                refine ⟨_, rfl, hb.mono HBs.out, ?_⟩
                have HEq : Hid (Elm q8 (pw x 1099510579200)) := he
                replace HBs : Hid (B51 ≤ V52.heap.size) := Nat.le_trans HBs.out hb.size
                replace HR := hidup (HR.out.later hb)
                replace HC4 := hidup (HC4.out.later hb)
                replace HC6 := hidup (HC6.out.later hb)
                replace HW := hidup (HW.out.trans (hb.mono HW.out.size))
                clear hb he
                refine sched_fork [3, 4] (by kernel_rfl) rfl ?_
                intro i hi
                simp only [List.mem_cons, List.not_mem_nil, or_false] at hi
                rcases hi with rfl | rfl
                · refine ⟨_, rfl, by rfl, oper_call (f := 19) (args := #[.agg q8.toArray, .agg c7.toArray]) (by go_simp) ?_⟩
                  refine (fmul_any q8 c7 (pw x 1099510579200) (pw x 1048575) V52 HEq.out HE7.out).mono ?_
                  rintro e V53 ⟨c8, rfl, he, hb⟩
                  refine ⟨_, rfl, hb.mono HBs.out, ?_⟩
                  rw [pw_add x 1099510579200 1048575 1099511627775 (by decide)] at he
                  have HEc : Hid (Elm c8 (pw x 1099511627775)) := he
                  replace HBs : Hid (B51 ≤ V53.heap.size) := Nat.le_trans HBs.out hb.size
                  replace HR := hidup (HR.out.later hb)
                  replace HC4 := hidup (HC4.out.later hb)
                  replace HC6 := hidup (HC6.out.later hb)
                  replace HW := hidup (HW.out.trans (hb.mono HW.out.size))
                  clear hb he
                  refine sched_fork [4] (by kernel_rfl) rfl ?_
                  intro i hi
                  simp only [List.mem_cons, List.not_mem_nil, or_false] at hi
                  subst hi
                  refine ⟨_, rfl, by rfl, oper_val (v := .pointer (some ⟨V53.heap.size, 0, none⟩)) (w' := V53.alloc (.cells zeroE.toArray 28)) (by go_simp; rfl) ⟨(Below.refl _ _).alloc HBs.out _, ?_⟩⟩
                  have hb : Below V53.heap.size V53 (V53.alloc (.cells zeroE.toArray 28)) := (Below.refl _ _).alloc (Nat.le_refl _) _
                  have HZ : Hid (Cel (V53.alloc (.cells zeroE.toArray 28)) V53.heap.size zeroE) := Cel.new V53 zeroE
                  have hgv : B51 ≤ V53.heap.size := HBs.out
                  replace HBs : Hid (B51 ≤ (V53.alloc (.cells zeroE.toArray 28)).heap.size) := Nat.le_trans HBs.out hb.size
                  replace HR := hidup (HR.out.later hb)
                  replace HC4 := hidup (HC4.out.later hb)
                  replace HC6 := hidup (HC6.out.later hb)
                  replace HW := hidup (HW.out.trans (hb.mono HW.out.size))
                  clear hb
                  generalize V53.alloc (.cells zeroE.toArray 28) = V54 at *
                  generalize V53.heap.size = g8 at *
                  have hst := store_row V54 g8 _ _ c8 HZ.out (by simp [HEc.out.len, zeroE_len]) HEc.out.one
                  have HCv : Hid (Cel (V54.setRow g8 c8.toArray) g8 c8) := setRow_heap V54 g8 _ _ _ _ HZ.out
                  replace HR := hidup (HR.out.put_other (g' := g8) (by omega) c8.toArray)
                  replace HC4 := hidup (HC4.out.put_other (g' := g8) (by omega) c8.toArray)
                  replace HC6 := hidup (HC6.out.put_other (g' := g8) (by omega) c8.toArray)
                  replace HW := hidup (below_setRow HW.out (g := g8) (by omega) c8.toArray)
                  refine sched_end (G := Below B51) (fun _ => Below.refl _ _) (fun _ _ _ h k => Below.trans h k) (by kernel_rfl) [(5, false)] rfl (by kernel_rfl) ?_
                  intro KM hKM
                  go_simp
                  have hlen := HEc.out.len
                  refine sched_put rfl (by rfl) (w' := V54.setRow g8 c8.toArray) (by go_simp) (below_setRow (Below.refl _ _) hgv _) ?_
                  go_simp
                  exact hKM.out _ _ ⟨rfl, g8, q8, c8, rfl, HEc, HCv, HR, HC4, HC6, HW⟩
                · refine ⟨_, rfl, by rfl, oper_val (v := .pointer (some ⟨V52.heap.size, 0, none⟩)) (w' := V52.alloc (.cells zeroE.toArray 28)) (by go_simp; rfl) ⟨(Below.refl _ _).alloc HBs.out _, ?_⟩⟩
                  have hb : Below V52.heap.size V52 (V52.alloc (.cells zeroE.toArray 28)) := (Below.refl _ _).alloc (Nat.le_refl _) _
                  have HZ : Hid (Cel (V52.alloc (.cells zeroE.toArray 28)) V52.heap.size zeroE) := Cel.new V52 zeroE
                  have hgv : B51 ≤ V52.heap.size := HBs.out
                  replace HBs : Hid (B51 ≤ (V52.alloc (.cells zeroE.toArray 28)).heap.size) := Nat.le_trans HBs.out hb.size
                  replace HR := hidup (HR.out.later hb)
                  replace HC4 := hidup (HC4.out.later hb)
                  replace HC6 := hidup (HC6.out.later hb)
                  replace HW := hidup (HW.out.trans (hb.mono HW.out.size))
                  clear hb
                  generalize V52.alloc (.cells zeroE.toArray 28) = V55 at *
                  generalize V52.heap.size = g8 at *
                  refine sched_fork [3] (by kernel_rfl) rfl ?_
                  intro i hi
                  simp only [List.mem_cons, List.not_mem_nil, or_false] at hi
                  subst hi
                  refine ⟨_, rfl, by rfl, oper_call (f := 19) (args := #[.agg q8.toArray, .agg c7.toArray]) (by go_simp) ?_⟩
                  refine (fmul_any q8 c7 (pw x 1099510579200) (pw x 1048575) V55 HEq.out HE7.out).mono ?_
                  rintro e V56 ⟨c8, rfl, he, hb⟩
                  refine ⟨_, rfl, hb.mono HBs.out, ?_⟩
                  rw [pw_add x 1099510579200 1048575 1099511627775 (by decide)] at he
                  have HEc : Hid (Elm c8 (pw x 1099511627775)) := he
                  replace HBs : Hid (B51 ≤ V56.heap.size) := Nat.le_trans HBs.out hb.size
                  replace HR := hidup (HR.out.later hb)
                  replace HC4 := hidup (HC4.out.later hb)
                  replace HC6 := hidup (HC6.out.later hb)
                  replace HZ := hidup (HZ.out.later hb)
                  replace HW := hidup (HW.out.trans (hb.mono HW.out.size))
                  clear hb he
                  have hst := store_row V56 g8 _ _ c8 HZ.out (by simp [HEc.out.len, zeroE_len]) HEc.out.one
                  have HCv : Hid (Cel (V56.setRow g8 c8.toArray) g8 c8) := setRow_heap V56 g8 _ _ _ _ HZ.out
                  replace HR := hidup (HR.out.put_other (g' := g8) (by omega) c8.toArray)
                  replace HC4 := hidup (HC4.out.put_other (g' := g8) (by omega) c8.toArray)
                  replace HC6 := hidup (HC6.out.put_other (g' := g8) (by omega) c8.toArray)
                  replace HW := hidup (below_setRow HW.out (g := g8) (by omega) c8.toArray)
                  refine sched_end (G := Below B51) (fun _ => Below.refl _ _) (fun _ _ _ h k => Below.trans h k) (by kernel_rfl) [(5, false)] rfl (by kernel_rfl) ?_
                  intro KM hKM
                  go_simp
                  have hlen := HEc.out.len
                  refine sched_put rfl (by rfl) (w' := V56.setRow g8 c8.toArray) (by go_simp) (below_setRow (Below.refl _ _) hgv _) ?_
                  go_simp
                  exact hKM.out _ _ ⟨rfl, g8, q8, c8, rfl, HEc, HCv, HR, HC4, HC6, HW⟩
              · refine ⟨_, rfl, by rfl, oper_val (v := .pointer (some ⟨W51.heap.size, 0, none⟩)) (w' := W51.alloc (.cells zeroE.toArray 28)) (by go_simp; rfl) ⟨(Below.refl _ _).alloc HBs.out _, ?_⟩⟩
                have hb : Below W51.heap.size W51 (W51.alloc (.cells zeroE.toArray 28)) := (Below.refl _ _).alloc (Nat.le_refl _) _
                have HZ : Hid (Cel (W51.alloc (.cells zeroE.toArray 28)) W51.heap.size zeroE) := Cel.new W51 zeroE
                have hgv : B51 ≤ W51.heap.size := HBs.out
                replace HBs : Hid (B51 ≤ (W51.alloc (.cells zeroE.toArray 28)).heap.size) := Nat.le_trans HBs.out hb.size
                replace HR := hidup (HR.out.later hb)
                replace HC4 := hidup (HC4.out.later hb)
                replace HC6 := hidup (HC6.out.later hb)
                replace HW := hidup (HW.out.trans (hb.mono HW.out.size))
                clear hb
                generalize W51.alloc (.cells zeroE.toArray 28) = V57 at *
                generalize W51.heap.size = g8 at *
                refine sched_fork [1] (by kernel_rfl) rfl ?_
                intro i hi
                simp only [List.mem_cons, List.not_mem_nil, or_false] at hi
                subst hi
                refine ⟨_, rfl, by rfl, oper_call (f := 36) (args := #[.agg c7.toArray, .int .i64 ((20 : Nat) : Int)]) (by go_simp; try rfl) ?_⟩
                refine (fsquares_any 20 x 1048575 1099510579200 c7 V57 (by decide) HE7.out (by decide)).mono ?_
                rintro e V58 ⟨q8, rfl, he, hb⟩
                refine ⟨_, rfl, hb.mono HBs.out, ?_⟩
                have HEq : Hid (Elm q8 (pw x 1099510579200)) := he
                replace HBs : Hid (B51 ≤ V58.heap.size) := Nat.le_trans HBs.out hb.size
                replace HR := hidup (HR.out.later hb)
                replace HC4 := hidup (HC4.out.later hb)
                replace HC6 := hidup (HC6.out.later hb)
                replace HZ := hidup (HZ.out.later hb)
                replace HW := hidup (HW.out.trans (hb.mono HW.out.size))
                clear hb he
                refine sched_fork [3] (by kernel_rfl) rfl ?_
                intro i hi
                simp only [List.mem_cons, List.not_mem_nil, or_false] at hi
                subst hi
                refine ⟨_, rfl, by rfl, oper_call (f := 19) (args := #[.agg q8.toArray, .agg c7.toArray]) (by go_simp) ?_⟩
                refine (fmul_any q8 c7 (pw x 1099510579200) (pw x 1048575) V58 HEq.out HE7.out).mono ?_
                rintro e V59 ⟨c8, rfl, he, hb⟩
                refine ⟨_, rfl, hb.mono HBs.out, ?_⟩
                rw [pw_add x 1099510579200 1048575 1099511627775 (by decide)] at he
                have HEc : Hid (Elm c8 (pw x 1099511627775)) := he
                replace HBs : Hid (B51 ≤ V59.heap.size) := Nat.le_trans HBs.out hb.size
                replace HR := hidup (HR.out.later hb)
                replace HC4 := hidup (HC4.out.later hb)
                replace HC6 := hidup (HC6.out.later hb)
                replace HZ := hidup (HZ.out.later hb)
                replace HW := hidup (HW.out.trans (hb.mono HW.out.size))
                clear hb he
                have hst := store_row V59 g8 _ _ c8 HZ.out (by simp [HEc.out.len, zeroE_len]) HEc.out.one
                have HCv : Hid (Cel (V59.setRow g8 c8.toArray) g8 c8) := setRow_heap V59 g8 _ _ _ _ HZ.out
                replace HR := hidup (HR.out.put_other (g' := g8) (by omega) c8.toArray)
                replace HC4 := hidup (HC4.out.put_other (g' := g8) (by omega) c8.toArray)
                replace HC6 := hidup (HC6.out.put_other (g' := g8) (by omega) c8.toArray)
                replace HW := hidup (below_setRow HW.out (g := g8) (by omega) c8.toArray)
                refine sched_end (G := Below B51) (fun _ => Below.refl _ _) (fun _ _ _ h k => Below.trans h k) (by kernel_rfl) [(5, false)] rfl (by kernel_rfl) ?_
                intro KM hKM
                go_simp
                have hlen := HEc.out.len
                refine sched_put rfl (by rfl) (w' := V59.setRow g8 c8.toArray) (by go_simp) (below_setRow (Below.refl _ _) hgv _) ?_
                go_simp
                exact hKM.out _ _ ⟨rfl, g8, q8, c8, rfl, HEc, HCv, HR, HC4, HC6, HW⟩
            · rintro a W60 ⟨g8, q8, c8, rfl, HE8, HC8, HR, HC4, HC6, HW⟩
              (try dsimp only)
              go_wp2
              refine wp_cut (fun a W => ∃ (g9 : Nat) (q9 c9 : List Value), a = { tmps := #[.agg A.toArray, .pointer (some ⟨w.heap.size, 0, none⟩), .pointer (some ⟨w.heap.size + 1, 0, none⟩), .pointer (some ⟨g3, 0, none⟩), .pointer (some ⟨g4, 0, none⟩), .pointer (some ⟨g5, 0, none⟩), .pointer (some ⟨g6, 0, none⟩), .pointer (some ⟨g7, 0, none⟩), .pointer (some ⟨g8, 0, none⟩), .pointer (some ⟨g9, 0, none⟩), undef, undef, undef, .agg A.toArray, .agg q3.toArray, .agg A.toArray, .agg c3.toArray, .agg A.toArray, .agg q4.toArray, .agg c3.toArray, .agg c4.toArray, .agg c4.toArray, .agg q5.toArray, .agg c3.toArray, .agg c5.toArray, .agg c5.toArray, .agg q6.toArray, .agg c5.toArray, .agg c6.toArray, .agg c6.toArray, .agg q7.toArray, .agg c6.toArray, .agg c7.toArray, .agg c7.toArray, .agg q8.toArray, .agg c7.toArray, .agg c8.toArray, .agg c8.toArray, .agg q9.toArray, .agg c6.toArray, .agg c9.toArray, undef, undef, undef, undef, undef, undef, undef, undef, undef, undef, undef, undef, undef, undef, undef, undef], defers := [] } ∧ Hid (Elm c9 (pw x 1125899906842623)) ∧ Hid (Cel W g9 c9) ∧ Hid (Cel W (w.heap.size + 1) zeroE) ∧ Hid (Cel W g4 c4) ∧ Hid (Below w.heap.size w W)) ?_ ?_
              · obtain ⟨W61, hWd⟩ : ∃ W, W60.drew = W := ⟨_, rfl⟩
                have HWd : Hid (W60.drew = W61) := hWd
                have hdr : Below W60.heap.size W60 W61 := by rw [← hWd]; exact (Below.refl _ _).drew
                replace HR := hidup (HR.out.later hdr)
                replace HC4 := hidup (HC4.out.later hdr)
                replace HC6 := hidup (HC6.out.later hdr)
                replace HC8 := hidup (HC8.out.later hdr)
                replace HW := hidup (HW.out.trans (hdr.mono HW.out.size))
                clear hdr hWd
                obtain ⟨B61, hB⟩ : ∃ B, B = W61.heap.size := ⟨_, rfl⟩
                have LHR : w.heap.size + 1 < B61 := by rw [hB]; exact HR.out.lt
                have LHC4 : g4 < B61 := by rw [hB]; exact HC4.out.lt
                have LHC6 : g6 < B61 := by rw [hB]; exact HC6.out.lt
                have LHC8 : g8 < B61 := by rw [hB]; exact HC8.out.lt
                have HBs : Hid (B61 ≤ W61.heap.size) := Nat.le_of_eq hB
                have hwB : w.heap.size ≤ B61 := by rw [hB]; exact HW.out.size
                clear hB
                refine sched_begin (G := Below B61) (by kernel_rfl) (fun _ => Below.refl _ _) (fun _ _ _ h k => Below.trans h k) (by kernel_rfl) [(0, true), (2, true)] 4 #[true, false, true, false, false, false] rfl (by kernel_rfl) ?_
                intro KL hKL
                rw [HWd.out]
                refine sched_take rfl (by rfl) (v := .agg c8.toArray) (fun w' hw' => exec_load_row 28 _ rfl g8 rfl 28 _ (0, 0) _ (HC8.out.below hw' LHC8) Tryd.underlying28 rfl (elm_info HE8.out)) ?_
                go_simp
                refine sched_take rfl (by rfl) (v := .agg c6.toArray) (fun w' hw' => exec_load_row 28 _ rfl g6 rfl 28 _ (0, 0) _ (HC6.out.below hw' LHC6) Tryd.underlying28 rfl (elm_info HE6.out)) ?_
                go_simp
                refine hKL.out _ _ ?_
                clear hKL HWd HC6 LHC6 HC8 LHC8
                refine sched_fork [1, 4] (by kernel_rfl) rfl ?_
                intro i hi
                simp only [List.mem_cons, List.not_mem_nil, or_false] at hi
                rcases hi with rfl | rfl
                · refine ⟨_, rfl, by rfl, oper_call (f := 36) (args := #[.agg c8.toArray, .int .i64 ((10 : Nat) : Int)]) (by go_simp; try rfl) ?_⟩
                  refine (fsquares_any 10 x 1099511627775 1125899906841600 c8 W61 (by decide) HE8.out (by decide)).mono ?_
                  rintro e V62 ⟨q9, rfl, he, hb⟩
                  refine ⟨_, rfl, hb.mono HBs.out, ?_⟩
                  have HEq : Hid (Elm q9 (pw x 1125899906841600)) := he
                  replace HBs : Hid (B61 ≤ V62.heap.size) := Nat.le_trans HBs.out hb.size
                  replace HR := hidup (HR.out.later hb)
                  replace HC4 := hidup (HC4.out.later hb)
                  replace HW := hidup (HW.out.trans (hb.mono HW.out.size))
                  clear hb he
                  refine sched_fork [3, 4] (by kernel_rfl) rfl ?_
                  intro i hi
                  simp only [List.mem_cons, List.not_mem_nil, or_false] at hi
                  rcases hi with rfl | rfl
                  · refine ⟨_, rfl, by rfl, oper_call (f := 19) (args := #[.agg q9.toArray, .agg c6.toArray]) (by go_simp) ?_⟩
                    refine (fmul_any q9 c6 (pw x 1125899906841600) (pw x 1023) V62 HEq.out HE6.out).mono ?_
                    rintro e V63 ⟨c9, rfl, he, hb⟩
                    refine ⟨_, rfl, hb.mono HBs.out, ?_⟩
                    rw [pw_add x 1125899906841600 1023 1125899906842623 (by decide)] at he
                    have HEc : Hid (Elm c9 (pw x 1125899906842623)) := he
                    replace HBs : Hid (B61 ≤ V63.heap.size) := Nat.le_trans HBs.out hb.size
                    replace HR := hidup (HR.out.later hb)
                    replace HC4 := hidup (HC4.out.later hb)
                    replace HW := hidup (HW.out.trans (hb.mono HW.out.size))
                    clear hb he
                    refine sched_fork [4] (by kernel_rfl) rfl ?_
                    intro i hi
                    simp only [List.mem_cons, List.not_mem_nil, or_false] at hi
                    subst hi
                    refine ⟨_, rfl, by rfl, oper_val (v := .pointer (some ⟨V63.heap.size, 0, none⟩)) (w' := V63.alloc (.cells zeroE.toArray 28)) (by go_simp; rfl) ⟨(Below.refl _ _).alloc HBs.out _, ?_⟩⟩
                    have hb : Below V63.heap.size V63 (V63.alloc (.cells zeroE.toArray 28)) := (Below.refl _ _).alloc (Nat.le_refl _) _
                    have HZ : Hid (Cel (V63.alloc (.cells zeroE.toArray 28)) V63.heap.size zeroE) := Cel.new V63 zeroE
                    have hgv : B61 ≤ V63.heap.size := HBs.out
                    replace HBs : Hid (B61 ≤ (V63.alloc (.cells zeroE.toArray 28)).heap.size) := Nat.le_trans HBs.out hb.size
                    replace HR := hidup (HR.out.later hb)
                    replace HC4 := hidup (HC4.out.later hb)
                    replace HW := hidup (HW.out.trans (hb.mono HW.out.size))
                    clear hb
                    generalize V63.alloc (.cells zeroE.toArray 28) = V64 at *
                    generalize V63.heap.size = g9 at *
                    have hst := store_row V64 g9 _ _ c9 HZ.out (by simp [HEc.out.len, zeroE_len]) HEc.out.one
                    have HCv : Hid (Cel (V64.setRow g9 c9.toArray) g9 c9) := setRow_heap V64 g9 _ _ _ _ HZ.out
                    replace HR := hidup (HR.out.put_other (g' := g9) (by omega) c9.toArray)
                    replace HC4 := hidup (HC4.out.put_other (g' := g9) (by omega) c9.toArray)
                    replace HW := hidup (below_setRow HW.out (g := g9) (by omega) c9.toArray)
                    refine sched_end (G := Below B61) (fun _ => Below.refl _ _) (fun _ _ _ h k => Below.trans h k) (by kernel_rfl) [(5, false)] rfl (by kernel_rfl) ?_
                    intro KM hKM
                    go_simp
                    have hlen := HEc.out.len
                    refine sched_put rfl (by rfl) (w' := V64.setRow g9 c9.toArray) (by go_simp) (below_setRow (Below.refl _ _) hgv _) ?_
                    go_simp
                    exact hKM.out _ _ ⟨rfl, g9, q9, c9, rfl, HEc, HCv, HR, HC4, HW⟩
                  · refine ⟨_, rfl, by rfl, oper_val (v := .pointer (some ⟨V62.heap.size, 0, none⟩)) (w' := V62.alloc (.cells zeroE.toArray 28)) (by go_simp; rfl) ⟨(Below.refl _ _).alloc HBs.out _, ?_⟩⟩
                    have hb : Below V62.heap.size V62 (V62.alloc (.cells zeroE.toArray 28)) := (Below.refl _ _).alloc (Nat.le_refl _) _
                    have HZ : Hid (Cel (V62.alloc (.cells zeroE.toArray 28)) V62.heap.size zeroE) := Cel.new V62 zeroE
                    have hgv : B61 ≤ V62.heap.size := HBs.out
                    replace HBs : Hid (B61 ≤ (V62.alloc (.cells zeroE.toArray 28)).heap.size) := Nat.le_trans HBs.out hb.size
                    replace HR := hidup (HR.out.later hb)
                    replace HC4 := hidup (HC4.out.later hb)
                    replace HW := hidup (HW.out.trans (hb.mono HW.out.size))
                    clear hb
                    generalize V62.alloc (.cells zeroE.toArray 28) = V65 at *
                    generalize V62.heap.size = g9 at *
                    refine sched_fork [3] (by kernel_rfl) rfl ?_
                    intro i hi
                    simp only [List.mem_cons, List.not_mem_nil, or_false] at hi
                    subst hi
                    refine ⟨_, rfl, by rfl, oper_call (f := 19) (args := #[.agg q9.toArray, .agg c6.toArray]) (by go_simp) ?_⟩
                    refine (fmul_any q9 c6 (pw x 1125899906841600) (pw x 1023) V65 HEq.out HE6.out).mono ?_
                    rintro e V66 ⟨c9, rfl, he, hb⟩
                    refine ⟨_, rfl, hb.mono HBs.out, ?_⟩
                    rw [pw_add x 1125899906841600 1023 1125899906842623 (by decide)] at he
                    have HEc : Hid (Elm c9 (pw x 1125899906842623)) := he
                    replace HBs : Hid (B61 ≤ V66.heap.size) := Nat.le_trans HBs.out hb.size
                    replace HR := hidup (HR.out.later hb)
                    replace HC4 := hidup (HC4.out.later hb)
                    replace HZ := hidup (HZ.out.later hb)
                    replace HW := hidup (HW.out.trans (hb.mono HW.out.size))
                    clear hb he
                    have hst := store_row V66 g9 _ _ c9 HZ.out (by simp [HEc.out.len, zeroE_len]) HEc.out.one
                    have HCv : Hid (Cel (V66.setRow g9 c9.toArray) g9 c9) := setRow_heap V66 g9 _ _ _ _ HZ.out
                    replace HR := hidup (HR.out.put_other (g' := g9) (by omega) c9.toArray)
                    replace HC4 := hidup (HC4.out.put_other (g' := g9) (by omega) c9.toArray)
                    replace HW := hidup (below_setRow HW.out (g := g9) (by omega) c9.toArray)
                    refine sched_end (G := Below B61) (fun _ => Below.refl _ _) (fun _ _ _ h k => Below.trans h k) (by kernel_rfl) [(5, false)] rfl (by kernel_rfl) ?_
                    intro KM hKM
                    go_simp
                    have hlen := HEc.out.len
                    refine sched_put rfl (by rfl) (w' := V66.setRow g9 c9.toArray) (by go_simp) (below_setRow (Below.refl _ _) hgv _) ?_
                    go_simp
                    exact hKM.out _ _ ⟨rfl, g9, q9, c9, rfl, HEc, HCv, HR, HC4, HW⟩
                · refine ⟨_, rfl, by rfl, oper_val (v := .pointer (some ⟨W61.heap.size, 0, none⟩)) (w' := W61.alloc (.cells zeroE.toArray 28)) (by go_simp; rfl) ⟨(Below.refl _ _).alloc HBs.out _, ?_⟩⟩
                  have hb : Below W61.heap.size W61 (W61.alloc (.cells zeroE.toArray 28)) := (Below.refl _ _).alloc (Nat.le_refl _) _
                  have HZ : Hid (Cel (W61.alloc (.cells zeroE.toArray 28)) W61.heap.size zeroE) := Cel.new W61 zeroE
                  have hgv : B61 ≤ W61.heap.size := HBs.out
                  replace HBs : Hid (B61 ≤ (W61.alloc (.cells zeroE.toArray 28)).heap.size) := Nat.le_trans HBs.out hb.size
                  replace HR := hidup (HR.out.later hb)
                  replace HC4 := hidup (HC4.out.later hb)
                  replace HW := hidup (HW.out.trans (hb.mono HW.out.size))
                  clear hb
                  generalize W61.alloc (.cells zeroE.toArray 28) = V67 at *
                  generalize W61.heap.size = g9 at *
                  refine sched_fork [1] (by kernel_rfl) rfl ?_
                  intro i hi
                  simp only [List.mem_cons, List.not_mem_nil, or_false] at hi
                  subst hi
                  refine ⟨_, rfl, by rfl, oper_call (f := 36) (args := #[.agg c8.toArray, .int .i64 ((10 : Nat) : Int)]) (by go_simp; try rfl) ?_⟩
                  refine (fsquares_any 10 x 1099511627775 1125899906841600 c8 V67 (by decide) HE8.out (by decide)).mono ?_
                  rintro e V68 ⟨q9, rfl, he, hb⟩
                  refine ⟨_, rfl, hb.mono HBs.out, ?_⟩
                  have HEq : Hid (Elm q9 (pw x 1125899906841600)) := he
                  replace HBs : Hid (B61 ≤ V68.heap.size) := Nat.le_trans HBs.out hb.size
                  replace HR := hidup (HR.out.later hb)
                  replace HC4 := hidup (HC4.out.later hb)
                  replace HZ := hidup (HZ.out.later hb)
                  replace HW := hidup (HW.out.trans (hb.mono HW.out.size))
                  clear hb he
                  refine sched_fork [3] (by kernel_rfl) rfl ?_
                  intro i hi
                  simp only [List.mem_cons, List.not_mem_nil, or_false] at hi
                  subst hi
                  refine ⟨_, rfl, by rfl, oper_call (f := 19) (args := #[.agg q9.toArray, .agg c6.toArray]) (by go_simp) ?_⟩
                  refine (fmul_any q9 c6 (pw x 1125899906841600) (pw x 1023) V68 HEq.out HE6.out).mono ?_
                  rintro e V69 ⟨c9, rfl, he, hb⟩
                  refine ⟨_, rfl, hb.mono HBs.out, ?_⟩
                  rw [pw_add x 1125899906841600 1023 1125899906842623 (by decide)] at he
                  have HEc : Hid (Elm c9 (pw x 1125899906842623)) := he
                  replace HBs : Hid (B61 ≤ V69.heap.size) := Nat.le_trans HBs.out hb.size
                  replace HR := hidup (HR.out.later hb)
                  replace HC4 := hidup (HC4.out.later hb)
                  replace HZ := hidup (HZ.out.later hb)
                  replace HW := hidup (HW.out.trans (hb.mono HW.out.size))
                  clear hb he
                  have hst := store_row V69 g9 _ _ c9 HZ.out (by simp [HEc.out.len, zeroE_len]) HEc.out.one
                  have HCv : Hid (Cel (V69.setRow g9 c9.toArray) g9 c9) := setRow_heap V69 g9 _ _ _ _ HZ.out
                  replace HR := hidup (HR.out.put_other (g' := g9) (by omega) c9.toArray)
                  replace HC4 := hidup (HC4.out.put_other (g' := g9) (by omega) c9.toArray)
                  replace HW := hidup (below_setRow HW.out (g := g9) (by omega) c9.toArray)
                  refine sched_end (G := Below B61) (fun _ => Below.refl _ _) (fun _ _ _ h k => Below.trans h k) (by kernel_rfl) [(5, false)] rfl (by kernel_rfl) ?_
                  intro KM hKM
                  go_simp
                  have hlen := HEc.out.len
                  refine sched_put rfl (by rfl) (w' := V69.setRow g9 c9.toArray) (by go_simp) (below_setRow (Below.refl _ _) hgv _) ?_
                  go_simp
                  exact hKM.out _ _ ⟨rfl, g9, q9, c9, rfl, HEc, HCv, HR, HC4, HW⟩
              · rintro a W70 ⟨g9, q9, c9, rfl, HE9, HC9, HR, HC4, HW⟩
                (try dsimp only)
                go_wp2
                refine wp_cut (fun a W => ∃ (g10 : Nat) (q10 c10 : List Value), a = { tmps := #[.agg A.toArray, .pointer (some ⟨w.heap.size, 0, none⟩), .pointer (some ⟨w.heap.size + 1, 0, none⟩), .pointer (some ⟨g3, 0, none⟩), .pointer (some ⟨g4, 0, none⟩), .pointer (some ⟨g5, 0, none⟩), .pointer (some ⟨g6, 0, none⟩), .pointer (some ⟨g7, 0, none⟩), .pointer (some ⟨g8, 0, none⟩), .pointer (some ⟨g9, 0, none⟩), .pointer (some ⟨g10, 0, none⟩), undef, undef, .agg A.toArray, .agg q3.toArray, .agg A.toArray, .agg c3.toArray, .agg A.toArray, .agg q4.toArray, .agg c3.toArray, .agg c4.toArray, .agg c4.toArray, .agg q5.toArray, .agg c3.toArray, .agg c5.toArray, .agg c5.toArray, .agg q6.toArray, .agg c5.toArray, .agg c6.toArray, .agg c6.toArray, .agg q7.toArray, .agg c6.toArray, .agg c7.toArray, .agg c7.toArray, .agg q8.toArray, .agg c7.toArray, .agg c8.toArray, .agg c8.toArray, .agg q9.toArray, .agg c6.toArray, .agg c9.toArray, .agg c9.toArray, .agg q10.toArray, .agg c9.toArray, .agg c10.toArray, undef, undef, undef, undef, undef, undef, undef, undef, undef, undef, undef, undef], defers := [] } ∧ Hid (Elm c10 (pw x 1267650600228229401496703205375)) ∧ Hid (Cel W g10 c10) ∧ Hid (Cel W (w.heap.size + 1) zeroE) ∧ Hid (Cel W g4 c4) ∧ Hid (Cel W g9 c9) ∧ Hid (Below w.heap.size w W)) ?_ ?_
                · obtain ⟨W71, hWd⟩ : ∃ W, W70.drew = W := ⟨_, rfl⟩
                  have HWd : Hid (W70.drew = W71) := hWd
                  have hdr : Below W70.heap.size W70 W71 := by rw [← hWd]; exact (Below.refl _ _).drew
                  replace HR := hidup (HR.out.later hdr)
                  replace HC4 := hidup (HC4.out.later hdr)
                  replace HC9 := hidup (HC9.out.later hdr)
                  replace HW := hidup (HW.out.trans (hdr.mono HW.out.size))
                  clear hdr hWd
                  obtain ⟨B71, hB⟩ : ∃ B, B = W71.heap.size := ⟨_, rfl⟩
                  have LHR : w.heap.size + 1 < B71 := by rw [hB]; exact HR.out.lt
                  have LHC4 : g4 < B71 := by rw [hB]; exact HC4.out.lt
                  have LHC9 : g9 < B71 := by rw [hB]; exact HC9.out.lt
                  have HBs : Hid (B71 ≤ W71.heap.size) := Nat.le_of_eq hB
                  have hwB : w.heap.size ≤ B71 := by rw [hB]; exact HW.out.size
                  clear hB
                  refine sched_begin (G := Below B71) (by kernel_rfl) (fun _ => Below.refl _ _) (fun _ _ _ h k => Below.trans h k) (by kernel_rfl) [(0, true), (2, true)] 4 #[true, false, true, false, false, false] rfl (by kernel_rfl) ?_
                  intro KL hKL
                  rw [HWd.out]
                  refine sched_take rfl (by rfl) (v := .agg c9.toArray) (fun w' hw' => exec_load_row 28 _ rfl g9 rfl 28 _ (0, 0) _ (HC9.out.below hw' LHC9) Tryd.underlying28 rfl (elm_info HE9.out)) ?_
                  go_simp
                  refine sched_take rfl (by rfl) (v := .agg c9.toArray) (fun w' hw' => exec_load_row 28 _ rfl g9 rfl 28 _ (0, 0) _ (HC9.out.below hw' LHC9) Tryd.underlying28 rfl (elm_info HE9.out)) ?_
                  go_simp
                  refine hKL.out _ _ ?_
                  clear hKL HWd
                  refine sched_fork [1, 4] (by kernel_rfl) rfl ?_
                  intro i hi
                  simp only [List.mem_cons, List.not_mem_nil, or_false] at hi
                  rcases hi with rfl | rfl
                  · refine ⟨_, rfl, by rfl, oper_call (f := 36) (args := #[.agg c9.toArray, .int .i64 ((50 : Nat) : Int)]) (by go_simp; try rfl) ?_⟩
                    refine (fsquares_any 50 x 1125899906842623 1267650600228228275596796362752 c9 W71 (by decide) HE9.out (by decide)).mono ?_
                    rintro e V72 ⟨q10, rfl, he, hb⟩
                    refine ⟨_, rfl, hb.mono HBs.out, ?_⟩
                    have HEq : Hid (Elm q10 (pw x 1267650600228228275596796362752)) := he
                    replace HBs : Hid (B71 ≤ V72.heap.size) := Nat.le_trans HBs.out hb.size
                    replace HR := hidup (HR.out.later hb)
                    replace HC4 := hidup (HC4.out.later hb)
                    replace HC9 := hidup (HC9.out.later hb)
                    replace HW := hidup (HW.out.trans (hb.mono HW.out.size))
                    clear hb he
                    refine sched_fork [3, 4] (by kernel_rfl) rfl ?_
                    intro i hi
                    simp only [List.mem_cons, List.not_mem_nil, or_false] at hi
                    rcases hi with rfl | rfl
                    · refine ⟨_, rfl, by rfl, oper_call (f := 19) (args := #[.agg q10.toArray, .agg c9.toArray]) (by go_simp) ?_⟩
                      refine (fmul_any q10 c9 (pw x 1267650600228228275596796362752) (pw x 1125899906842623) V72 HEq.out HE9.out).mono ?_
                      rintro e V73 ⟨c10, rfl, he, hb⟩
                      refine ⟨_, rfl, hb.mono HBs.out, ?_⟩
                      rw [pw_add x 1267650600228228275596796362752 1125899906842623 1267650600228229401496703205375 (by decide)] at he
                      have HEc : Hid (Elm c10 (pw x 1267650600228229401496703205375)) := he
                      replace HBs : Hid (B71 ≤ V73.heap.size) := Nat.le_trans HBs.out hb.size
                      replace HR := hidup (HR.out.later hb)
                      replace HC4 := hidup (HC4.out.later hb)
                      replace HC9 := hidup (HC9.out.later hb)
                      replace HW := hidup (HW.out.trans (hb.mono HW.out.size))
                      clear hb he
                      refine sched_fork [4] (by kernel_rfl) rfl ?_
                      intro i hi
                      simp only [List.mem_cons, List.not_mem_nil, or_false] at hi
                      subst hi
                      refine ⟨_, rfl, by rfl, oper_val (v := .pointer (some ⟨V73.heap.size, 0, none⟩)) (w' := V73.alloc (.cells zeroE.toArray 28)) (by go_simp; rfl) ⟨(Below.refl _ _).alloc HBs.out _, ?_⟩⟩
                      have hb : Below V73.heap.size V73 (V73.alloc (.cells zeroE.toArray 28)) := (Below.refl _ _).alloc (Nat.le_refl _) _
                      have HZ : Hid (Cel (V73.alloc (.cells zeroE.toArray 28)) V73.heap.size zeroE) := Cel.new V73 zeroE
                      have hgv : B71 ≤ V73.heap.size := HBs.out
                      replace HBs : Hid (B71 ≤ (V73.alloc (.cells zeroE.toArray 28)).heap.size) := Nat.le_trans HBs.out hb.size
                      replace HR := hidup (HR.out.later hb)
                      replace HC4 := hidup (HC4.out.later hb)
                      replace HC9 := hidup (HC9.out.later hb)
                      replace HW := hidup (HW.out.trans (hb.mono HW.out.size))
                      clear hb
                      generalize V73.alloc (.cells zeroE.toArray 28) = V74 at *
                      generalize V73.heap.size = g10 at *
                      have hst := store_row V74 g10 _ _ c10 HZ.out (by simp [HEc.out.len, zeroE_len]) HEc.out.one
                      have HCv : Hid (Cel (V74.setRow g10 c10.toArray) g10 c10) := setRow_heap V74 g10 _ _ _ _ HZ.out
                      replace HR := hidup (HR.out.put_other (g' := g10) (by omega) c10.toArray)
                      replace HC4 := hidup (HC4.out.put_other (g' := g10) (by omega) c10.toArray)
                      replace HC9 := hidup (HC9.out.put_other (g' := g10) (by omega) c10.toArray)
                      replace HW := hidup (below_setRow HW.out (g := g10) (by omega) c10.toArray)
                      refine sched_end (G := Below B71) (fun _ => Below.refl _ _) (fun _ _ _ h k => Below.trans h k) (by kernel_rfl) [(5, false)] rfl (by kernel_rfl) ?_
                      intro KM hKM
                      go_simp
                      have hlen := HEc.out.len
                      refine sched_put rfl (by rfl) (w' := V74.setRow g10 c10.toArray) (by go_simp) (below_setRow (Below.refl _ _) hgv _) ?_
                      go_simp
                      exact hKM.out _ _ ⟨rfl, g10, q10, c10, rfl, HEc, HCv, HR, HC4, HC9, HW⟩
                    · refine ⟨_, rfl, by rfl, oper_val (v := .pointer (some ⟨V72.heap.size, 0, none⟩)) (w' := V72.alloc (.cells zeroE.toArray 28)) (by go_simp; rfl) ⟨(Below.refl _ _).alloc HBs.out _, ?_⟩⟩
                      have hb : Below V72.heap.size V72 (V72.alloc (.cells zeroE.toArray 28)) := (Below.refl _ _).alloc (Nat.le_refl _) _
                      have HZ : Hid (Cel (V72.alloc (.cells zeroE.toArray 28)) V72.heap.size zeroE) := Cel.new V72 zeroE
                      have hgv : B71 ≤ V72.heap.size := HBs.out
                      replace HBs : Hid (B71 ≤ (V72.alloc (.cells zeroE.toArray 28)).heap.size) := Nat.le_trans HBs.out hb.size
                      replace HR := hidup (HR.out.later hb)
                      replace HC4 := hidup (HC4.out.later hb)
                      replace HC9 := hidup (HC9.out.later hb)
                      replace HW := hidup (HW.out.trans (hb.mono HW.out.size))
                      clear hb
                      generalize V72.alloc (.cells zeroE.toArray 28) = V75 at *
                      generalize V72.heap.size = g10 at *
                      refine sched_fork [3] (by kernel_rfl) rfl ?_
                      intro i hi
                      simp only [List.mem_cons, List.not_mem_nil, or_false] at hi
                      subst hi
                      refine ⟨_, rfl, by rfl, oper_call (f := 19) (args := #[.agg q10.toArray, .agg c9.toArray]) (by go_simp) ?_⟩
                      refine (fmul_any q10 c9 (pw x 1267650600228228275596796362752) (pw x 1125899906842623) V75 HEq.out HE9.out).mono ?_
                      rintro e V76 ⟨c10, rfl, he, hb⟩
                      refine ⟨_, rfl, hb.mono HBs.out, ?_⟩
                      rw [pw_add x 1267650600228228275596796362752 1125899906842623 1267650600228229401496703205375 (by decide)] at he
                      have HEc : Hid (Elm c10 (pw x 1267650600228229401496703205375)) := he
                      replace HBs : Hid (B71 ≤ V76.heap.size) := Nat.le_trans HBs.out hb.size
                      replace HR := hidup (HR.out.later hb)
                      replace HC4 := hidup (HC4.out.later hb)
                      replace HC9 := hidup (HC9.out.later hb)
                      replace HZ := hidup (HZ.out.later hb)
                      replace HW := hidup (HW.out.trans (hb.mono HW.out.size))
                      clear hb he
                      have hst := store_row V76 g10 _ _ c10 HZ.out (by simp [HEc.out.len, zeroE_len]) HEc.out.one
                      have HCv : Hid (Cel (V76.setRow g10 c10.toArray) g10 c10) := setRow_heap V76 g10 _ _ _ _ HZ.out
                      replace HR := hidup (HR.out.put_other (g' := g10) (by omega) c10.toArray)
                      replace HC4 := hidup (HC4.out.put_other (g' := g10) (by omega) c10.toArray)
                      replace HC9 := hidup (HC9.out.put_other (g' := g10) (by omega) c10.toArray)
                      replace HW := hidup (below_setRow HW.out (g := g10) (by omega) c10.toArray)
                      refine sched_end (G := Below B71) (fun _ => Below.refl _ _) (fun _ _ _ h k => Below.trans h k) (by kernel_rfl) [(5, false)] rfl (by kernel_rfl) ?_
                      intro KM hKM
                      go_simp
                      have hlen := HEc.out.len
                      refine sched_put rfl (by rfl) (w' := V76.setRow g10 c10.toArray) (by go_simp) (below_setRow (Below.refl _ _) hgv _) ?_
                      go_simp
                      exact hKM.out _ _ ⟨rfl, g10, q10, c10, rfl, HEc, HCv, HR, HC4, HC9, HW⟩
                  · refine ⟨_, rfl, by rfl, oper_val (v := .pointer (some ⟨W71.heap.size, 0, none⟩)) (w' := W71.alloc (.cells zeroE.toArray 28)) (by go_simp; rfl) ⟨(Below.refl _ _).alloc HBs.out _, ?_⟩⟩
                    have hb : Below W71.heap.size W71 (W71.alloc (.cells zeroE.toArray 28)) := (Below.refl _ _).alloc (Nat.le_refl _) _
                    have HZ : Hid (Cel (W71.alloc (.cells zeroE.toArray 28)) W71.heap.size zeroE) := Cel.new W71 zeroE
                    have hgv : B71 ≤ W71.heap.size := HBs.out
                    replace HBs : Hid (B71 ≤ (W71.alloc (.cells zeroE.toArray 28)).heap.size) := Nat.le_trans HBs.out hb.size
                    replace HR := hidup (HR.out.later hb)
                    replace HC4 := hidup (HC4.out.later hb)
                    replace HC9 := hidup (HC9.out.later hb)
                    replace HW := hidup (HW.out.trans (hb.mono HW.out.size))
                    clear hb
                    generalize W71.alloc (.cells zeroE.toArray 28) = V77 at *
                    generalize W71.heap.size = g10 at *
                    refine sched_fork [1] (by kernel_rfl) rfl ?_
                    intro i hi
                    simp only [List.mem_cons, List.not_mem_nil, or_false] at hi
                    subst hi
                    refine ⟨_, rfl, by rfl, oper_call (f := 36) (args := #[.agg c9.toArray, .int .i64 ((50 : Nat) : Int)]) (by go_simp; try rfl) ?_⟩
                    refine (fsquares_any 50 x 1125899906842623 1267650600228228275596796362752 c9 V77 (by decide) HE9.out (by decide)).mono ?_
                    rintro e V78 ⟨q10, rfl, he, hb⟩
                    refine ⟨_, rfl, hb.mono HBs.out, ?_⟩
                    have HEq : Hid (Elm q10 (pw x 1267650600228228275596796362752)) := he
                    replace HBs : Hid (B71 ≤ V78.heap.size) := Nat.le_trans HBs.out hb.size
                    replace HR := hidup (HR.out.later hb)
                    replace HC4 := hidup (HC4.out.later hb)
                    replace HC9 := hidup (HC9.out.later hb)
                    replace HZ := hidup (HZ.out.later hb)
                    replace HW := hidup (HW.out.trans (hb.mono HW.out.size))
                    clear hb he
                    refine sched_fork [3] (by kernel_rfl) rfl ?_
                    intro i hi
                    simp only [List.mem_cons, List.not_mem_nil, or_false] at hi
                    subst hi
                    refine ⟨_, rfl, by rfl, oper_call (f := 19) (args := #[.agg q10.toArray, .agg c9.toArray]) (by go_simp) ?_⟩
                    refine (fmul_any q10 c9 (pw x 1267650600228228275596796362752) (pw x 1125899906842623) V78 HEq.out HE9.out).mono ?_
                    rintro e V79 ⟨c10, rfl, he, hb⟩
                    refine ⟨_, rfl, hb.mono HBs.out, ?_⟩
                    rw [pw_add x 1267650600228228275596796362752 1125899906842623 1267650600228229401496703205375 (by decide)] at he
                    have HEc : Hid (Elm c10 (pw x 1267650600228229401496703205375)) := he
                    replace HBs : Hid (B71 ≤ V79.heap.size) := Nat.le_trans HBs.out hb.size
                    replace HR := hidup (HR.out.later hb)
                    replace HC4 := hidup (HC4.out.later hb)
                    replace HC9 := hidup (HC9.out.later hb)
                    replace HZ := hidup (HZ.out.later hb)
                    replace HW := hidup (HW.out.trans (hb.mono HW.out.size))
                    clear hb he
                    have hst := store_row V79 g10 _ _ c10 HZ.out (by simp [HEc.out.len, zeroE_len]) HEc.out.one
                    have HCv : Hid (Cel (V79.setRow g10 c10.toArray) g10 c10) := setRow_heap V79 g10 _ _ _ _ HZ.out
                    replace HR := hidup (HR.out.put_other (g' := g10) (by omega) c10.toArray)
                    replace HC4 := hidup (HC4.out.put_other (g' := g10) (by omega) c10.toArray)
                    replace HC9 := hidup (HC9.out.put_other (g' := g10) (by omega) c10.toArray)
                    replace HW := hidup (below_setRow HW.out (g := g10) (by omega) c10.toArray)
                    refine sched_end (G := Below B71) (fun _ => Below.refl _ _) (fun _ _ _ h k => Below.trans h k) (by kernel_rfl) [(5, false)] rfl (by kernel_rfl) ?_
                    intro KM hKM
                    go_simp
                    have hlen := HEc.out.len
                    refine sched_put rfl (by rfl) (w' := V79.setRow g10 c10.toArray) (by go_simp) (below_setRow (Below.refl _ _) hgv _) ?_
                    go_simp
                    exact hKM.out _ _ ⟨rfl, g10, q10, c10, rfl, HEc, HCv, HR, HC4, HC9, HW⟩
                · rintro a W80 ⟨g10, q10, c10, rfl, HE10, HC10, HR, HC4, HC9, HW⟩
                  (try dsimp only)
                  go_wp2
                  refine wp_cut (fun a W => ∃ (g11 : Nat) (q11 c11 : List Value), a = { tmps := #[.agg A.toArray, .pointer (some ⟨w.heap.size, 0, none⟩), .pointer (some ⟨w.heap.size + 1, 0, none⟩), .pointer (some ⟨g3, 0, none⟩), .pointer (some ⟨g4, 0, none⟩), .pointer (some ⟨g5, 0, none⟩), .pointer (some ⟨g6, 0, none⟩), .pointer (some ⟨g7, 0, none⟩), .pointer (some ⟨g8, 0, none⟩), .pointer (some ⟨g9, 0, none⟩), .pointer (some ⟨g10, 0, none⟩), .pointer (some ⟨g11, 0, none⟩), undef, .agg A.toArray, .agg q3.toArray, .agg A.toArray, .agg c3.toArray, .agg A.toArray, .agg q4.toArray, .agg c3.toArray, .agg c4.toArray, .agg c4.toArray, .agg q5.toArray, .agg c3.toArray, .agg c5.toArray, .agg c5.toArray, .agg q6.toArray, .agg c5.toArray, .agg c6.toArray, .agg c6.toArray, .agg q7.toArray, .agg c6.toArray, .agg c7.toArray, .agg c7.toArray, .agg q8.toArray, .agg c7.toArray, .agg c8.toArray, .agg c8.toArray, .agg q9.toArray, .agg c6.toArray, .agg c9.toArray, .agg c9.toArray, .agg q10.toArray, .agg c9.toArray, .agg c10.toArray, .agg c10.toArray, .agg q11.toArray, .agg c10.toArray, .agg c11.toArray, undef, undef, undef, undef, undef, undef, undef, undef], defers := [] } ∧ Hid (Elm c11 (pw x 1606938044258990275541962092341162602522202993782792835301375)) ∧ Hid (Cel W g11 c11) ∧ Hid (Cel W (w.heap.size + 1) zeroE) ∧ Hid (Cel W g4 c4) ∧ Hid (Cel W g9 c9) ∧ Hid (Below w.heap.size w W)) ?_ ?_
                  · obtain ⟨W81, hWd⟩ : ∃ W, W80.drew = W := ⟨_, rfl⟩
                    have HWd : Hid (W80.drew = W81) := hWd
                    have hdr : Below W80.heap.size W80 W81 := by rw [← hWd]; exact (Below.refl _ _).drew
                    replace HR := hidup (HR.out.later hdr)
                    replace HC4 := hidup (HC4.out.later hdr)
                    replace HC9 := hidup (HC9.out.later hdr)
                    replace HC10 := hidup (HC10.out.later hdr)
                    replace HW := hidup (HW.out.trans (hdr.mono HW.out.size))
                    clear hdr hWd
                    obtain ⟨B81, hB⟩ : ∃ B, B = W81.heap.size := ⟨_, rfl⟩
                    have LHR : w.heap.size + 1 < B81 := by rw [hB]; exact HR.out.lt
                    have LHC4 : g4 < B81 := by rw [hB]; exact HC4.out.lt
                    have LHC9 : g9 < B81 := by rw [hB]; exact HC9.out.lt
                    have LHC10 : g10 < B81 := by rw [hB]; exact HC10.out.lt
                    have HBs : Hid (B81 ≤ W81.heap.size) := Nat.le_of_eq hB
                    have hwB : w.heap.size ≤ B81 := by rw [hB]; exact HW.out.size
                    clear hB
                    refine sched_begin (G := Below B81) (by kernel_rfl) (fun _ => Below.refl _ _) (fun _ _ _ h k => Below.trans h k) (by kernel_rfl) [(0, true), (2, true)] 4 #[true, false, true, false, false, false] rfl (by kernel_rfl) ?_
                    intro KL hKL
                    rw [HWd.out]
                    refine sched_take rfl (by rfl) (v := .agg c10.toArray) (fun w' hw' => exec_load_row 28 _ rfl g10 rfl 28 _ (0, 0) _ (HC10.out.below hw' LHC10) Tryd.underlying28 rfl (elm_info HE10.out)) ?_
                    go_simp
                    refine sched_take rfl (by rfl) (v := .agg c10.toArray) (fun w' hw' => exec_load_row 28 _ rfl g10 rfl 28 _ (0, 0) _ (HC10.out.below hw' LHC10) Tryd.underlying28 rfl (elm_info HE10.out)) ?_
                    go_simp
                    refine hKL.out _ _ ?_
                    clear hKL HWd HC10 LHC10
                    refine sched_fork [1, 4] (by kernel_rfl) rfl ?_
                    intro i hi
                    simp only [List.mem_cons, List.not_mem_nil, or_false] at hi
                    rcases hi with rfl | rfl
                    · refine ⟨_, rfl, by rfl, oper_call (f := 36) (args := #[.agg c10.toArray, .int .i64 ((100 : Nat) : Int)]) (by go_simp; try rfl) ?_⟩
                      refine (fsquares_any 100 x 1267650600228229401496703205375 1606938044258990275541962092339894951921974764381296132096000 c10 W81 (by decide) HE10.out (by decide)).mono ?_
                      rintro e V82 ⟨q11, rfl, he, hb⟩
                      refine ⟨_, rfl, hb.mono HBs.out, ?_⟩
                      have HEq : Hid (Elm q11 (pw x 1606938044258990275541962092339894951921974764381296132096000)) := he
                      replace HBs : Hid (B81 ≤ V82.heap.size) := Nat.le_trans HBs.out hb.size
                      replace HR := hidup (HR.out.later hb)
                      replace HC4 := hidup (HC4.out.later hb)
                      replace HC9 := hidup (HC9.out.later hb)
                      replace HW := hidup (HW.out.trans (hb.mono HW.out.size))
                      clear hb he
                      refine sched_fork [3, 4] (by kernel_rfl) rfl ?_
                      intro i hi
                      simp only [List.mem_cons, List.not_mem_nil, or_false] at hi
                      rcases hi with rfl | rfl
                      · refine ⟨_, rfl, by rfl, oper_call (f := 19) (args := #[.agg q11.toArray, .agg c10.toArray]) (by go_simp) ?_⟩
                        refine (fmul_any q11 c10 (pw x 1606938044258990275541962092339894951921974764381296132096000) (pw x 1267650600228229401496703205375) V82 HEq.out HE10.out).mono ?_
                        rintro e V83 ⟨c11, rfl, he, hb⟩
                        refine ⟨_, rfl, hb.mono HBs.out, ?_⟩
                        rw [pw_add x 1606938044258990275541962092339894951921974764381296132096000 1267650600228229401496703205375 1606938044258990275541962092341162602522202993782792835301375 (by decide)] at he
                        have HEc : Hid (Elm c11 (pw x 1606938044258990275541962092341162602522202993782792835301375)) := he
                        replace HBs : Hid (B81 ≤ V83.heap.size) := Nat.le_trans HBs.out hb.size
                        replace HR := hidup (HR.out.later hb)
                        replace HC4 := hidup (HC4.out.later hb)
                        replace HC9 := hidup (HC9.out.later hb)
                        replace HW := hidup (HW.out.trans (hb.mono HW.out.size))
                        clear hb he
                        refine sched_fork [4] (by kernel_rfl) rfl ?_
                        intro i hi
                        simp only [List.mem_cons, List.not_mem_nil, or_false] at hi
                        subst hi
                        refine ⟨_, rfl, by rfl, oper_val (v := .pointer (some ⟨V83.heap.size, 0, none⟩)) (w' := V83.alloc (.cells zeroE.toArray 28)) (by go_simp; rfl) ⟨(Below.refl _ _).alloc HBs.out _, ?_⟩⟩
                        have hb : Below V83.heap.size V83 (V83.alloc (.cells zeroE.toArray 28)) := (Below.refl _ _).alloc (Nat.le_refl _) _
                        have HZ : Hid (Cel (V83.alloc (.cells zeroE.toArray 28)) V83.heap.size zeroE) := Cel.new V83 zeroE
                        have hgv : B81 ≤ V83.heap.size := HBs.out
                        replace HBs : Hid (B81 ≤ (V83.alloc (.cells zeroE.toArray 28)).heap.size) := Nat.le_trans HBs.out hb.size
                        replace HR := hidup (HR.out.later hb)
                        replace HC4 := hidup (HC4.out.later hb)
                        replace HC9 := hidup (HC9.out.later hb)
                        replace HW := hidup (HW.out.trans (hb.mono HW.out.size))
                        clear hb
                        generalize V83.alloc (.cells zeroE.toArray 28) = V84 at *
                        generalize V83.heap.size = g11 at *
                        have hst := store_row V84 g11 _ _ c11 HZ.out (by simp [HEc.out.len, zeroE_len]) HEc.out.one
                        have HCv : Hid (Cel (V84.setRow g11 c11.toArray) g11 c11) := setRow_heap V84 g11 _ _ _ _ HZ.out
                        replace HR := hidup (HR.out.put_other (g' := g11) (by omega) c11.toArray)
                        replace HC4 := hidup (HC4.out.put_other (g' := g11) (by omega) c11.toArray)
                        replace HC9 := hidup (HC9.out.put_other (g' := g11) (by omega) c11.toArray)
                        replace HW := hidup (below_setRow HW.out (g := g11) (by omega) c11.toArray)
                        refine sched_end (G := Below B81) (fun _ => Below.refl _ _) (fun _ _ _ h k => Below.trans h k) (by kernel_rfl) [(5, false)] rfl (by kernel_rfl) ?_
                        intro KM hKM
                        go_simp
                        have hlen := HEc.out.len
                        refine sched_put rfl (by rfl) (w' := V84.setRow g11 c11.toArray) (by go_simp) (below_setRow (Below.refl _ _) hgv _) ?_
                        go_simp
                        exact hKM.out _ _ ⟨rfl, g11, q11, c11, rfl, HEc, HCv, HR, HC4, HC9, HW⟩
                      · refine ⟨_, rfl, by rfl, oper_val (v := .pointer (some ⟨V82.heap.size, 0, none⟩)) (w' := V82.alloc (.cells zeroE.toArray 28)) (by go_simp; rfl) ⟨(Below.refl _ _).alloc HBs.out _, ?_⟩⟩
                        have hb : Below V82.heap.size V82 (V82.alloc (.cells zeroE.toArray 28)) := (Below.refl _ _).alloc (Nat.le_refl _) _
                        have HZ : Hid (Cel (V82.alloc (.cells zeroE.toArray 28)) V82.heap.size zeroE) := Cel.new V82 zeroE
                        have hgv : B81 ≤ V82.heap.size := HBs.out
                        replace HBs : Hid (B81 ≤ (V82.alloc (.cells zeroE.toArray 28)).heap.size) := Nat.le_trans HBs.out hb.size
                        replace HR := hidup (HR.out.later hb)
                        replace HC4 := hidup (HC4.out.later hb)
                        replace HC9 := hidup (HC9.out.later hb)
                        replace HW := hidup (HW.out.trans (hb.mono HW.out.size))
                        clear hb
                        generalize V82.alloc (.cells zeroE.toArray 28) = V85 at *
                        generalize V82.heap.size = g11 at *
                        refine sched_fork [3] (by kernel_rfl) rfl ?_
                        intro i hi
                        simp only [List.mem_cons, List.not_mem_nil, or_false] at hi
                        subst hi
                        refine ⟨_, rfl, by rfl, oper_call (f := 19) (args := #[.agg q11.toArray, .agg c10.toArray]) (by go_simp) ?_⟩
                        refine (fmul_any q11 c10 (pw x 1606938044258990275541962092339894951921974764381296132096000) (pw x 1267650600228229401496703205375) V85 HEq.out HE10.out).mono ?_
                        rintro e V86 ⟨c11, rfl, he, hb⟩
                        refine ⟨_, rfl, hb.mono HBs.out, ?_⟩
                        rw [pw_add x 1606938044258990275541962092339894951921974764381296132096000 1267650600228229401496703205375 1606938044258990275541962092341162602522202993782792835301375 (by decide)] at he
                        have HEc : Hid (Elm c11 (pw x 1606938044258990275541962092341162602522202993782792835301375)) := he
                        replace HBs : Hid (B81 ≤ V86.heap.size) := Nat.le_trans HBs.out hb.size
                        replace HR := hidup (HR.out.later hb)
                        replace HC4 := hidup (HC4.out.later hb)
                        replace HC9 := hidup (HC9.out.later hb)
                        replace HZ := hidup (HZ.out.later hb)
                        replace HW := hidup (HW.out.trans (hb.mono HW.out.size))
                        clear hb he
                        have hst := store_row V86 g11 _ _ c11 HZ.out (by simp [HEc.out.len, zeroE_len]) HEc.out.one
                        have HCv : Hid (Cel (V86.setRow g11 c11.toArray) g11 c11) := setRow_heap V86 g11 _ _ _ _ HZ.out
                        replace HR := hidup (HR.out.put_other (g' := g11) (by omega) c11.toArray)
                        replace HC4 := hidup (HC4.out.put_other (g' := g11) (by omega) c11.toArray)
                        replace HC9 := hidup (HC9.out.put_other (g' := g11) (by omega) c11.toArray)
                        replace HW := hidup (below_setRow HW.out (g := g11) (by omega) c11.toArray)
                        refine sched_end (G := Below B81) (fun _ => Below.refl _ _) (fun _ _ _ h k => Below.trans h k) (by kernel_rfl) [(5, false)] rfl (by kernel_rfl) ?_
                        intro KM hKM
                        go_simp
                        have hlen := HEc.out.len
                        refine sched_put rfl (by rfl) (w' := V86.setRow g11 c11.toArray) (by go_simp) (below_setRow (Below.refl _ _) hgv _) ?_
                        go_simp
                        exact hKM.out _ _ ⟨rfl, g11, q11, c11, rfl, HEc, HCv, HR, HC4, HC9, HW⟩
                    · refine ⟨_, rfl, by rfl, oper_val (v := .pointer (some ⟨W81.heap.size, 0, none⟩)) (w' := W81.alloc (.cells zeroE.toArray 28)) (by go_simp; rfl) ⟨(Below.refl _ _).alloc HBs.out _, ?_⟩⟩
                      have hb : Below W81.heap.size W81 (W81.alloc (.cells zeroE.toArray 28)) := (Below.refl _ _).alloc (Nat.le_refl _) _
                      have HZ : Hid (Cel (W81.alloc (.cells zeroE.toArray 28)) W81.heap.size zeroE) := Cel.new W81 zeroE
                      have hgv : B81 ≤ W81.heap.size := HBs.out
                      replace HBs : Hid (B81 ≤ (W81.alloc (.cells zeroE.toArray 28)).heap.size) := Nat.le_trans HBs.out hb.size
                      replace HR := hidup (HR.out.later hb)
                      replace HC4 := hidup (HC4.out.later hb)
                      replace HC9 := hidup (HC9.out.later hb)
                      replace HW := hidup (HW.out.trans (hb.mono HW.out.size))
                      clear hb
                      generalize W81.alloc (.cells zeroE.toArray 28) = V87 at *
                      generalize W81.heap.size = g11 at *
                      refine sched_fork [1] (by kernel_rfl) rfl ?_
                      intro i hi
                      simp only [List.mem_cons, List.not_mem_nil, or_false] at hi
                      subst hi
                      refine ⟨_, rfl, by rfl, oper_call (f := 36) (args := #[.agg c10.toArray, .int .i64 ((100 : Nat) : Int)]) (by go_simp; try rfl) ?_⟩
                      refine (fsquares_any 100 x 1267650600228229401496703205375 1606938044258990275541962092339894951921974764381296132096000 c10 V87 (by decide) HE10.out (by decide)).mono ?_
                      rintro e V88 ⟨q11, rfl, he, hb⟩
                      refine ⟨_, rfl, hb.mono HBs.out, ?_⟩
                      have HEq : Hid (Elm q11 (pw x 1606938044258990275541962092339894951921974764381296132096000)) := he
                      replace HBs : Hid (B81 ≤ V88.heap.size) := Nat.le_trans HBs.out hb.size
                      replace HR := hidup (HR.out.later hb)
                      replace HC4 := hidup (HC4.out.later hb)
                      replace HC9 := hidup (HC9.out.later hb)
                      replace HZ := hidup (HZ.out.later hb)
                      replace HW := hidup (HW.out.trans (hb.mono HW.out.size))
                      clear hb he
                      refine sched_fork [3] (by kernel_rfl) rfl ?_
                      intro i hi
                      simp only [List.mem_cons, List.not_mem_nil, or_false] at hi
                      subst hi
                      refine ⟨_, rfl, by rfl, oper_call (f := 19) (args := #[.agg q11.toArray, .agg c10.toArray]) (by go_simp) ?_⟩
                      refine (fmul_any q11 c10 (pw x 1606938044258990275541962092339894951921974764381296132096000) (pw x 1267650600228229401496703205375) V88 HEq.out HE10.out).mono ?_
                      rintro e V89 ⟨c11, rfl, he, hb⟩
                      refine ⟨_, rfl, hb.mono HBs.out, ?_⟩
                      rw [pw_add x 1606938044258990275541962092339894951921974764381296132096000 1267650600228229401496703205375 1606938044258990275541962092341162602522202993782792835301375 (by decide)] at he
                      have HEc : Hid (Elm c11 (pw x 1606938044258990275541962092341162602522202993782792835301375)) := he
                      replace HBs : Hid (B81 ≤ V89.heap.size) := Nat.le_trans HBs.out hb.size
                      replace HR := hidup (HR.out.later hb)
                      replace HC4 := hidup (HC4.out.later hb)
                      replace HC9 := hidup (HC9.out.later hb)
                      replace HZ := hidup (HZ.out.later hb)
                      replace HW := hidup (HW.out.trans (hb.mono HW.out.size))
                      clear hb he
                      have hst := store_row V89 g11 _ _ c11 HZ.out (by simp [HEc.out.len, zeroE_len]) HEc.out.one
                      have HCv : Hid (Cel (V89.setRow g11 c11.toArray) g11 c11) := setRow_heap V89 g11 _ _ _ _ HZ.out
                      replace HR := hidup (HR.out.put_other (g' := g11) (by omega) c11.toArray)
                      replace HC4 := hidup (HC4.out.put_other (g' := g11) (by omega) c11.toArray)
                      replace HC9 := hidup (HC9.out.put_other (g' := g11) (by omega) c11.toArray)
                      replace HW := hidup (below_setRow HW.out (g := g11) (by omega) c11.toArray)
                      refine sched_end (G := Below B81) (fun _ => Below.refl _ _) (fun _ _ _ h k => Below.trans h k) (by kernel_rfl) [(5, false)] rfl (by kernel_rfl) ?_
                      intro KM hKM
                      go_simp
                      have hlen := HEc.out.len
                      refine sched_put rfl (by rfl) (w' := V89.setRow g11 c11.toArray) (by go_simp) (below_setRow (Below.refl _ _) hgv _) ?_
                      go_simp
                      exact hKM.out _ _ ⟨rfl, g11, q11, c11, rfl, HEc, HCv, HR, HC4, HC9, HW⟩
                  · rintro a W90 ⟨g11, q11, c11, rfl, HE11, HC11, HR, HC4, HC9, HW⟩
                    (try dsimp only)
                    go_wp2
                    refine wp_cut (fun a W => ∃ (g12 : Nat) (q12 c12 : List Value), a = { tmps := #[.agg A.toArray, .pointer (some ⟨w.heap.size, 0, none⟩), .pointer (some ⟨w.heap.size + 1, 0, none⟩), .pointer (some ⟨g3, 0, none⟩), .pointer (some ⟨g4, 0, none⟩), .pointer (some ⟨g5, 0, none⟩), .pointer (some ⟨g6, 0, none⟩), .pointer (some ⟨g7, 0, none⟩), .pointer (some ⟨g8, 0, none⟩), .pointer (some ⟨g9, 0, none⟩), .pointer (some ⟨g10, 0, none⟩), .pointer (some ⟨g11, 0, none⟩), .pointer (some ⟨g12, 0, none⟩), .agg A.toArray, .agg q3.toArray, .agg A.toArray, .agg c3.toArray, .agg A.toArray, .agg q4.toArray, .agg c3.toArray, .agg c4.toArray, .agg c4.toArray, .agg q5.toArray, .agg c3.toArray, .agg c5.toArray, .agg c5.toArray, .agg q6.toArray, .agg c5.toArray, .agg c6.toArray, .agg c6.toArray, .agg q7.toArray, .agg c6.toArray, .agg c7.toArray, .agg c7.toArray, .agg q8.toArray, .agg c7.toArray, .agg c8.toArray, .agg c8.toArray, .agg q9.toArray, .agg c6.toArray, .agg c9.toArray, .agg c9.toArray, .agg q10.toArray, .agg c9.toArray, .agg c10.toArray, .agg c10.toArray, .agg q11.toArray, .agg c10.toArray, .agg c11.toArray, .agg c11.toArray, .agg q12.toArray, .agg c9.toArray, .agg c12.toArray, undef, undef, undef, undef], defers := [] } ∧ Hid (Elm c12 (pw x 1809251394333065553493296640760748560207343510400633813116524750123642650623)) ∧ Hid (Cel W g12 c12) ∧ Hid (Cel W (w.heap.size + 1) zeroE) ∧ Hid (Cel W g4 c4) ∧ Hid (Below w.heap.size w W)) ?_ ?_
                    · obtain ⟨W91, hWd⟩ : ∃ W, W90.drew = W := ⟨_, rfl⟩
                      have HWd : Hid (W90.drew = W91) := hWd
                      have hdr : Below W90.heap.size W90 W91 := by rw [← hWd]; exact (Below.refl _ _).drew
                      replace HR := hidup (HR.out.later hdr)
                      replace HC4 := hidup (HC4.out.later hdr)
                      replace HC9 := hidup (HC9.out.later hdr)
                      replace HC11 := hidup (HC11.out.later hdr)
                      replace HW := hidup (HW.out.trans (hdr.mono HW.out.size))
                      clear hdr hWd
                      obtain ⟨B91, hB⟩ : ∃ B, B = W91.heap.size := ⟨_, rfl⟩
                      have LHR : w.heap.size + 1 < B91 := by rw [hB]; exact HR.out.lt
                      have LHC4 : g4 < B91 := by rw [hB]; exact HC4.out.lt
                      have LHC9 : g9 < B91 := by rw [hB]; exact HC9.out.lt
                      have LHC11 : g11 < B91 := by rw [hB]; exact HC11.out.lt
                      have HBs : Hid (B91 ≤ W91.heap.size) := Nat.le_of_eq hB
                      have hwB : w.heap.size ≤ B91 := by rw [hB]; exact HW.out.size
                      clear hB
                      refine sched_begin (G := Below B91) (by kernel_rfl) (fun _ => Below.refl _ _) (fun _ _ _ h k => Below.trans h k) (by kernel_rfl) [(0, true), (2, true)] 4 #[true, false, true, false, false, false] rfl (by kernel_rfl) ?_
                      intro KL hKL
                      rw [HWd.out]
                      refine sched_take rfl (by rfl) (v := .agg c11.toArray) (fun w' hw' => exec_load_row 28 _ rfl g11 rfl 28 _ (0, 0) _ (HC11.out.below hw' LHC11) Tryd.underlying28 rfl (elm_info HE11.out)) ?_
                      go_simp
                      refine sched_take rfl (by rfl) (v := .agg c9.toArray) (fun w' hw' => exec_load_row 28 _ rfl g9 rfl 28 _ (0, 0) _ (HC9.out.below hw' LHC9) Tryd.underlying28 rfl (elm_info HE9.out)) ?_
                      go_simp
                      refine hKL.out _ _ ?_
                      clear hKL HWd HC9 LHC9 HC11 LHC11
                      refine sched_fork [1, 4] (by kernel_rfl) rfl ?_
                      intro i hi
                      simp only [List.mem_cons, List.not_mem_nil, or_false] at hi
                      rcases hi with rfl | rfl
                      · refine ⟨_, rfl, by rfl, oper_call (f := 36) (args := #[.agg c11.toArray, .int .i64 ((50 : Nat) : Int)]) (by go_simp; try rfl) ?_⟩
                        refine (fsquares_any 50 x 1606938044258990275541962092341162602522202993782792835301375 1809251394333065553493296640760748560207343510400633813116523624223735808000 c11 W91 (by decide) HE11.out (by decide)).mono ?_
                        rintro e V92 ⟨q12, rfl, he, hb⟩
                        refine ⟨_, rfl, hb.mono HBs.out, ?_⟩
                        have HEq : Hid (Elm q12 (pw x 1809251394333065553493296640760748560207343510400633813116523624223735808000)) := he
                        replace HBs : Hid (B91 ≤ V92.heap.size) := Nat.le_trans HBs.out hb.size
                        replace HR := hidup (HR.out.later hb)
                        replace HC4 := hidup (HC4.out.later hb)
                        replace HW := hidup (HW.out.trans (hb.mono HW.out.size))
                        clear hb he
                        refine sched_fork [3, 4] (by kernel_rfl) rfl ?_
                        intro i hi
                        simp only [List.mem_cons, List.not_mem_nil, or_false] at hi
                        rcases hi with rfl | rfl
                        · refine ⟨_, rfl, by rfl, oper_call (f := 19) (args := #[.agg q12.toArray, .agg c9.toArray]) (by go_simp) ?_⟩
                          refine (fmul_any q12 c9 (pw x 1809251394333065553493296640760748560207343510400633813116523624223735808000) (pw x 1125899906842623) V92 HEq.out HE9.out).mono ?_
                          rintro e V93 ⟨c12, rfl, he, hb⟩
                          refine ⟨_, rfl, hb.mono HBs.out, ?_⟩
                          rw [pw_add x 1809251394333065553493296640760748560207343510400633813116523624223735808000 1125899906842623 1809251394333065553493296640760748560207343510400633813116524750123642650623 (by decide)] at he
                          have HEc : Hid (Elm c12 (pw x 1809251394333065553493296640760748560207343510400633813116524750123642650623)) := he
                          replace HBs : Hid (B91 ≤ V93.heap.size) := Nat.le_trans HBs.out hb.size
                          replace HR := hidup (HR.out.later hb)
                          replace HC4 := hidup (HC4.out.later hb)
                          replace HW := hidup (HW.out.trans (hb.mono HW.out.size))
                          clear hb he
                          refine sched_fork [4] (by kernel_rfl) rfl ?_
                          intro i hi
                          simp only [List.mem_cons, List.not_mem_nil, or_false] at hi
                          subst hi
                          refine ⟨_, rfl, by rfl, oper_val (v := .pointer (some ⟨V93.heap.size, 0, none⟩)) (w' := V93.alloc (.cells zeroE.toArray 28)) (by go_simp; rfl) ⟨(Below.refl _ _).alloc HBs.out _, ?_⟩⟩
                          have hb : Below V93.heap.size V93 (V93.alloc (.cells zeroE.toArray 28)) := (Below.refl _ _).alloc (Nat.le_refl _) _
                          have HZ : Hid (Cel (V93.alloc (.cells zeroE.toArray 28)) V93.heap.size zeroE) := Cel.new V93 zeroE
                          have hgv : B91 ≤ V93.heap.size := HBs.out
                          replace HBs : Hid (B91 ≤ (V93.alloc (.cells zeroE.toArray 28)).heap.size) := Nat.le_trans HBs.out hb.size
                          replace HR := hidup (HR.out.later hb)
                          replace HC4 := hidup (HC4.out.later hb)
                          replace HW := hidup (HW.out.trans (hb.mono HW.out.size))
                          clear hb
                          generalize V93.alloc (.cells zeroE.toArray 28) = V94 at *
                          generalize V93.heap.size = g12 at *
                          have hst := store_row V94 g12 _ _ c12 HZ.out (by simp [HEc.out.len, zeroE_len]) HEc.out.one
                          have HCv : Hid (Cel (V94.setRow g12 c12.toArray) g12 c12) := setRow_heap V94 g12 _ _ _ _ HZ.out
                          replace HR := hidup (HR.out.put_other (g' := g12) (by omega) c12.toArray)
                          replace HC4 := hidup (HC4.out.put_other (g' := g12) (by omega) c12.toArray)
                          replace HW := hidup (below_setRow HW.out (g := g12) (by omega) c12.toArray)
                          refine sched_end (G := Below B91) (fun _ => Below.refl _ _) (fun _ _ _ h k => Below.trans h k) (by kernel_rfl) [(5, false)] rfl (by kernel_rfl) ?_
                          intro KM hKM
                          go_simp
                          have hlen := HEc.out.len
                          refine sched_put rfl (by rfl) (w' := V94.setRow g12 c12.toArray) (by go_simp) (below_setRow (Below.refl _ _) hgv _) ?_
                          go_simp
                          exact hKM.out _ _ ⟨rfl, g12, q12, c12, rfl, HEc, HCv, HR, HC4, HW⟩
                        · refine ⟨_, rfl, by rfl, oper_val (v := .pointer (some ⟨V92.heap.size, 0, none⟩)) (w' := V92.alloc (.cells zeroE.toArray 28)) (by go_simp; rfl) ⟨(Below.refl _ _).alloc HBs.out _, ?_⟩⟩
                          have hb : Below V92.heap.size V92 (V92.alloc (.cells zeroE.toArray 28)) := (Below.refl _ _).alloc (Nat.le_refl _) _
                          have HZ : Hid (Cel (V92.alloc (.cells zeroE.toArray 28)) V92.heap.size zeroE) := Cel.new V92 zeroE
                          have hgv : B91 ≤ V92.heap.size := HBs.out
                          replace HBs : Hid (B91 ≤ (V92.alloc (.cells zeroE.toArray 28)).heap.size) := Nat.le_trans HBs.out hb.size
                          replace HR := hidup (HR.out.later hb)
                          replace HC4 := hidup (HC4.out.later hb)
                          replace HW := hidup (HW.out.trans (hb.mono HW.out.size))
                          clear hb
                          generalize V92.alloc (.cells zeroE.toArray 28) = V95 at *
                          generalize V92.heap.size = g12 at *
                          refine sched_fork [3] (by kernel_rfl) rfl ?_
                          intro i hi
                          simp only [List.mem_cons, List.not_mem_nil, or_false] at hi
                          subst hi
                          refine ⟨_, rfl, by rfl, oper_call (f := 19) (args := #[.agg q12.toArray, .agg c9.toArray]) (by go_simp) ?_⟩
                          refine (fmul_any q12 c9 (pw x 1809251394333065553493296640760748560207343510400633813116523624223735808000) (pw x 1125899906842623) V95 HEq.out HE9.out).mono ?_
                          rintro e V96 ⟨c12, rfl, he, hb⟩
                          refine ⟨_, rfl, hb.mono HBs.out, ?_⟩
                          rw [pw_add x 1809251394333065553493296640760748560207343510400633813116523624223735808000 1125899906842623 1809251394333065553493296640760748560207343510400633813116524750123642650623 (by decide)] at he
                          have HEc : Hid (Elm c12 (pw x 1809251394333065553493296640760748560207343510400633813116524750123642650623)) := he
                          replace HBs : Hid (B91 ≤ V96.heap.size) := Nat.le_trans HBs.out hb.size
                          replace HR := hidup (HR.out.later hb)
                          replace HC4 := hidup (HC4.out.later hb)
                          replace HZ := hidup (HZ.out.later hb)
                          replace HW := hidup (HW.out.trans (hb.mono HW.out.size))
                          clear hb he
                          have hst := store_row V96 g12 _ _ c12 HZ.out (by simp [HEc.out.len, zeroE_len]) HEc.out.one
                          have HCv : Hid (Cel (V96.setRow g12 c12.toArray) g12 c12) := setRow_heap V96 g12 _ _ _ _ HZ.out
                          replace HR := hidup (HR.out.put_other (g' := g12) (by omega) c12.toArray)
                          replace HC4 := hidup (HC4.out.put_other (g' := g12) (by omega) c12.toArray)
                          replace HW := hidup (below_setRow HW.out (g := g12) (by omega) c12.toArray)
                          refine sched_end (G := Below B91) (fun _ => Below.refl _ _) (fun _ _ _ h k => Below.trans h k) (by kernel_rfl) [(5, false)] rfl (by kernel_rfl) ?_
                          intro KM hKM
                          go_simp
                          have hlen := HEc.out.len
                          refine sched_put rfl (by rfl) (w' := V96.setRow g12 c12.toArray) (by go_simp) (below_setRow (Below.refl _ _) hgv _) ?_
                          go_simp
                          exact hKM.out _ _ ⟨rfl, g12, q12, c12, rfl, HEc, HCv, HR, HC4, HW⟩
                      · refine ⟨_, rfl, by rfl, oper_val (v := .pointer (some ⟨W91.heap.size, 0, none⟩)) (w' := W91.alloc (.cells zeroE.toArray 28)) (by go_simp; rfl) ⟨(Below.refl _ _).alloc HBs.out _, ?_⟩⟩
                        have hb : Below W91.heap.size W91 (W91.alloc (.cells zeroE.toArray 28)) := (Below.refl _ _).alloc (Nat.le_refl _) _
                        have HZ : Hid (Cel (W91.alloc (.cells zeroE.toArray 28)) W91.heap.size zeroE) := Cel.new W91 zeroE
                        have hgv : B91 ≤ W91.heap.size := HBs.out
                        replace HBs : Hid (B91 ≤ (W91.alloc (.cells zeroE.toArray 28)).heap.size) := Nat.le_trans HBs.out hb.size
                        replace HR := hidup (HR.out.later hb)
                        replace HC4 := hidup (HC4.out.later hb)
                        replace HW := hidup (HW.out.trans (hb.mono HW.out.size))
                        clear hb
                        generalize W91.alloc (.cells zeroE.toArray 28) = V97 at *
                        generalize W91.heap.size = g12 at *
                        refine sched_fork [1] (by kernel_rfl) rfl ?_
                        intro i hi
                        simp only [List.mem_cons, List.not_mem_nil, or_false] at hi
                        subst hi
                        refine ⟨_, rfl, by rfl, oper_call (f := 36) (args := #[.agg c11.toArray, .int .i64 ((50 : Nat) : Int)]) (by go_simp; try rfl) ?_⟩
                        refine (fsquares_any 50 x 1606938044258990275541962092341162602522202993782792835301375 1809251394333065553493296640760748560207343510400633813116523624223735808000 c11 V97 (by decide) HE11.out (by decide)).mono ?_
                        rintro e V98 ⟨q12, rfl, he, hb⟩
                        refine ⟨_, rfl, hb.mono HBs.out, ?_⟩
                        have HEq : Hid (Elm q12 (pw x 1809251394333065553493296640760748560207343510400633813116523624223735808000)) := he
                        replace HBs : Hid (B91 ≤ V98.heap.size) := Nat.le_trans HBs.out hb.size
                        replace HR := hidup (HR.out.later hb)
                        replace HC4 := hidup (HC4.out.later hb)
                        replace HZ := hidup (HZ.out.later hb)
                        replace HW := hidup (HW.out.trans (hb.mono HW.out.size))
                        clear hb he
                        refine sched_fork [3] (by kernel_rfl) rfl ?_
                        intro i hi
                        simp only [List.mem_cons, List.not_mem_nil, or_false] at hi
                        subst hi
                        refine ⟨_, rfl, by rfl, oper_call (f := 19) (args := #[.agg q12.toArray, .agg c9.toArray]) (by go_simp) ?_⟩
                        refine (fmul_any q12 c9 (pw x 1809251394333065553493296640760748560207343510400633813116523624223735808000) (pw x 1125899906842623) V98 HEq.out HE9.out).mono ?_
                        rintro e V99 ⟨c12, rfl, he, hb⟩
                        refine ⟨_, rfl, hb.mono HBs.out, ?_⟩
                        rw [pw_add x 1809251394333065553493296640760748560207343510400633813116523624223735808000 1125899906842623 1809251394333065553493296640760748560207343510400633813116524750123642650623 (by decide)] at he
                        have HEc : Hid (Elm c12 (pw x 1809251394333065553493296640760748560207343510400633813116524750123642650623)) := he
                        replace HBs : Hid (B91 ≤ V99.heap.size) := Nat.le_trans HBs.out hb.size
                        replace HR := hidup (HR.out.later hb)
                        replace HC4 := hidup (HC4.out.later hb)
                        replace HZ := hidup (HZ.out.later hb)
                        replace HW := hidup (HW.out.trans (hb.mono HW.out.size))
                        clear hb he
                        have hst := store_row V99 g12 _ _ c12 HZ.out (by simp [HEc.out.len, zeroE_len]) HEc.out.one
                        have HCv : Hid (Cel (V99.setRow g12 c12.toArray) g12 c12) := setRow_heap V99 g12 _ _ _ _ HZ.out
                        replace HR := hidup (HR.out.put_other (g' := g12) (by omega) c12.toArray)
                        replace HC4 := hidup (HC4.out.put_other (g' := g12) (by omega) c12.toArray)
                        replace HW := hidup (below_setRow HW.out (g := g12) (by omega) c12.toArray)
                        refine sched_end (G := Below B91) (fun _ => Below.refl _ _) (fun _ _ _ h k => Below.trans h k) (by kernel_rfl) [(5, false)] rfl (by kernel_rfl) ?_
                        intro KM hKM
                        go_simp
                        have hlen := HEc.out.len
                        refine sched_put rfl (by rfl) (w' := V99.setRow g12 c12.toArray) (by go_simp) (below_setRow (Below.refl _ _) hgv _) ?_
                        go_simp
                        exact hKM.out _ _ ⟨rfl, g12, q12, c12, rfl, HEc, HCv, HR, HC4, HW⟩
                    · rintro a W100 ⟨g12, q12, c12, rfl, HE12, HC12, HR, HC4, HW⟩
                      (try dsimp only)
                      go_wp2
                      obtain ⟨W101, hWd⟩ : ∃ W, W100.drew = W := ⟨_, rfl⟩
                      have HWd : Hid (W100.drew = W101) := hWd
                      have hdr : Below W100.heap.size W100 W101 := by rw [← hWd]; exact (Below.refl _ _).drew
                      replace HR := hidup (HR.out.later hdr)
                      replace HC4 := hidup (HC4.out.later hdr)
                      replace HC12 := hidup (HC12.out.later hdr)
                      replace HW := hidup (HW.out.trans (hdr.mono HW.out.size))
                      clear hdr hWd
                      refine wp_region_sched' (G := Grows) (by kernel_rfl) Grows.refl Grows.trans (by kernel_rfl) [(0, true), (2, true), (1, false), (3, false), (4, false)] rfl (by kernel_rfl) ?_
                      intro KK hKK
                      rw [HWd.out]
                      clear HWd
                      refine sched_take rfl (by rfl) (v := .agg c12.toArray) (fun w' hw' => exec_load_row 28 _ rfl g12 rfl 28 _ (0, 0) _ (HC12.out.later hw') Tryd.underlying28 rfl (elm_info HE12.out)) ?_
                      go_simp
                      refine sched_take rfl (by rfl) (v := .agg c4.toArray) (fun w' hw' => exec_load_row 28 _ rfl g4 rfl 28 _ (0, 0) _ (HC4.out.later hw') Tryd.underlying28 rfl (elm_info HE4.out)) ?_
                      go_simp
                      refine sched_call (f := 36) (args := #[.agg c12.toArray, .int .i64 ((5 : Nat) : Int)]) rfl (by rfl) (by go_simp; try rfl) ?_
                      refine (fsquares_any 5 x 1809251394333065553493296640760748560207343510400633813116524750123642650623 57896044618658097711785492504343953926634992332820282019728792003956564819936 c12 W101 (by decide) HE12.out (by decide)).mono ?_
                      rintro e V98 ⟨q, rfl, he, hb⟩
                      refine ⟨_, rfl, hb, ?_⟩
                      have HEq : Hid (Elm q (pw x 57896044618658097711785492504343953926634992332820282019728792003956564819936)) := he
                      replace HR := hidup (HR.out.later hb)
                      replace HC4 := hidup (HC4.out.later hb)
                      replace HC12 := hidup (HC12.out.later hb)
                      replace HW := hidup (HW.out.trans (hb.mono HW.out.size))
                      clear hb he
                      go_simp
                      refine sched_call (f := 19) (args := #[.agg q.toArray, .agg c4.toArray]) rfl (by rfl) (by go_simp) ?_
                      refine (fmul_any q c4 (pw x 57896044618658097711785492504343953926634992332820282019728792003956564819936) (pw x 11) V98 HEq.out HE4.out).mono ?_
                      rintro e V99 ⟨c, rfl, he, hb⟩
                      refine ⟨_, rfl, hb, ?_⟩
                      rw [pw_add x 57896044618658097711785492504343953926634992332820282019728792003956564819936 11 57896044618658097711785492504343953926634992332820282019728792003956564819947 (by decide)] at he
                      have HEc : Hid (Elm c (pw x 57896044618658097711785492504343953926634992332820282019728792003956564819947)) := he
                      replace HR := hidup (HR.out.later hb)
                      replace HC4 := hidup (HC4.out.later hb)
                      replace HC12 := hidup (HC12.out.later hb)
                      replace HW := hidup (HW.out.trans (hb.mono HW.out.size))
                      have hlen := he.len
                      have hst := store_row V99 (w.heap.size + 1) _ _ c HR.out (by simp [hlen, zeroE_len]) he.one
                      have hrow := setRow_heap V99 (w.heap.size + 1) _ c.toArray _ _ HR.out
                      have HBel : Hid (Below w.heap.size w (V99.setRow (w.heap.size + 1) c.toArray)) := below_setRow HW.out (by omega) _
                      obtain ⟨X, hX⟩ : ∃ X, V99.setRow (w.heap.size + 1) c.toArray = X := ⟨_, rfl⟩
                      rw [hX] at hst hrow HBel
                      have HRow : Hid (X.heap[w.heap.size + 1]? = some (.cells c.toArray 28 (0, 0))) := hrow
                      clear hb he hrow hX
                      go_simp
                      refine sched_store rfl (by rfl) (w' := X) (by go_simp) (by kernel_rfl) ?_
                      go_simp
                      refine sched_done hKK ?_
                      clear hKK
                      (try go_wp2)
                      (try simp only [Exit.inBlock, Exit.then])
                      refine bodyPost_ret (results_cell_row rfl _ _ (w.heap.size + 1) 28 _ (0, 0) _ rfl HRow.out Tryd.underlying28 rfl (elm_info HEc.out)) rfl ?_
                      exact ⟨c, rfl, HEc.out, HBel.out⟩
end Go.Proofs.YtgggdcliepgahaaDoor
