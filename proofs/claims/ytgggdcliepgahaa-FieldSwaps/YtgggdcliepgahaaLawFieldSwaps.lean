/- FieldSwaps. For every two keys, both ways, without a condition. -/
import Derived.Test.YtgggdcliepgahaaFieldShown
import Derived.Test.YtgggdcliepgahaaFldS
namespace Go.Proofs.Ytgggdcliepgahaa.fieldSwaps
open Go.ChangeShapes Go.WideShapes Go.ChangeAt Go.RowKit
set_option linter.unusedVariables false

/-- Some orders are parted, the rest comes behind. -/
theorem sched_mid {P : Program} {ops : Array Oper} {Q : Exit → Act → World → Prop} {G : World → World → Prop} {fuel0 : Nat} {listed : Array Bool} {a : Act} {w : World} (hrefl : ∀ w, G w w) (htrans : ∀ a b c, G a b → G b c → G a c) (hs : Region.noSelect ops = true)
    (s : List (Nat × Bool)) (fuel : Nat) (listed' : Array Bool) (hsz : fuel + s.length = fuel0) (hto : schedTo .any ops s listed = some listed')
    (h : ∀ K : Act → World → Prop, Hid (∀ a w, wpAnyG P .any ops (NoPanic Q) G fuel listed' a w → K a w) → wpSched P ops (NoPanic Q) G K s a w) : wpAnyG P .any ops (NoPanic Q) G fuel0 listed a w := by
  have := sched_sound (Q := NoPanic Q) rfl hrefl htrans hs (fun _ _ _ _ _ h => h) fuel listed' s listed a w hto (h _ (fun _ _ h => h))
  rw [hsz] at this
  exact this
/-- The two keys that came in. -/
structure Sw (w : World) (a b : List UInt8) (W : World) : Prop where
  k0 : Arr W w.heap.size 23 a
  k1 : Arr W (w.heap.size + 1) 23 b
  bel : Below w.heap.size w W
theorem Sw.lt {w W : World} {a b : List UInt8} (x : Sw w a b W) : w.heap.size + 1 < W.heap.size := x.k1.lt
theorem Sw.on {B : Nat} {w W W' : World} {a b : List UInt8} (x : Sw w a b W) (hb : Below B W W') (hB : w.heap.size + 1 < B) : Sw w a b W' :=
  ⟨x.k0.below hb (by omega), x.k1.below hb hB, x.bel.trans (hb.mono (by omega))⟩
theorem Sw.later {w W W' : World} {a b : List UInt8} (x : Sw w a b W) (hb : Below W.heap.size W W') : Sw w a b W' := x.on hb x.lt

def zero32K : Array Value := (List.replicate 32 (Value.int .u8 0)).toArray
set_option maxHeartbeats 8000000 in
set_option maxRecDepth 100000 in
theorem walk (l0 l1 : List UInt8) (is : Bool) (w : World) (w0 : l0.length = 32) (w1 : l1.length = 32) :
    Calls Try.prog 5 #[.agg (l0.map bv).toArray, .agg (l1.map bv).toArray, .bool is] w fun e w' => e = .returned (.bool true) ∧ Below w.heap.size w w' := by
  have hI : Hid (∀ l : List UInt8, l.length = 32 → (Try.prog.info? 23).map (·.size) = some (l.map bv).toArray.size) := fun l hl => info_size (n := 32) (by kernel_rfl) l hl
  obtain ⟨x, hx⟩ : ∃ x, leN l0 % 2 ^ 255 % P255 = x := ⟨_, rfl⟩
  obtain ⟨y, hy⟩ : ∃ y, leN l1 % 2 ^ 255 % P255 = y := ⟨_, rfl⟩
  have hxf := fun w => ffrom_any l0 w w0
  have hyf := fun w => ffrom_any l1 w w1
  rw [hx] at hxf
  rw [hy] at hyf
  have HXF := hidup hxf
  have HYF := hidup hyf
  clear hx hy hxf hyf
  go_enter Try.func5, Try.ntmps5
  go_wp2_with fail
  refine (fshown_any _).mono ?_
  rintro e V0 ⟨rfl, hb⟩
  obtain ⟨hk0, hk1, hbw⟩ := keys2 w l0 l1
  have HS : Hid (Sw w l0 l1 V0) := ⟨hk0.later hb, hk1.later hb, hbw.trans (hb.mono hbw.size)⟩
  clear hb hbw hk0 hk1
  go_wp2_with fail
  refine wp_cut (fun a W => ∃ (ga gb : Nat) (c0 c1 C D : List Value), a = { tmps := #[.agg (l0.map bv).toArray, .agg (l1.map bv).toArray, .bool is, .pointer (some ⟨w.heap.size, 0, none⟩), .pointer (some ⟨w.heap.size + 1, 0, none⟩), undef, .bool false, .bool true, .pointer (some ⟨ga, 0, none⟩), .pointer (some ⟨gb, 0, none⟩), undef, undef, .bool true, .tuple #[.agg C.toArray, .agg D.toArray], .bool is, .agg (l0.map bv).toArray, .agg c0.toArray, .agg (l1.map bv).toArray, .agg c1.toArray, .tuple #[.agg C.toArray, .agg D.toArray], .agg C.toArray, .agg D.toArray, undef, undef, undef, undef, undef, undef, undef, undef, undef, undef, undef, undef, undef, undef, undef, undef, undef, undef, undef, undef, undef, undef, undef, undef, undef, undef, undef, undef, undef, undef, undef, undef, undef], defers := [] } ∧ Hid (Elm C (if is then y else x)) ∧ Hid (Elm D (if is then x else y)) ∧ Hid (Cel W ga C) ∧ Hid (Cel W gb D) ∧ Hid (Sw w l0 l1 W)) ?_ ?_
  · obtain ⟨W, hWd⟩ : ∃ W, V0.drew = W := ⟨_, rfl⟩
    have HWd : Hid (V0.drew = W) := hWd
    have hdr : Below V0.heap.size V0 W := by rw [← hWd]; exact (Below.refl _ _).drew
    obtain ⟨B, hB⟩ : ∃ B, B = V0.heap.size := ⟨_, rfl⟩
    have LS : w.heap.size + 1 < B := by rw [hB]; exact HS.out.lt
    have HBs : Hid (B ≤ W.heap.size) := by rw [hB]; exact hdr.size
    replace HS := hidup (HS.out.later hdr)
    clear hdr hWd hB
    refine sched_begin (G := Below B) (by kernel_rfl) (fun _ => Below.refl _ _) (fun _ _ _ h k => Below.trans h k) (by kernel_rfl) [(0, true), (1, true), (3, true)] 10 #[true, true, false, true, false, false, false, false, false, false, false, false, false] rfl (by kernel_rfl) ?_
    intro KL hKL
    rw [HWd.out]
    refine sched_take rfl (by rfl) (v := .bool is) (fun w' hw' => by clear hw'; go_simp) ?_
    go_simp
    refine sched_take rfl (by rfl) (v := .agg (l0.map bv).toArray) (fun w' hw' => exec_load_row 23 _ rfl w.heap.size rfl 23 _ (0, 0) _ (HS.out.on hw' LS).k0 Try.underlying23 rfl (hI.out l0 w0)) ?_
    go_simp
    refine sched_take rfl (by rfl) (v := .agg (l1.map bv).toArray) (fun w' hw' => exec_load_row 23 _ rfl (w.heap.size + 1) rfl 23 _ (0, 0) _ (HS.out.on hw' LS).k1 Try.underlying23 rfl (hI.out l1 w1)) ?_
    go_simp
    refine hKL.out _ _ ?_
    clear hKL HWd
    refine sched_fork [2, 9, 10] (by kernel_rfl) rfl ?_
    intro i hi
    simp only [List.mem_cons, List.not_mem_nil, or_false] at hi
    rcases hi with rfl | rfl | rfl
    · refine ⟨_, rfl, by rfl, oper_call (f := 8) (args := #[.agg (l0.map bv).toArray]) (by go_simp) ?_⟩
      refine (HXF.out W).mono ?_
      rintro e V1 ⟨c0, rfl, he, hb⟩
      refine ⟨_, rfl, hb.mono HBs.out, ?_⟩
      have Hc0 : Hid (Elm c0 x) := he
      replace HBs : Hid (B ≤ V1.heap.size) := Nat.le_trans HBs.out hb.size
      replace HS := hidup (HS.out.later hb)
      clear hb he
      refine sched_fork [4, 9, 10] (by kernel_rfl) rfl ?_
      intro i hi
      simp only [List.mem_cons, List.not_mem_nil, or_false] at hi
      rcases hi with rfl | rfl | rfl
      · refine ⟨_, rfl, by rfl, oper_call (f := 8) (args := #[.agg (l1.map bv).toArray]) (by go_simp) ?_⟩
        refine (HYF.out V1).mono ?_
        rintro e V2 ⟨c1, rfl, he, hb⟩
        refine ⟨_, rfl, hb.mono HBs.out, ?_⟩
        have Hc1 : Hid (Elm c1 y) := he
        replace HBs : Hid (B ≤ V2.heap.size) := Nat.le_trans HBs.out hb.size
        replace HS := hidup (HS.out.later hb)
        clear hb he
        refine sched_fork [5, 9, 10] (by kernel_rfl) rfl ?_
        intro i hi
        simp only [List.mem_cons, List.not_mem_nil, or_false] at hi
        rcases hi with rfl | rfl | rfl
        · refine ⟨_, rfl, by rfl, oper_call (f := 16) (args := #[.bool is, .agg c0.toArray, .agg c1.toArray]) (by go_simp) ?_⟩
          refine (fswap_any is c0 c1 x y V2 Hc0.out Hc1.out).mono ?_
          rintro e V3 ⟨C, D, rfl, he1, he2, hb⟩
          refine ⟨_, rfl, hb.mono HBs.out, ?_⟩
          have HEC : Hid (Elm C (if is then y else x)) := he1
          have HED : Hid (Elm D (if is then x else y)) := he2
          replace HBs : Hid (B ≤ V3.heap.size) := Nat.le_trans HBs.out hb.size
          replace HS := hidup (HS.out.later hb)
          clear hb he1 he2
          refine sched_mid (G := Below B) (fun _ => Below.refl _ _) (fun _ _ _ h k => Below.trans h k) (by kernel_rfl) [(6, true), (7, true), (8, true)] 4 #[true, true, true, true, true, true, true, true, true, false, false, false, false] rfl (by kernel_rfl) ?_
          intro KM hKM
          go_simp
          iterate 3 (refine sched_take rfl (by rfl) (v := ?_) ?_ ?_; rotate_left; (intro w' hw'; clear hw'; go_simp; with_reducible rfl); go_simp)
          refine hKM.out _ _ ?_
          clear hKM
          refine sched_fork [9, 10] (by kernel_rfl) rfl ?_
          intro i hi
          simp only [List.mem_cons, List.not_mem_nil, or_false] at hi
          rcases hi with rfl | rfl
          · refine ⟨_, rfl, by rfl, oper_val (v := .pointer (some ⟨V3.heap.size, 0, none⟩)) (w' := V3.alloc (.cells zeroE.toArray 28)) (by go_simp; rfl) ⟨(Below.refl _ _).alloc HBs.out _, ?_⟩⟩
            have hb : Below V3.heap.size V3 (V3.alloc (.cells zeroE.toArray 28)) := (Below.refl _ _).alloc (Nat.le_refl _) _
            have HZa : Hid (Cel (V3.alloc (.cells zeroE.toArray 28)) V3.heap.size zeroE ∧ B ≤ V3.heap.size) := ⟨Cel.new V3 zeroE, HBs.out⟩
            replace HBs : Hid (B ≤ (V3.alloc (.cells zeroE.toArray 28)).heap.size) := Nat.le_trans HBs.out hb.size
            replace HS := hidup (HS.out.later hb)
            clear hb
            generalize V3.alloc (.cells zeroE.toArray 28) = V4 at *
            generalize V3.heap.size = ga at *
            refine sched_fork [10] (by kernel_rfl) rfl ?_
            intro i hi
            simp only [List.mem_cons, List.not_mem_nil, or_false] at hi
            subst hi
            refine ⟨_, rfl, by rfl, oper_val (v := .pointer (some ⟨V4.heap.size, 0, none⟩)) (w' := V4.alloc (.cells zeroE.toArray 28)) (by go_simp; rfl) ⟨(Below.refl _ _).alloc HBs.out _, ?_⟩⟩
            have hb : Below V4.heap.size V4 (V4.alloc (.cells zeroE.toArray 28)) := (Below.refl _ _).alloc (Nat.le_refl _) _
            have HN : Hid (ga ≠ V4.heap.size) := by have := HZa.out.1.lt; show _ ≠ _; omega
            replace HZa := hidup (And.intro (HZa.out.1.later hb) HZa.out.2)
            have HZb : Hid (Cel (V4.alloc (.cells zeroE.toArray 28)) V4.heap.size zeroE ∧ B ≤ V4.heap.size) := ⟨Cel.new V4 zeroE, HBs.out⟩
            replace HBs : Hid (B ≤ (V4.alloc (.cells zeroE.toArray 28)).heap.size) := Nat.le_trans HBs.out hb.size
            replace HS := hidup (HS.out.later hb)
            clear hb
            generalize V4.alloc (.cells zeroE.toArray 28) = V5 at *
            generalize V4.heap.size = gb at *
            have hC := HEC.out.len
            have hD := HED.out.len
            have hab : ga ≠ gb := HN.out
            have hst1 := store_row V5 ga _ _ C HZa.out.1 (by simp [hC, zeroE_len]) HEC.out.one
            have hCa : Cel (V5.setRow ga C.toArray) ga C := setRow_heap V5 ga _ _ _ _ HZa.out.1
            have hZb := HZb.out.1.put_other (g' := ga) (fun e => hab e.symm) C.toArray
            have hb1 : Below B V5 (V5.setRow ga C.toArray) := below_setRow (Below.refl _ _) HZa.out.2 _
            generalize V5.setRow ga C.toArray = X1 at *
            have hst2 := store_row X1 gb _ _ D hZb (by simp [hD, zeroE_len]) HED.out.one
            have HCb : Hid (Cel (X1.setRow gb D.toArray) gb D) := setRow_heap X1 gb _ _ _ _ hZb
            have HCa : Hid (Cel (X1.setRow gb D.toArray) ga C) := hCa.put_other (g' := gb) hab D.toArray
            have hb2 : Below B X1 (X1.setRow gb D.toArray) := below_setRow (Below.refl _ _) HZb.out.2 _
            generalize X1.setRow gb D.toArray = X2 at *
            replace HS := hidup ((HS.out.on hb1 LS).on hb2 LS)
            clear hCa hZb
            refine sched_end (G := Below B) (fun _ => Below.refl _ _) (fun _ _ _ h k => Below.trans h k) (by kernel_rfl) [(11, false), (12, false)] rfl (by kernel_rfl) ?_
            intro KM hKM
            go_simp
            refine sched_put rfl (by rfl) (w' := X1) (by go_simp) hb1 ?_
            go_simp
            refine sched_put rfl (by rfl) (w' := X2) (by go_simp) hb2 ?_
            go_simp
            exact hKM.out _ _ ⟨rfl, ga, gb, c0, c1, C, D, rfl, HEC, HED, HCa, HCb, HS⟩
          · refine ⟨_, rfl, by rfl, oper_val (v := .pointer (some ⟨V3.heap.size, 0, none⟩)) (w' := V3.alloc (.cells zeroE.toArray 28)) (by go_simp; rfl) ⟨(Below.refl _ _).alloc HBs.out _, ?_⟩⟩
            have hb : Below V3.heap.size V3 (V3.alloc (.cells zeroE.toArray 28)) := (Below.refl _ _).alloc (Nat.le_refl _) _
            have HZb : Hid (Cel (V3.alloc (.cells zeroE.toArray 28)) V3.heap.size zeroE ∧ B ≤ V3.heap.size) := ⟨Cel.new V3 zeroE, HBs.out⟩
            replace HBs : Hid (B ≤ (V3.alloc (.cells zeroE.toArray 28)).heap.size) := Nat.le_trans HBs.out hb.size
            replace HS := hidup (HS.out.later hb)
            clear hb
            generalize V3.alloc (.cells zeroE.toArray 28) = V6 at *
            generalize V3.heap.size = gb at *
            refine sched_fork [9] (by kernel_rfl) rfl ?_
            intro i hi
            simp only [List.mem_cons, List.not_mem_nil, or_false] at hi
            subst hi
            refine ⟨_, rfl, by rfl, oper_val (v := .pointer (some ⟨V6.heap.size, 0, none⟩)) (w' := V6.alloc (.cells zeroE.toArray 28)) (by go_simp; rfl) ⟨(Below.refl _ _).alloc HBs.out _, ?_⟩⟩
            have hb : Below V6.heap.size V6 (V6.alloc (.cells zeroE.toArray 28)) := (Below.refl _ _).alloc (Nat.le_refl _) _
            have HN : Hid (V6.heap.size ≠ gb) := by have := HZb.out.1.lt; show _ ≠ _; omega
            replace HZb := hidup (And.intro (HZb.out.1.later hb) HZb.out.2)
            have HZa : Hid (Cel (V6.alloc (.cells zeroE.toArray 28)) V6.heap.size zeroE ∧ B ≤ V6.heap.size) := ⟨Cel.new V6 zeroE, HBs.out⟩
            replace HBs : Hid (B ≤ (V6.alloc (.cells zeroE.toArray 28)).heap.size) := Nat.le_trans HBs.out hb.size
            replace HS := hidup (HS.out.later hb)
            clear hb
            generalize V6.alloc (.cells zeroE.toArray 28) = V7 at *
            generalize V6.heap.size = ga at *
            have hC := HEC.out.len
            have hD := HED.out.len
            have hab : ga ≠ gb := HN.out
            have hst1 := store_row V7 ga _ _ C HZa.out.1 (by simp [hC, zeroE_len]) HEC.out.one
            have hCa : Cel (V7.setRow ga C.toArray) ga C := setRow_heap V7 ga _ _ _ _ HZa.out.1
            have hZb := HZb.out.1.put_other (g' := ga) (fun e => hab e.symm) C.toArray
            have hb1 : Below B V7 (V7.setRow ga C.toArray) := below_setRow (Below.refl _ _) HZa.out.2 _
            generalize V7.setRow ga C.toArray = X1 at *
            have hst2 := store_row X1 gb _ _ D hZb (by simp [hD, zeroE_len]) HED.out.one
            have HCb : Hid (Cel (X1.setRow gb D.toArray) gb D) := setRow_heap X1 gb _ _ _ _ hZb
            have HCa : Hid (Cel (X1.setRow gb D.toArray) ga C) := hCa.put_other (g' := gb) hab D.toArray
            have hb2 : Below B X1 (X1.setRow gb D.toArray) := below_setRow (Below.refl _ _) HZb.out.2 _
            generalize X1.setRow gb D.toArray = X2 at *
            replace HS := hidup ((HS.out.on hb1 LS).on hb2 LS)
            clear hCa hZb
            refine sched_end (G := Below B) (fun _ => Below.refl _ _) (fun _ _ _ h k => Below.trans h k) (by kernel_rfl) [(11, false), (12, false)] rfl (by kernel_rfl) ?_
            intro KM hKM
            go_simp
            refine sched_put rfl (by rfl) (w' := X1) (by go_simp) hb1 ?_
            go_simp
            refine sched_put rfl (by rfl) (w' := X2) (by go_simp) hb2 ?_
            go_simp
            exact hKM.out _ _ ⟨rfl, ga, gb, c0, c1, C, D, rfl, HEC, HED, HCa, HCb, HS⟩
        · refine ⟨_, rfl, by rfl, oper_val (v := .pointer (some ⟨V2.heap.size, 0, none⟩)) (w' := V2.alloc (.cells zeroE.toArray 28)) (by go_simp; rfl) ⟨(Below.refl _ _).alloc HBs.out _, ?_⟩⟩
          have hb : Below V2.heap.size V2 (V2.alloc (.cells zeroE.toArray 28)) := (Below.refl _ _).alloc (Nat.le_refl _) _
          have HZa : Hid (Cel (V2.alloc (.cells zeroE.toArray 28)) V2.heap.size zeroE ∧ B ≤ V2.heap.size) := ⟨Cel.new V2 zeroE, HBs.out⟩
          replace HBs : Hid (B ≤ (V2.alloc (.cells zeroE.toArray 28)).heap.size) := Nat.le_trans HBs.out hb.size
          replace HS := hidup (HS.out.later hb)
          clear hb
          generalize V2.alloc (.cells zeroE.toArray 28) = V8 at *
          generalize V2.heap.size = ga at *
          refine sched_fork [5, 10] (by kernel_rfl) rfl ?_
          intro i hi
          simp only [List.mem_cons, List.not_mem_nil, or_false] at hi
          rcases hi with rfl | rfl
          · refine ⟨_, rfl, by rfl, oper_call (f := 16) (args := #[.bool is, .agg c0.toArray, .agg c1.toArray]) (by go_simp) ?_⟩
            refine (fswap_any is c0 c1 x y V8 Hc0.out Hc1.out).mono ?_
            rintro e V9 ⟨C, D, rfl, he1, he2, hb⟩
            refine ⟨_, rfl, hb.mono HBs.out, ?_⟩
            have HEC : Hid (Elm C (if is then y else x)) := he1
            have HED : Hid (Elm D (if is then x else y)) := he2
            replace HBs : Hid (B ≤ V9.heap.size) := Nat.le_trans HBs.out hb.size
            replace HS := hidup (HS.out.later hb)
            replace HZa := hidup (And.intro (HZa.out.1.later hb) HZa.out.2)
            clear hb he1 he2
            refine sched_mid (G := Below B) (fun _ => Below.refl _ _) (fun _ _ _ h k => Below.trans h k) (by kernel_rfl) [(6, true), (7, true), (8, true)] 3 #[true, true, true, true, true, true, true, true, true, true, false, false, false] rfl (by kernel_rfl) ?_
            intro KM hKM
            go_simp
            iterate 3 (refine sched_take rfl (by rfl) (v := ?_) ?_ ?_; rotate_left; (intro w' hw'; clear hw'; go_simp; with_reducible rfl); go_simp)
            refine hKM.out _ _ ?_
            clear hKM
            refine sched_fork [10] (by kernel_rfl) rfl ?_
            intro i hi
            simp only [List.mem_cons, List.not_mem_nil, or_false] at hi
            subst hi
            refine ⟨_, rfl, by rfl, oper_val (v := .pointer (some ⟨V9.heap.size, 0, none⟩)) (w' := V9.alloc (.cells zeroE.toArray 28)) (by go_simp; rfl) ⟨(Below.refl _ _).alloc HBs.out _, ?_⟩⟩
            have hb : Below V9.heap.size V9 (V9.alloc (.cells zeroE.toArray 28)) := (Below.refl _ _).alloc (Nat.le_refl _) _
            have HN : Hid (ga ≠ V9.heap.size) := by have := HZa.out.1.lt; show _ ≠ _; omega
            replace HZa := hidup (And.intro (HZa.out.1.later hb) HZa.out.2)
            have HZb : Hid (Cel (V9.alloc (.cells zeroE.toArray 28)) V9.heap.size zeroE ∧ B ≤ V9.heap.size) := ⟨Cel.new V9 zeroE, HBs.out⟩
            replace HBs : Hid (B ≤ (V9.alloc (.cells zeroE.toArray 28)).heap.size) := Nat.le_trans HBs.out hb.size
            replace HS := hidup (HS.out.later hb)
            clear hb
            generalize V9.alloc (.cells zeroE.toArray 28) = V10 at *
            generalize V9.heap.size = gb at *
            have hC := HEC.out.len
            have hD := HED.out.len
            have hab : ga ≠ gb := HN.out
            have hst1 := store_row V10 ga _ _ C HZa.out.1 (by simp [hC, zeroE_len]) HEC.out.one
            have hCa : Cel (V10.setRow ga C.toArray) ga C := setRow_heap V10 ga _ _ _ _ HZa.out.1
            have hZb := HZb.out.1.put_other (g' := ga) (fun e => hab e.symm) C.toArray
            have hb1 : Below B V10 (V10.setRow ga C.toArray) := below_setRow (Below.refl _ _) HZa.out.2 _
            generalize V10.setRow ga C.toArray = X1 at *
            have hst2 := store_row X1 gb _ _ D hZb (by simp [hD, zeroE_len]) HED.out.one
            have HCb : Hid (Cel (X1.setRow gb D.toArray) gb D) := setRow_heap X1 gb _ _ _ _ hZb
            have HCa : Hid (Cel (X1.setRow gb D.toArray) ga C) := hCa.put_other (g' := gb) hab D.toArray
            have hb2 : Below B X1 (X1.setRow gb D.toArray) := below_setRow (Below.refl _ _) HZb.out.2 _
            generalize X1.setRow gb D.toArray = X2 at *
            replace HS := hidup ((HS.out.on hb1 LS).on hb2 LS)
            clear hCa hZb
            refine sched_end (G := Below B) (fun _ => Below.refl _ _) (fun _ _ _ h k => Below.trans h k) (by kernel_rfl) [(11, false), (12, false)] rfl (by kernel_rfl) ?_
            intro KM hKM
            go_simp
            refine sched_put rfl (by rfl) (w' := X1) (by go_simp) hb1 ?_
            go_simp
            refine sched_put rfl (by rfl) (w' := X2) (by go_simp) hb2 ?_
            go_simp
            exact hKM.out _ _ ⟨rfl, ga, gb, c0, c1, C, D, rfl, HEC, HED, HCa, HCb, HS⟩
          · refine ⟨_, rfl, by rfl, oper_val (v := .pointer (some ⟨V8.heap.size, 0, none⟩)) (w' := V8.alloc (.cells zeroE.toArray 28)) (by go_simp; rfl) ⟨(Below.refl _ _).alloc HBs.out _, ?_⟩⟩
            have hb : Below V8.heap.size V8 (V8.alloc (.cells zeroE.toArray 28)) := (Below.refl _ _).alloc (Nat.le_refl _) _
            have HN : Hid (ga ≠ V8.heap.size) := by have := HZa.out.1.lt; show _ ≠ _; omega
            replace HZa := hidup (And.intro (HZa.out.1.later hb) HZa.out.2)
            have HZb : Hid (Cel (V8.alloc (.cells zeroE.toArray 28)) V8.heap.size zeroE ∧ B ≤ V8.heap.size) := ⟨Cel.new V8 zeroE, HBs.out⟩
            replace HBs : Hid (B ≤ (V8.alloc (.cells zeroE.toArray 28)).heap.size) := Nat.le_trans HBs.out hb.size
            replace HS := hidup (HS.out.later hb)
            clear hb
            generalize V8.alloc (.cells zeroE.toArray 28) = V11 at *
            generalize V8.heap.size = gb at *
            refine sched_fork [5] (by kernel_rfl) rfl ?_
            intro i hi
            simp only [List.mem_cons, List.not_mem_nil, or_false] at hi
            subst hi
            refine ⟨_, rfl, by rfl, oper_call (f := 16) (args := #[.bool is, .agg c0.toArray, .agg c1.toArray]) (by go_simp) ?_⟩
            refine (fswap_any is c0 c1 x y V11 Hc0.out Hc1.out).mono ?_
            rintro e V12 ⟨C, D, rfl, he1, he2, hb⟩
            refine ⟨_, rfl, hb.mono HBs.out, ?_⟩
            have HEC : Hid (Elm C (if is then y else x)) := he1
            have HED : Hid (Elm D (if is then x else y)) := he2
            replace HBs : Hid (B ≤ V12.heap.size) := Nat.le_trans HBs.out hb.size
            replace HS := hidup (HS.out.later hb)
            replace HZa := hidup (And.intro (HZa.out.1.later hb) HZa.out.2)
            replace HZb := hidup (And.intro (HZb.out.1.later hb) HZb.out.2)
            clear hb he1 he2
            refine sched_mid (G := Below B) (fun _ => Below.refl _ _) (fun _ _ _ h k => Below.trans h k) (by kernel_rfl) [(6, true), (7, true), (8, true)] 2 #[true, true, true, true, true, true, true, true, true, true, true, false, false] rfl (by kernel_rfl) ?_
            intro KM hKM
            go_simp
            iterate 3 (refine sched_take rfl (by rfl) (v := ?_) ?_ ?_; rotate_left; (intro w' hw'; clear hw'; go_simp; with_reducible rfl); go_simp)
            refine hKM.out _ _ ?_
            clear hKM
            have hC := HEC.out.len
            have hD := HED.out.len
            have hab : ga ≠ gb := HN.out
            have hst1 := store_row V12 ga _ _ C HZa.out.1 (by simp [hC, zeroE_len]) HEC.out.one
            have hCa : Cel (V12.setRow ga C.toArray) ga C := setRow_heap V12 ga _ _ _ _ HZa.out.1
            have hZb := HZb.out.1.put_other (g' := ga) (fun e => hab e.symm) C.toArray
            have hb1 : Below B V12 (V12.setRow ga C.toArray) := below_setRow (Below.refl _ _) HZa.out.2 _
            generalize V12.setRow ga C.toArray = X1 at *
            have hst2 := store_row X1 gb _ _ D hZb (by simp [hD, zeroE_len]) HED.out.one
            have HCb : Hid (Cel (X1.setRow gb D.toArray) gb D) := setRow_heap X1 gb _ _ _ _ hZb
            have HCa : Hid (Cel (X1.setRow gb D.toArray) ga C) := hCa.put_other (g' := gb) hab D.toArray
            have hb2 : Below B X1 (X1.setRow gb D.toArray) := below_setRow (Below.refl _ _) HZb.out.2 _
            generalize X1.setRow gb D.toArray = X2 at *
            replace HS := hidup ((HS.out.on hb1 LS).on hb2 LS)
            clear hCa hZb
            refine sched_end (G := Below B) (fun _ => Below.refl _ _) (fun _ _ _ h k => Below.trans h k) (by kernel_rfl) [(11, false), (12, false)] rfl (by kernel_rfl) ?_
            intro KM hKM
            go_simp
            refine sched_put rfl (by rfl) (w' := X1) (by go_simp) hb1 ?_
            go_simp
            refine sched_put rfl (by rfl) (w' := X2) (by go_simp) hb2 ?_
            go_simp
            exact hKM.out _ _ ⟨rfl, ga, gb, c0, c1, C, D, rfl, HEC, HED, HCa, HCb, HS⟩
        · refine ⟨_, rfl, by rfl, oper_val (v := .pointer (some ⟨V2.heap.size, 0, none⟩)) (w' := V2.alloc (.cells zeroE.toArray 28)) (by go_simp; rfl) ⟨(Below.refl _ _).alloc HBs.out _, ?_⟩⟩
          have hb : Below V2.heap.size V2 (V2.alloc (.cells zeroE.toArray 28)) := (Below.refl _ _).alloc (Nat.le_refl _) _
          have HZb : Hid (Cel (V2.alloc (.cells zeroE.toArray 28)) V2.heap.size zeroE ∧ B ≤ V2.heap.size) := ⟨Cel.new V2 zeroE, HBs.out⟩
          replace HBs : Hid (B ≤ (V2.alloc (.cells zeroE.toArray 28)).heap.size) := Nat.le_trans HBs.out hb.size
          replace HS := hidup (HS.out.later hb)
          clear hb
          generalize V2.alloc (.cells zeroE.toArray 28) = V13 at *
          generalize V2.heap.size = gb at *
          refine sched_fork [5, 9] (by kernel_rfl) rfl ?_
          intro i hi
          simp only [List.mem_cons, List.not_mem_nil, or_false] at hi
          rcases hi with rfl | rfl
          · refine ⟨_, rfl, by rfl, oper_call (f := 16) (args := #[.bool is, .agg c0.toArray, .agg c1.toArray]) (by go_simp) ?_⟩
            refine (fswap_any is c0 c1 x y V13 Hc0.out Hc1.out).mono ?_
            rintro e V14 ⟨C, D, rfl, he1, he2, hb⟩
            refine ⟨_, rfl, hb.mono HBs.out, ?_⟩
            have HEC : Hid (Elm C (if is then y else x)) := he1
            have HED : Hid (Elm D (if is then x else y)) := he2
            replace HBs : Hid (B ≤ V14.heap.size) := Nat.le_trans HBs.out hb.size
            replace HS := hidup (HS.out.later hb)
            replace HZb := hidup (And.intro (HZb.out.1.later hb) HZb.out.2)
            clear hb he1 he2
            refine sched_mid (G := Below B) (fun _ => Below.refl _ _) (fun _ _ _ h k => Below.trans h k) (by kernel_rfl) [(6, true), (7, true), (8, true)] 3 #[true, true, true, true, true, true, true, true, true, false, true, false, false] rfl (by kernel_rfl) ?_
            intro KM hKM
            go_simp
            iterate 3 (refine sched_take rfl (by rfl) (v := ?_) ?_ ?_; rotate_left; (intro w' hw'; clear hw'; go_simp; with_reducible rfl); go_simp)
            refine hKM.out _ _ ?_
            clear hKM
            refine sched_fork [9] (by kernel_rfl) rfl ?_
            intro i hi
            simp only [List.mem_cons, List.not_mem_nil, or_false] at hi
            subst hi
            refine ⟨_, rfl, by rfl, oper_val (v := .pointer (some ⟨V14.heap.size, 0, none⟩)) (w' := V14.alloc (.cells zeroE.toArray 28)) (by go_simp; rfl) ⟨(Below.refl _ _).alloc HBs.out _, ?_⟩⟩
            have hb : Below V14.heap.size V14 (V14.alloc (.cells zeroE.toArray 28)) := (Below.refl _ _).alloc (Nat.le_refl _) _
            have HN : Hid (V14.heap.size ≠ gb) := by have := HZb.out.1.lt; show _ ≠ _; omega
            replace HZb := hidup (And.intro (HZb.out.1.later hb) HZb.out.2)
            have HZa : Hid (Cel (V14.alloc (.cells zeroE.toArray 28)) V14.heap.size zeroE ∧ B ≤ V14.heap.size) := ⟨Cel.new V14 zeroE, HBs.out⟩
            replace HBs : Hid (B ≤ (V14.alloc (.cells zeroE.toArray 28)).heap.size) := Nat.le_trans HBs.out hb.size
            replace HS := hidup (HS.out.later hb)
            clear hb
            generalize V14.alloc (.cells zeroE.toArray 28) = V15 at *
            generalize V14.heap.size = ga at *
            have hC := HEC.out.len
            have hD := HED.out.len
            have hab : ga ≠ gb := HN.out
            have hst1 := store_row V15 ga _ _ C HZa.out.1 (by simp [hC, zeroE_len]) HEC.out.one
            have hCa : Cel (V15.setRow ga C.toArray) ga C := setRow_heap V15 ga _ _ _ _ HZa.out.1
            have hZb := HZb.out.1.put_other (g' := ga) (fun e => hab e.symm) C.toArray
            have hb1 : Below B V15 (V15.setRow ga C.toArray) := below_setRow (Below.refl _ _) HZa.out.2 _
            generalize V15.setRow ga C.toArray = X1 at *
            have hst2 := store_row X1 gb _ _ D hZb (by simp [hD, zeroE_len]) HED.out.one
            have HCb : Hid (Cel (X1.setRow gb D.toArray) gb D) := setRow_heap X1 gb _ _ _ _ hZb
            have HCa : Hid (Cel (X1.setRow gb D.toArray) ga C) := hCa.put_other (g' := gb) hab D.toArray
            have hb2 : Below B X1 (X1.setRow gb D.toArray) := below_setRow (Below.refl _ _) HZb.out.2 _
            generalize X1.setRow gb D.toArray = X2 at *
            replace HS := hidup ((HS.out.on hb1 LS).on hb2 LS)
            clear hCa hZb
            refine sched_end (G := Below B) (fun _ => Below.refl _ _) (fun _ _ _ h k => Below.trans h k) (by kernel_rfl) [(11, false), (12, false)] rfl (by kernel_rfl) ?_
            intro KM hKM
            go_simp
            refine sched_put rfl (by rfl) (w' := X1) (by go_simp) hb1 ?_
            go_simp
            refine sched_put rfl (by rfl) (w' := X2) (by go_simp) hb2 ?_
            go_simp
            exact hKM.out _ _ ⟨rfl, ga, gb, c0, c1, C, D, rfl, HEC, HED, HCa, HCb, HS⟩
          · refine ⟨_, rfl, by rfl, oper_val (v := .pointer (some ⟨V13.heap.size, 0, none⟩)) (w' := V13.alloc (.cells zeroE.toArray 28)) (by go_simp; rfl) ⟨(Below.refl _ _).alloc HBs.out _, ?_⟩⟩
            have hb : Below V13.heap.size V13 (V13.alloc (.cells zeroE.toArray 28)) := (Below.refl _ _).alloc (Nat.le_refl _) _
            have HN : Hid (V13.heap.size ≠ gb) := by have := HZb.out.1.lt; show _ ≠ _; omega
            replace HZb := hidup (And.intro (HZb.out.1.later hb) HZb.out.2)
            have HZa : Hid (Cel (V13.alloc (.cells zeroE.toArray 28)) V13.heap.size zeroE ∧ B ≤ V13.heap.size) := ⟨Cel.new V13 zeroE, HBs.out⟩
            replace HBs : Hid (B ≤ (V13.alloc (.cells zeroE.toArray 28)).heap.size) := Nat.le_trans HBs.out hb.size
            replace HS := hidup (HS.out.later hb)
            clear hb
            generalize V13.alloc (.cells zeroE.toArray 28) = V16 at *
            generalize V13.heap.size = ga at *
            refine sched_fork [5] (by kernel_rfl) rfl ?_
            intro i hi
            simp only [List.mem_cons, List.not_mem_nil, or_false] at hi
            subst hi
            refine ⟨_, rfl, by rfl, oper_call (f := 16) (args := #[.bool is, .agg c0.toArray, .agg c1.toArray]) (by go_simp) ?_⟩
            refine (fswap_any is c0 c1 x y V16 Hc0.out Hc1.out).mono ?_
            rintro e V17 ⟨C, D, rfl, he1, he2, hb⟩
            refine ⟨_, rfl, hb.mono HBs.out, ?_⟩
            have HEC : Hid (Elm C (if is then y else x)) := he1
            have HED : Hid (Elm D (if is then x else y)) := he2
            replace HBs : Hid (B ≤ V17.heap.size) := Nat.le_trans HBs.out hb.size
            replace HS := hidup (HS.out.later hb)
            replace HZa := hidup (And.intro (HZa.out.1.later hb) HZa.out.2)
            replace HZb := hidup (And.intro (HZb.out.1.later hb) HZb.out.2)
            clear hb he1 he2
            refine sched_mid (G := Below B) (fun _ => Below.refl _ _) (fun _ _ _ h k => Below.trans h k) (by kernel_rfl) [(6, true), (7, true), (8, true)] 2 #[true, true, true, true, true, true, true, true, true, true, true, false, false] rfl (by kernel_rfl) ?_
            intro KM hKM
            go_simp
            iterate 3 (refine sched_take rfl (by rfl) (v := ?_) ?_ ?_; rotate_left; (intro w' hw'; clear hw'; go_simp; with_reducible rfl); go_simp)
            refine hKM.out _ _ ?_
            clear hKM
            have hC := HEC.out.len
            have hD := HED.out.len
            have hab : ga ≠ gb := HN.out
            have hst1 := store_row V17 ga _ _ C HZa.out.1 (by simp [hC, zeroE_len]) HEC.out.one
            have hCa : Cel (V17.setRow ga C.toArray) ga C := setRow_heap V17 ga _ _ _ _ HZa.out.1
            have hZb := HZb.out.1.put_other (g' := ga) (fun e => hab e.symm) C.toArray
            have hb1 : Below B V17 (V17.setRow ga C.toArray) := below_setRow (Below.refl _ _) HZa.out.2 _
            generalize V17.setRow ga C.toArray = X1 at *
            have hst2 := store_row X1 gb _ _ D hZb (by simp [hD, zeroE_len]) HED.out.one
            have HCb : Hid (Cel (X1.setRow gb D.toArray) gb D) := setRow_heap X1 gb _ _ _ _ hZb
            have HCa : Hid (Cel (X1.setRow gb D.toArray) ga C) := hCa.put_other (g' := gb) hab D.toArray
            have hb2 : Below B X1 (X1.setRow gb D.toArray) := below_setRow (Below.refl _ _) HZb.out.2 _
            generalize X1.setRow gb D.toArray = X2 at *
            replace HS := hidup ((HS.out.on hb1 LS).on hb2 LS)
            clear hCa hZb
            refine sched_end (G := Below B) (fun _ => Below.refl _ _) (fun _ _ _ h k => Below.trans h k) (by kernel_rfl) [(11, false), (12, false)] rfl (by kernel_rfl) ?_
            intro KM hKM
            go_simp
            refine sched_put rfl (by rfl) (w' := X1) (by go_simp) hb1 ?_
            go_simp
            refine sched_put rfl (by rfl) (w' := X2) (by go_simp) hb2 ?_
            go_simp
            exact hKM.out _ _ ⟨rfl, ga, gb, c0, c1, C, D, rfl, HEC, HED, HCa, HCb, HS⟩
      · refine ⟨_, rfl, by rfl, oper_val (v := .pointer (some ⟨V1.heap.size, 0, none⟩)) (w' := V1.alloc (.cells zeroE.toArray 28)) (by go_simp; rfl) ⟨(Below.refl _ _).alloc HBs.out _, ?_⟩⟩
        have hb : Below V1.heap.size V1 (V1.alloc (.cells zeroE.toArray 28)) := (Below.refl _ _).alloc (Nat.le_refl _) _
        have HZa : Hid (Cel (V1.alloc (.cells zeroE.toArray 28)) V1.heap.size zeroE ∧ B ≤ V1.heap.size) := ⟨Cel.new V1 zeroE, HBs.out⟩
        replace HBs : Hid (B ≤ (V1.alloc (.cells zeroE.toArray 28)).heap.size) := Nat.le_trans HBs.out hb.size
        replace HS := hidup (HS.out.later hb)
        clear hb
        generalize V1.alloc (.cells zeroE.toArray 28) = V18 at *
        generalize V1.heap.size = ga at *
        refine sched_fork [4, 10] (by kernel_rfl) rfl ?_
        intro i hi
        simp only [List.mem_cons, List.not_mem_nil, or_false] at hi
        rcases hi with rfl | rfl
        · refine ⟨_, rfl, by rfl, oper_call (f := 8) (args := #[.agg (l1.map bv).toArray]) (by go_simp) ?_⟩
          refine (HYF.out V18).mono ?_
          rintro e V19 ⟨c1, rfl, he, hb⟩
          refine ⟨_, rfl, hb.mono HBs.out, ?_⟩
          have Hc1 : Hid (Elm c1 y) := he
          replace HBs : Hid (B ≤ V19.heap.size) := Nat.le_trans HBs.out hb.size
          replace HS := hidup (HS.out.later hb)
          replace HZa := hidup (And.intro (HZa.out.1.later hb) HZa.out.2)
          clear hb he
          refine sched_fork [5, 10] (by kernel_rfl) rfl ?_
          intro i hi
          simp only [List.mem_cons, List.not_mem_nil, or_false] at hi
          rcases hi with rfl | rfl
          · refine ⟨_, rfl, by rfl, oper_call (f := 16) (args := #[.bool is, .agg c0.toArray, .agg c1.toArray]) (by go_simp) ?_⟩
            refine (fswap_any is c0 c1 x y V19 Hc0.out Hc1.out).mono ?_
            rintro e V20 ⟨C, D, rfl, he1, he2, hb⟩
            refine ⟨_, rfl, hb.mono HBs.out, ?_⟩
            have HEC : Hid (Elm C (if is then y else x)) := he1
            have HED : Hid (Elm D (if is then x else y)) := he2
            replace HBs : Hid (B ≤ V20.heap.size) := Nat.le_trans HBs.out hb.size
            replace HS := hidup (HS.out.later hb)
            replace HZa := hidup (And.intro (HZa.out.1.later hb) HZa.out.2)
            clear hb he1 he2
            refine sched_mid (G := Below B) (fun _ => Below.refl _ _) (fun _ _ _ h k => Below.trans h k) (by kernel_rfl) [(6, true), (7, true), (8, true)] 3 #[true, true, true, true, true, true, true, true, true, true, false, false, false] rfl (by kernel_rfl) ?_
            intro KM hKM
            go_simp
            iterate 3 (refine sched_take rfl (by rfl) (v := ?_) ?_ ?_; rotate_left; (intro w' hw'; clear hw'; go_simp; with_reducible rfl); go_simp)
            refine hKM.out _ _ ?_
            clear hKM
            refine sched_fork [10] (by kernel_rfl) rfl ?_
            intro i hi
            simp only [List.mem_cons, List.not_mem_nil, or_false] at hi
            subst hi
            refine ⟨_, rfl, by rfl, oper_val (v := .pointer (some ⟨V20.heap.size, 0, none⟩)) (w' := V20.alloc (.cells zeroE.toArray 28)) (by go_simp; rfl) ⟨(Below.refl _ _).alloc HBs.out _, ?_⟩⟩
            have hb : Below V20.heap.size V20 (V20.alloc (.cells zeroE.toArray 28)) := (Below.refl _ _).alloc (Nat.le_refl _) _
            have HN : Hid (ga ≠ V20.heap.size) := by have := HZa.out.1.lt; show _ ≠ _; omega
            replace HZa := hidup (And.intro (HZa.out.1.later hb) HZa.out.2)
            have HZb : Hid (Cel (V20.alloc (.cells zeroE.toArray 28)) V20.heap.size zeroE ∧ B ≤ V20.heap.size) := ⟨Cel.new V20 zeroE, HBs.out⟩
            replace HBs : Hid (B ≤ (V20.alloc (.cells zeroE.toArray 28)).heap.size) := Nat.le_trans HBs.out hb.size
            replace HS := hidup (HS.out.later hb)
            clear hb
            generalize V20.alloc (.cells zeroE.toArray 28) = V21 at *
            generalize V20.heap.size = gb at *
            have hC := HEC.out.len
            have hD := HED.out.len
            have hab : ga ≠ gb := HN.out
            have hst1 := store_row V21 ga _ _ C HZa.out.1 (by simp [hC, zeroE_len]) HEC.out.one
            have hCa : Cel (V21.setRow ga C.toArray) ga C := setRow_heap V21 ga _ _ _ _ HZa.out.1
            have hZb := HZb.out.1.put_other (g' := ga) (fun e => hab e.symm) C.toArray
            have hb1 : Below B V21 (V21.setRow ga C.toArray) := below_setRow (Below.refl _ _) HZa.out.2 _
            generalize V21.setRow ga C.toArray = X1 at *
            have hst2 := store_row X1 gb _ _ D hZb (by simp [hD, zeroE_len]) HED.out.one
            have HCb : Hid (Cel (X1.setRow gb D.toArray) gb D) := setRow_heap X1 gb _ _ _ _ hZb
            have HCa : Hid (Cel (X1.setRow gb D.toArray) ga C) := hCa.put_other (g' := gb) hab D.toArray
            have hb2 : Below B X1 (X1.setRow gb D.toArray) := below_setRow (Below.refl _ _) HZb.out.2 _
            generalize X1.setRow gb D.toArray = X2 at *
            replace HS := hidup ((HS.out.on hb1 LS).on hb2 LS)
            clear hCa hZb
            refine sched_end (G := Below B) (fun _ => Below.refl _ _) (fun _ _ _ h k => Below.trans h k) (by kernel_rfl) [(11, false), (12, false)] rfl (by kernel_rfl) ?_
            intro KM hKM
            go_simp
            refine sched_put rfl (by rfl) (w' := X1) (by go_simp) hb1 ?_
            go_simp
            refine sched_put rfl (by rfl) (w' := X2) (by go_simp) hb2 ?_
            go_simp
            exact hKM.out _ _ ⟨rfl, ga, gb, c0, c1, C, D, rfl, HEC, HED, HCa, HCb, HS⟩
          · refine ⟨_, rfl, by rfl, oper_val (v := .pointer (some ⟨V19.heap.size, 0, none⟩)) (w' := V19.alloc (.cells zeroE.toArray 28)) (by go_simp; rfl) ⟨(Below.refl _ _).alloc HBs.out _, ?_⟩⟩
            have hb : Below V19.heap.size V19 (V19.alloc (.cells zeroE.toArray 28)) := (Below.refl _ _).alloc (Nat.le_refl _) _
            have HN : Hid (ga ≠ V19.heap.size) := by have := HZa.out.1.lt; show _ ≠ _; omega
            replace HZa := hidup (And.intro (HZa.out.1.later hb) HZa.out.2)
            have HZb : Hid (Cel (V19.alloc (.cells zeroE.toArray 28)) V19.heap.size zeroE ∧ B ≤ V19.heap.size) := ⟨Cel.new V19 zeroE, HBs.out⟩
            replace HBs : Hid (B ≤ (V19.alloc (.cells zeroE.toArray 28)).heap.size) := Nat.le_trans HBs.out hb.size
            replace HS := hidup (HS.out.later hb)
            clear hb
            generalize V19.alloc (.cells zeroE.toArray 28) = V22 at *
            generalize V19.heap.size = gb at *
            refine sched_fork [5] (by kernel_rfl) rfl ?_
            intro i hi
            simp only [List.mem_cons, List.not_mem_nil, or_false] at hi
            subst hi
            refine ⟨_, rfl, by rfl, oper_call (f := 16) (args := #[.bool is, .agg c0.toArray, .agg c1.toArray]) (by go_simp) ?_⟩
            refine (fswap_any is c0 c1 x y V22 Hc0.out Hc1.out).mono ?_
            rintro e V23 ⟨C, D, rfl, he1, he2, hb⟩
            refine ⟨_, rfl, hb.mono HBs.out, ?_⟩
            have HEC : Hid (Elm C (if is then y else x)) := he1
            have HED : Hid (Elm D (if is then x else y)) := he2
            replace HBs : Hid (B ≤ V23.heap.size) := Nat.le_trans HBs.out hb.size
            replace HS := hidup (HS.out.later hb)
            replace HZa := hidup (And.intro (HZa.out.1.later hb) HZa.out.2)
            replace HZb := hidup (And.intro (HZb.out.1.later hb) HZb.out.2)
            clear hb he1 he2
            refine sched_mid (G := Below B) (fun _ => Below.refl _ _) (fun _ _ _ h k => Below.trans h k) (by kernel_rfl) [(6, true), (7, true), (8, true)] 2 #[true, true, true, true, true, true, true, true, true, true, true, false, false] rfl (by kernel_rfl) ?_
            intro KM hKM
            go_simp
            iterate 3 (refine sched_take rfl (by rfl) (v := ?_) ?_ ?_; rotate_left; (intro w' hw'; clear hw'; go_simp; with_reducible rfl); go_simp)
            refine hKM.out _ _ ?_
            clear hKM
            have hC := HEC.out.len
            have hD := HED.out.len
            have hab : ga ≠ gb := HN.out
            have hst1 := store_row V23 ga _ _ C HZa.out.1 (by simp [hC, zeroE_len]) HEC.out.one
            have hCa : Cel (V23.setRow ga C.toArray) ga C := setRow_heap V23 ga _ _ _ _ HZa.out.1
            have hZb := HZb.out.1.put_other (g' := ga) (fun e => hab e.symm) C.toArray
            have hb1 : Below B V23 (V23.setRow ga C.toArray) := below_setRow (Below.refl _ _) HZa.out.2 _
            generalize V23.setRow ga C.toArray = X1 at *
            have hst2 := store_row X1 gb _ _ D hZb (by simp [hD, zeroE_len]) HED.out.one
            have HCb : Hid (Cel (X1.setRow gb D.toArray) gb D) := setRow_heap X1 gb _ _ _ _ hZb
            have HCa : Hid (Cel (X1.setRow gb D.toArray) ga C) := hCa.put_other (g' := gb) hab D.toArray
            have hb2 : Below B X1 (X1.setRow gb D.toArray) := below_setRow (Below.refl _ _) HZb.out.2 _
            generalize X1.setRow gb D.toArray = X2 at *
            replace HS := hidup ((HS.out.on hb1 LS).on hb2 LS)
            clear hCa hZb
            refine sched_end (G := Below B) (fun _ => Below.refl _ _) (fun _ _ _ h k => Below.trans h k) (by kernel_rfl) [(11, false), (12, false)] rfl (by kernel_rfl) ?_
            intro KM hKM
            go_simp
            refine sched_put rfl (by rfl) (w' := X1) (by go_simp) hb1 ?_
            go_simp
            refine sched_put rfl (by rfl) (w' := X2) (by go_simp) hb2 ?_
            go_simp
            exact hKM.out _ _ ⟨rfl, ga, gb, c0, c1, C, D, rfl, HEC, HED, HCa, HCb, HS⟩
        · refine ⟨_, rfl, by rfl, oper_val (v := .pointer (some ⟨V18.heap.size, 0, none⟩)) (w' := V18.alloc (.cells zeroE.toArray 28)) (by go_simp; rfl) ⟨(Below.refl _ _).alloc HBs.out _, ?_⟩⟩
          have hb : Below V18.heap.size V18 (V18.alloc (.cells zeroE.toArray 28)) := (Below.refl _ _).alloc (Nat.le_refl _) _
          have HN : Hid (ga ≠ V18.heap.size) := by have := HZa.out.1.lt; show _ ≠ _; omega
          replace HZa := hidup (And.intro (HZa.out.1.later hb) HZa.out.2)
          have HZb : Hid (Cel (V18.alloc (.cells zeroE.toArray 28)) V18.heap.size zeroE ∧ B ≤ V18.heap.size) := ⟨Cel.new V18 zeroE, HBs.out⟩
          replace HBs : Hid (B ≤ (V18.alloc (.cells zeroE.toArray 28)).heap.size) := Nat.le_trans HBs.out hb.size
          replace HS := hidup (HS.out.later hb)
          clear hb
          generalize V18.alloc (.cells zeroE.toArray 28) = V24 at *
          generalize V18.heap.size = gb at *
          refine sched_fork [4] (by kernel_rfl) rfl ?_
          intro i hi
          simp only [List.mem_cons, List.not_mem_nil, or_false] at hi
          subst hi
          refine ⟨_, rfl, by rfl, oper_call (f := 8) (args := #[.agg (l1.map bv).toArray]) (by go_simp) ?_⟩
          refine (HYF.out V24).mono ?_
          rintro e V25 ⟨c1, rfl, he, hb⟩
          refine ⟨_, rfl, hb.mono HBs.out, ?_⟩
          have Hc1 : Hid (Elm c1 y) := he
          replace HBs : Hid (B ≤ V25.heap.size) := Nat.le_trans HBs.out hb.size
          replace HS := hidup (HS.out.later hb)
          replace HZa := hidup (And.intro (HZa.out.1.later hb) HZa.out.2)
          replace HZb := hidup (And.intro (HZb.out.1.later hb) HZb.out.2)
          clear hb he
          refine sched_fork [5] (by kernel_rfl) rfl ?_
          intro i hi
          simp only [List.mem_cons, List.not_mem_nil, or_false] at hi
          subst hi
          refine ⟨_, rfl, by rfl, oper_call (f := 16) (args := #[.bool is, .agg c0.toArray, .agg c1.toArray]) (by go_simp) ?_⟩
          refine (fswap_any is c0 c1 x y V25 Hc0.out Hc1.out).mono ?_
          rintro e V26 ⟨C, D, rfl, he1, he2, hb⟩
          refine ⟨_, rfl, hb.mono HBs.out, ?_⟩
          have HEC : Hid (Elm C (if is then y else x)) := he1
          have HED : Hid (Elm D (if is then x else y)) := he2
          replace HBs : Hid (B ≤ V26.heap.size) := Nat.le_trans HBs.out hb.size
          replace HS := hidup (HS.out.later hb)
          replace HZa := hidup (And.intro (HZa.out.1.later hb) HZa.out.2)
          replace HZb := hidup (And.intro (HZb.out.1.later hb) HZb.out.2)
          clear hb he1 he2
          refine sched_mid (G := Below B) (fun _ => Below.refl _ _) (fun _ _ _ h k => Below.trans h k) (by kernel_rfl) [(6, true), (7, true), (8, true)] 2 #[true, true, true, true, true, true, true, true, true, true, true, false, false] rfl (by kernel_rfl) ?_
          intro KM hKM
          go_simp
          iterate 3 (refine sched_take rfl (by rfl) (v := ?_) ?_ ?_; rotate_left; (intro w' hw'; clear hw'; go_simp; with_reducible rfl); go_simp)
          refine hKM.out _ _ ?_
          clear hKM
          have hC := HEC.out.len
          have hD := HED.out.len
          have hab : ga ≠ gb := HN.out
          have hst1 := store_row V26 ga _ _ C HZa.out.1 (by simp [hC, zeroE_len]) HEC.out.one
          have hCa : Cel (V26.setRow ga C.toArray) ga C := setRow_heap V26 ga _ _ _ _ HZa.out.1
          have hZb := HZb.out.1.put_other (g' := ga) (fun e => hab e.symm) C.toArray
          have hb1 : Below B V26 (V26.setRow ga C.toArray) := below_setRow (Below.refl _ _) HZa.out.2 _
          generalize V26.setRow ga C.toArray = X1 at *
          have hst2 := store_row X1 gb _ _ D hZb (by simp [hD, zeroE_len]) HED.out.one
          have HCb : Hid (Cel (X1.setRow gb D.toArray) gb D) := setRow_heap X1 gb _ _ _ _ hZb
          have HCa : Hid (Cel (X1.setRow gb D.toArray) ga C) := hCa.put_other (g' := gb) hab D.toArray
          have hb2 : Below B X1 (X1.setRow gb D.toArray) := below_setRow (Below.refl _ _) HZb.out.2 _
          generalize X1.setRow gb D.toArray = X2 at *
          replace HS := hidup ((HS.out.on hb1 LS).on hb2 LS)
          clear hCa hZb
          refine sched_end (G := Below B) (fun _ => Below.refl _ _) (fun _ _ _ h k => Below.trans h k) (by kernel_rfl) [(11, false), (12, false)] rfl (by kernel_rfl) ?_
          intro KM hKM
          go_simp
          refine sched_put rfl (by rfl) (w' := X1) (by go_simp) hb1 ?_
          go_simp
          refine sched_put rfl (by rfl) (w' := X2) (by go_simp) hb2 ?_
          go_simp
          exact hKM.out _ _ ⟨rfl, ga, gb, c0, c1, C, D, rfl, HEC, HED, HCa, HCb, HS⟩
      · refine ⟨_, rfl, by rfl, oper_val (v := .pointer (some ⟨V1.heap.size, 0, none⟩)) (w' := V1.alloc (.cells zeroE.toArray 28)) (by go_simp; rfl) ⟨(Below.refl _ _).alloc HBs.out _, ?_⟩⟩
        have hb : Below V1.heap.size V1 (V1.alloc (.cells zeroE.toArray 28)) := (Below.refl _ _).alloc (Nat.le_refl _) _
        have HZb : Hid (Cel (V1.alloc (.cells zeroE.toArray 28)) V1.heap.size zeroE ∧ B ≤ V1.heap.size) := ⟨Cel.new V1 zeroE, HBs.out⟩
        replace HBs : Hid (B ≤ (V1.alloc (.cells zeroE.toArray 28)).heap.size) := Nat.le_trans HBs.out hb.size
        replace HS := hidup (HS.out.later hb)
        clear hb
        generalize V1.alloc (.cells zeroE.toArray 28) = V27 at *
        generalize V1.heap.size = gb at *
        refine sched_fork [4, 9] (by kernel_rfl) rfl ?_
        intro i hi
        simp only [List.mem_cons, List.not_mem_nil, or_false] at hi
        rcases hi with rfl | rfl
        · refine ⟨_, rfl, by rfl, oper_call (f := 8) (args := #[.agg (l1.map bv).toArray]) (by go_simp) ?_⟩
          refine (HYF.out V27).mono ?_
          rintro e V28 ⟨c1, rfl, he, hb⟩
          refine ⟨_, rfl, hb.mono HBs.out, ?_⟩
          have Hc1 : Hid (Elm c1 y) := he
          replace HBs : Hid (B ≤ V28.heap.size) := Nat.le_trans HBs.out hb.size
          replace HS := hidup (HS.out.later hb)
          replace HZb := hidup (And.intro (HZb.out.1.later hb) HZb.out.2)
          clear hb he
          refine sched_fork [5, 9] (by kernel_rfl) rfl ?_
          intro i hi
          simp only [List.mem_cons, List.not_mem_nil, or_false] at hi
          rcases hi with rfl | rfl
          · refine ⟨_, rfl, by rfl, oper_call (f := 16) (args := #[.bool is, .agg c0.toArray, .agg c1.toArray]) (by go_simp) ?_⟩
            refine (fswap_any is c0 c1 x y V28 Hc0.out Hc1.out).mono ?_
            rintro e V29 ⟨C, D, rfl, he1, he2, hb⟩
            refine ⟨_, rfl, hb.mono HBs.out, ?_⟩
            have HEC : Hid (Elm C (if is then y else x)) := he1
            have HED : Hid (Elm D (if is then x else y)) := he2
            replace HBs : Hid (B ≤ V29.heap.size) := Nat.le_trans HBs.out hb.size
            replace HS := hidup (HS.out.later hb)
            replace HZb := hidup (And.intro (HZb.out.1.later hb) HZb.out.2)
            clear hb he1 he2
            refine sched_mid (G := Below B) (fun _ => Below.refl _ _) (fun _ _ _ h k => Below.trans h k) (by kernel_rfl) [(6, true), (7, true), (8, true)] 3 #[true, true, true, true, true, true, true, true, true, false, true, false, false] rfl (by kernel_rfl) ?_
            intro KM hKM
            go_simp
            iterate 3 (refine sched_take rfl (by rfl) (v := ?_) ?_ ?_; rotate_left; (intro w' hw'; clear hw'; go_simp; with_reducible rfl); go_simp)
            refine hKM.out _ _ ?_
            clear hKM
            refine sched_fork [9] (by kernel_rfl) rfl ?_
            intro i hi
            simp only [List.mem_cons, List.not_mem_nil, or_false] at hi
            subst hi
            refine ⟨_, rfl, by rfl, oper_val (v := .pointer (some ⟨V29.heap.size, 0, none⟩)) (w' := V29.alloc (.cells zeroE.toArray 28)) (by go_simp; rfl) ⟨(Below.refl _ _).alloc HBs.out _, ?_⟩⟩
            have hb : Below V29.heap.size V29 (V29.alloc (.cells zeroE.toArray 28)) := (Below.refl _ _).alloc (Nat.le_refl _) _
            have HN : Hid (V29.heap.size ≠ gb) := by have := HZb.out.1.lt; show _ ≠ _; omega
            replace HZb := hidup (And.intro (HZb.out.1.later hb) HZb.out.2)
            have HZa : Hid (Cel (V29.alloc (.cells zeroE.toArray 28)) V29.heap.size zeroE ∧ B ≤ V29.heap.size) := ⟨Cel.new V29 zeroE, HBs.out⟩
            replace HBs : Hid (B ≤ (V29.alloc (.cells zeroE.toArray 28)).heap.size) := Nat.le_trans HBs.out hb.size
            replace HS := hidup (HS.out.later hb)
            clear hb
            generalize V29.alloc (.cells zeroE.toArray 28) = V30 at *
            generalize V29.heap.size = ga at *
            have hC := HEC.out.len
            have hD := HED.out.len
            have hab : ga ≠ gb := HN.out
            have hst1 := store_row V30 ga _ _ C HZa.out.1 (by simp [hC, zeroE_len]) HEC.out.one
            have hCa : Cel (V30.setRow ga C.toArray) ga C := setRow_heap V30 ga _ _ _ _ HZa.out.1
            have hZb := HZb.out.1.put_other (g' := ga) (fun e => hab e.symm) C.toArray
            have hb1 : Below B V30 (V30.setRow ga C.toArray) := below_setRow (Below.refl _ _) HZa.out.2 _
            generalize V30.setRow ga C.toArray = X1 at *
            have hst2 := store_row X1 gb _ _ D hZb (by simp [hD, zeroE_len]) HED.out.one
            have HCb : Hid (Cel (X1.setRow gb D.toArray) gb D) := setRow_heap X1 gb _ _ _ _ hZb
            have HCa : Hid (Cel (X1.setRow gb D.toArray) ga C) := hCa.put_other (g' := gb) hab D.toArray
            have hb2 : Below B X1 (X1.setRow gb D.toArray) := below_setRow (Below.refl _ _) HZb.out.2 _
            generalize X1.setRow gb D.toArray = X2 at *
            replace HS := hidup ((HS.out.on hb1 LS).on hb2 LS)
            clear hCa hZb
            refine sched_end (G := Below B) (fun _ => Below.refl _ _) (fun _ _ _ h k => Below.trans h k) (by kernel_rfl) [(11, false), (12, false)] rfl (by kernel_rfl) ?_
            intro KM hKM
            go_simp
            refine sched_put rfl (by rfl) (w' := X1) (by go_simp) hb1 ?_
            go_simp
            refine sched_put rfl (by rfl) (w' := X2) (by go_simp) hb2 ?_
            go_simp
            exact hKM.out _ _ ⟨rfl, ga, gb, c0, c1, C, D, rfl, HEC, HED, HCa, HCb, HS⟩
          · refine ⟨_, rfl, by rfl, oper_val (v := .pointer (some ⟨V28.heap.size, 0, none⟩)) (w' := V28.alloc (.cells zeroE.toArray 28)) (by go_simp; rfl) ⟨(Below.refl _ _).alloc HBs.out _, ?_⟩⟩
            have hb : Below V28.heap.size V28 (V28.alloc (.cells zeroE.toArray 28)) := (Below.refl _ _).alloc (Nat.le_refl _) _
            have HN : Hid (V28.heap.size ≠ gb) := by have := HZb.out.1.lt; show _ ≠ _; omega
            replace HZb := hidup (And.intro (HZb.out.1.later hb) HZb.out.2)
            have HZa : Hid (Cel (V28.alloc (.cells zeroE.toArray 28)) V28.heap.size zeroE ∧ B ≤ V28.heap.size) := ⟨Cel.new V28 zeroE, HBs.out⟩
            replace HBs : Hid (B ≤ (V28.alloc (.cells zeroE.toArray 28)).heap.size) := Nat.le_trans HBs.out hb.size
            replace HS := hidup (HS.out.later hb)
            clear hb
            generalize V28.alloc (.cells zeroE.toArray 28) = V31 at *
            generalize V28.heap.size = ga at *
            refine sched_fork [5] (by kernel_rfl) rfl ?_
            intro i hi
            simp only [List.mem_cons, List.not_mem_nil, or_false] at hi
            subst hi
            refine ⟨_, rfl, by rfl, oper_call (f := 16) (args := #[.bool is, .agg c0.toArray, .agg c1.toArray]) (by go_simp) ?_⟩
            refine (fswap_any is c0 c1 x y V31 Hc0.out Hc1.out).mono ?_
            rintro e V32 ⟨C, D, rfl, he1, he2, hb⟩
            refine ⟨_, rfl, hb.mono HBs.out, ?_⟩
            have HEC : Hid (Elm C (if is then y else x)) := he1
            have HED : Hid (Elm D (if is then x else y)) := he2
            replace HBs : Hid (B ≤ V32.heap.size) := Nat.le_trans HBs.out hb.size
            replace HS := hidup (HS.out.later hb)
            replace HZa := hidup (And.intro (HZa.out.1.later hb) HZa.out.2)
            replace HZb := hidup (And.intro (HZb.out.1.later hb) HZb.out.2)
            clear hb he1 he2
            refine sched_mid (G := Below B) (fun _ => Below.refl _ _) (fun _ _ _ h k => Below.trans h k) (by kernel_rfl) [(6, true), (7, true), (8, true)] 2 #[true, true, true, true, true, true, true, true, true, true, true, false, false] rfl (by kernel_rfl) ?_
            intro KM hKM
            go_simp
            iterate 3 (refine sched_take rfl (by rfl) (v := ?_) ?_ ?_; rotate_left; (intro w' hw'; clear hw'; go_simp; with_reducible rfl); go_simp)
            refine hKM.out _ _ ?_
            clear hKM
            have hC := HEC.out.len
            have hD := HED.out.len
            have hab : ga ≠ gb := HN.out
            have hst1 := store_row V32 ga _ _ C HZa.out.1 (by simp [hC, zeroE_len]) HEC.out.one
            have hCa : Cel (V32.setRow ga C.toArray) ga C := setRow_heap V32 ga _ _ _ _ HZa.out.1
            have hZb := HZb.out.1.put_other (g' := ga) (fun e => hab e.symm) C.toArray
            have hb1 : Below B V32 (V32.setRow ga C.toArray) := below_setRow (Below.refl _ _) HZa.out.2 _
            generalize V32.setRow ga C.toArray = X1 at *
            have hst2 := store_row X1 gb _ _ D hZb (by simp [hD, zeroE_len]) HED.out.one
            have HCb : Hid (Cel (X1.setRow gb D.toArray) gb D) := setRow_heap X1 gb _ _ _ _ hZb
            have HCa : Hid (Cel (X1.setRow gb D.toArray) ga C) := hCa.put_other (g' := gb) hab D.toArray
            have hb2 : Below B X1 (X1.setRow gb D.toArray) := below_setRow (Below.refl _ _) HZb.out.2 _
            generalize X1.setRow gb D.toArray = X2 at *
            replace HS := hidup ((HS.out.on hb1 LS).on hb2 LS)
            clear hCa hZb
            refine sched_end (G := Below B) (fun _ => Below.refl _ _) (fun _ _ _ h k => Below.trans h k) (by kernel_rfl) [(11, false), (12, false)] rfl (by kernel_rfl) ?_
            intro KM hKM
            go_simp
            refine sched_put rfl (by rfl) (w' := X1) (by go_simp) hb1 ?_
            go_simp
            refine sched_put rfl (by rfl) (w' := X2) (by go_simp) hb2 ?_
            go_simp
            exact hKM.out _ _ ⟨rfl, ga, gb, c0, c1, C, D, rfl, HEC, HED, HCa, HCb, HS⟩
        · refine ⟨_, rfl, by rfl, oper_val (v := .pointer (some ⟨V27.heap.size, 0, none⟩)) (w' := V27.alloc (.cells zeroE.toArray 28)) (by go_simp; rfl) ⟨(Below.refl _ _).alloc HBs.out _, ?_⟩⟩
          have hb : Below V27.heap.size V27 (V27.alloc (.cells zeroE.toArray 28)) := (Below.refl _ _).alloc (Nat.le_refl _) _
          have HN : Hid (V27.heap.size ≠ gb) := by have := HZb.out.1.lt; show _ ≠ _; omega
          replace HZb := hidup (And.intro (HZb.out.1.later hb) HZb.out.2)
          have HZa : Hid (Cel (V27.alloc (.cells zeroE.toArray 28)) V27.heap.size zeroE ∧ B ≤ V27.heap.size) := ⟨Cel.new V27 zeroE, HBs.out⟩
          replace HBs : Hid (B ≤ (V27.alloc (.cells zeroE.toArray 28)).heap.size) := Nat.le_trans HBs.out hb.size
          replace HS := hidup (HS.out.later hb)
          clear hb
          generalize V27.alloc (.cells zeroE.toArray 28) = V33 at *
          generalize V27.heap.size = ga at *
          refine sched_fork [4] (by kernel_rfl) rfl ?_
          intro i hi
          simp only [List.mem_cons, List.not_mem_nil, or_false] at hi
          subst hi
          refine ⟨_, rfl, by rfl, oper_call (f := 8) (args := #[.agg (l1.map bv).toArray]) (by go_simp) ?_⟩
          refine (HYF.out V33).mono ?_
          rintro e V34 ⟨c1, rfl, he, hb⟩
          refine ⟨_, rfl, hb.mono HBs.out, ?_⟩
          have Hc1 : Hid (Elm c1 y) := he
          replace HBs : Hid (B ≤ V34.heap.size) := Nat.le_trans HBs.out hb.size
          replace HS := hidup (HS.out.later hb)
          replace HZa := hidup (And.intro (HZa.out.1.later hb) HZa.out.2)
          replace HZb := hidup (And.intro (HZb.out.1.later hb) HZb.out.2)
          clear hb he
          refine sched_fork [5] (by kernel_rfl) rfl ?_
          intro i hi
          simp only [List.mem_cons, List.not_mem_nil, or_false] at hi
          subst hi
          refine ⟨_, rfl, by rfl, oper_call (f := 16) (args := #[.bool is, .agg c0.toArray, .agg c1.toArray]) (by go_simp) ?_⟩
          refine (fswap_any is c0 c1 x y V34 Hc0.out Hc1.out).mono ?_
          rintro e V35 ⟨C, D, rfl, he1, he2, hb⟩
          refine ⟨_, rfl, hb.mono HBs.out, ?_⟩
          have HEC : Hid (Elm C (if is then y else x)) := he1
          have HED : Hid (Elm D (if is then x else y)) := he2
          replace HBs : Hid (B ≤ V35.heap.size) := Nat.le_trans HBs.out hb.size
          replace HS := hidup (HS.out.later hb)
          replace HZa := hidup (And.intro (HZa.out.1.later hb) HZa.out.2)
          replace HZb := hidup (And.intro (HZb.out.1.later hb) HZb.out.2)
          clear hb he1 he2
          refine sched_mid (G := Below B) (fun _ => Below.refl _ _) (fun _ _ _ h k => Below.trans h k) (by kernel_rfl) [(6, true), (7, true), (8, true)] 2 #[true, true, true, true, true, true, true, true, true, true, true, false, false] rfl (by kernel_rfl) ?_
          intro KM hKM
          go_simp
          iterate 3 (refine sched_take rfl (by rfl) (v := ?_) ?_ ?_; rotate_left; (intro w' hw'; clear hw'; go_simp; with_reducible rfl); go_simp)
          refine hKM.out _ _ ?_
          clear hKM
          have hC := HEC.out.len
          have hD := HED.out.len
          have hab : ga ≠ gb := HN.out
          have hst1 := store_row V35 ga _ _ C HZa.out.1 (by simp [hC, zeroE_len]) HEC.out.one
          have hCa : Cel (V35.setRow ga C.toArray) ga C := setRow_heap V35 ga _ _ _ _ HZa.out.1
          have hZb := HZb.out.1.put_other (g' := ga) (fun e => hab e.symm) C.toArray
          have hb1 : Below B V35 (V35.setRow ga C.toArray) := below_setRow (Below.refl _ _) HZa.out.2 _
          generalize V35.setRow ga C.toArray = X1 at *
          have hst2 := store_row X1 gb _ _ D hZb (by simp [hD, zeroE_len]) HED.out.one
          have HCb : Hid (Cel (X1.setRow gb D.toArray) gb D) := setRow_heap X1 gb _ _ _ _ hZb
          have HCa : Hid (Cel (X1.setRow gb D.toArray) ga C) := hCa.put_other (g' := gb) hab D.toArray
          have hb2 : Below B X1 (X1.setRow gb D.toArray) := below_setRow (Below.refl _ _) HZb.out.2 _
          generalize X1.setRow gb D.toArray = X2 at *
          replace HS := hidup ((HS.out.on hb1 LS).on hb2 LS)
          clear hCa hZb
          refine sched_end (G := Below B) (fun _ => Below.refl _ _) (fun _ _ _ h k => Below.trans h k) (by kernel_rfl) [(11, false), (12, false)] rfl (by kernel_rfl) ?_
          intro KM hKM
          go_simp
          refine sched_put rfl (by rfl) (w' := X1) (by go_simp) hb1 ?_
          go_simp
          refine sched_put rfl (by rfl) (w' := X2) (by go_simp) hb2 ?_
          go_simp
          exact hKM.out _ _ ⟨rfl, ga, gb, c0, c1, C, D, rfl, HEC, HED, HCa, HCb, HS⟩
    · refine ⟨_, rfl, by rfl, oper_val (v := .pointer (some ⟨W.heap.size, 0, none⟩)) (w' := W.alloc (.cells zeroE.toArray 28)) (by go_simp; rfl) ⟨(Below.refl _ _).alloc HBs.out _, ?_⟩⟩
      have hb : Below W.heap.size W (W.alloc (.cells zeroE.toArray 28)) := (Below.refl _ _).alloc (Nat.le_refl _) _
      have HZa : Hid (Cel (W.alloc (.cells zeroE.toArray 28)) W.heap.size zeroE ∧ B ≤ W.heap.size) := ⟨Cel.new W zeroE, HBs.out⟩
      replace HBs : Hid (B ≤ (W.alloc (.cells zeroE.toArray 28)).heap.size) := Nat.le_trans HBs.out hb.size
      replace HS := hidup (HS.out.later hb)
      clear hb
      generalize W.alloc (.cells zeroE.toArray 28) = V36 at *
      generalize W.heap.size = ga at *
      refine sched_fork [2, 10] (by kernel_rfl) rfl ?_
      intro i hi
      simp only [List.mem_cons, List.not_mem_nil, or_false] at hi
      rcases hi with rfl | rfl
      · refine ⟨_, rfl, by rfl, oper_call (f := 8) (args := #[.agg (l0.map bv).toArray]) (by go_simp) ?_⟩
        refine (HXF.out V36).mono ?_
        rintro e V37 ⟨c0, rfl, he, hb⟩
        refine ⟨_, rfl, hb.mono HBs.out, ?_⟩
        have Hc0 : Hid (Elm c0 x) := he
        replace HBs : Hid (B ≤ V37.heap.size) := Nat.le_trans HBs.out hb.size
        replace HS := hidup (HS.out.later hb)
        replace HZa := hidup (And.intro (HZa.out.1.later hb) HZa.out.2)
        clear hb he
        refine sched_fork [4, 10] (by kernel_rfl) rfl ?_
        intro i hi
        simp only [List.mem_cons, List.not_mem_nil, or_false] at hi
        rcases hi with rfl | rfl
        · refine ⟨_, rfl, by rfl, oper_call (f := 8) (args := #[.agg (l1.map bv).toArray]) (by go_simp) ?_⟩
          refine (HYF.out V37).mono ?_
          rintro e V38 ⟨c1, rfl, he, hb⟩
          refine ⟨_, rfl, hb.mono HBs.out, ?_⟩
          have Hc1 : Hid (Elm c1 y) := he
          replace HBs : Hid (B ≤ V38.heap.size) := Nat.le_trans HBs.out hb.size
          replace HS := hidup (HS.out.later hb)
          replace HZa := hidup (And.intro (HZa.out.1.later hb) HZa.out.2)
          clear hb he
          refine sched_fork [5, 10] (by kernel_rfl) rfl ?_
          intro i hi
          simp only [List.mem_cons, List.not_mem_nil, or_false] at hi
          rcases hi with rfl | rfl
          · refine ⟨_, rfl, by rfl, oper_call (f := 16) (args := #[.bool is, .agg c0.toArray, .agg c1.toArray]) (by go_simp) ?_⟩
            refine (fswap_any is c0 c1 x y V38 Hc0.out Hc1.out).mono ?_
            rintro e V39 ⟨C, D, rfl, he1, he2, hb⟩
            refine ⟨_, rfl, hb.mono HBs.out, ?_⟩
            have HEC : Hid (Elm C (if is then y else x)) := he1
            have HED : Hid (Elm D (if is then x else y)) := he2
            replace HBs : Hid (B ≤ V39.heap.size) := Nat.le_trans HBs.out hb.size
            replace HS := hidup (HS.out.later hb)
            replace HZa := hidup (And.intro (HZa.out.1.later hb) HZa.out.2)
            clear hb he1 he2
            refine sched_mid (G := Below B) (fun _ => Below.refl _ _) (fun _ _ _ h k => Below.trans h k) (by kernel_rfl) [(6, true), (7, true), (8, true)] 3 #[true, true, true, true, true, true, true, true, true, true, false, false, false] rfl (by kernel_rfl) ?_
            intro KM hKM
            go_simp
            iterate 3 (refine sched_take rfl (by rfl) (v := ?_) ?_ ?_; rotate_left; (intro w' hw'; clear hw'; go_simp; with_reducible rfl); go_simp)
            refine hKM.out _ _ ?_
            clear hKM
            refine sched_fork [10] (by kernel_rfl) rfl ?_
            intro i hi
            simp only [List.mem_cons, List.not_mem_nil, or_false] at hi
            subst hi
            refine ⟨_, rfl, by rfl, oper_val (v := .pointer (some ⟨V39.heap.size, 0, none⟩)) (w' := V39.alloc (.cells zeroE.toArray 28)) (by go_simp; rfl) ⟨(Below.refl _ _).alloc HBs.out _, ?_⟩⟩
            have hb : Below V39.heap.size V39 (V39.alloc (.cells zeroE.toArray 28)) := (Below.refl _ _).alloc (Nat.le_refl _) _
            have HN : Hid (ga ≠ V39.heap.size) := by have := HZa.out.1.lt; show _ ≠ _; omega
            replace HZa := hidup (And.intro (HZa.out.1.later hb) HZa.out.2)
            have HZb : Hid (Cel (V39.alloc (.cells zeroE.toArray 28)) V39.heap.size zeroE ∧ B ≤ V39.heap.size) := ⟨Cel.new V39 zeroE, HBs.out⟩
            replace HBs : Hid (B ≤ (V39.alloc (.cells zeroE.toArray 28)).heap.size) := Nat.le_trans HBs.out hb.size
            replace HS := hidup (HS.out.later hb)
            clear hb
            generalize V39.alloc (.cells zeroE.toArray 28) = V40 at *
            generalize V39.heap.size = gb at *
            have hC := HEC.out.len
            have hD := HED.out.len
            have hab : ga ≠ gb := HN.out
            have hst1 := store_row V40 ga _ _ C HZa.out.1 (by simp [hC, zeroE_len]) HEC.out.one
            have hCa : Cel (V40.setRow ga C.toArray) ga C := setRow_heap V40 ga _ _ _ _ HZa.out.1
            have hZb := HZb.out.1.put_other (g' := ga) (fun e => hab e.symm) C.toArray
            have hb1 : Below B V40 (V40.setRow ga C.toArray) := below_setRow (Below.refl _ _) HZa.out.2 _
            generalize V40.setRow ga C.toArray = X1 at *
            have hst2 := store_row X1 gb _ _ D hZb (by simp [hD, zeroE_len]) HED.out.one
            have HCb : Hid (Cel (X1.setRow gb D.toArray) gb D) := setRow_heap X1 gb _ _ _ _ hZb
            have HCa : Hid (Cel (X1.setRow gb D.toArray) ga C) := hCa.put_other (g' := gb) hab D.toArray
            have hb2 : Below B X1 (X1.setRow gb D.toArray) := below_setRow (Below.refl _ _) HZb.out.2 _
            generalize X1.setRow gb D.toArray = X2 at *
            replace HS := hidup ((HS.out.on hb1 LS).on hb2 LS)
            clear hCa hZb
            refine sched_end (G := Below B) (fun _ => Below.refl _ _) (fun _ _ _ h k => Below.trans h k) (by kernel_rfl) [(11, false), (12, false)] rfl (by kernel_rfl) ?_
            intro KM hKM
            go_simp
            refine sched_put rfl (by rfl) (w' := X1) (by go_simp) hb1 ?_
            go_simp
            refine sched_put rfl (by rfl) (w' := X2) (by go_simp) hb2 ?_
            go_simp
            exact hKM.out _ _ ⟨rfl, ga, gb, c0, c1, C, D, rfl, HEC, HED, HCa, HCb, HS⟩
          · refine ⟨_, rfl, by rfl, oper_val (v := .pointer (some ⟨V38.heap.size, 0, none⟩)) (w' := V38.alloc (.cells zeroE.toArray 28)) (by go_simp; rfl) ⟨(Below.refl _ _).alloc HBs.out _, ?_⟩⟩
            have hb : Below V38.heap.size V38 (V38.alloc (.cells zeroE.toArray 28)) := (Below.refl _ _).alloc (Nat.le_refl _) _
            have HN : Hid (ga ≠ V38.heap.size) := by have := HZa.out.1.lt; show _ ≠ _; omega
            replace HZa := hidup (And.intro (HZa.out.1.later hb) HZa.out.2)
            have HZb : Hid (Cel (V38.alloc (.cells zeroE.toArray 28)) V38.heap.size zeroE ∧ B ≤ V38.heap.size) := ⟨Cel.new V38 zeroE, HBs.out⟩
            replace HBs : Hid (B ≤ (V38.alloc (.cells zeroE.toArray 28)).heap.size) := Nat.le_trans HBs.out hb.size
            replace HS := hidup (HS.out.later hb)
            clear hb
            generalize V38.alloc (.cells zeroE.toArray 28) = V41 at *
            generalize V38.heap.size = gb at *
            refine sched_fork [5] (by kernel_rfl) rfl ?_
            intro i hi
            simp only [List.mem_cons, List.not_mem_nil, or_false] at hi
            subst hi
            refine ⟨_, rfl, by rfl, oper_call (f := 16) (args := #[.bool is, .agg c0.toArray, .agg c1.toArray]) (by go_simp) ?_⟩
            refine (fswap_any is c0 c1 x y V41 Hc0.out Hc1.out).mono ?_
            rintro e V42 ⟨C, D, rfl, he1, he2, hb⟩
            refine ⟨_, rfl, hb.mono HBs.out, ?_⟩
            have HEC : Hid (Elm C (if is then y else x)) := he1
            have HED : Hid (Elm D (if is then x else y)) := he2
            replace HBs : Hid (B ≤ V42.heap.size) := Nat.le_trans HBs.out hb.size
            replace HS := hidup (HS.out.later hb)
            replace HZa := hidup (And.intro (HZa.out.1.later hb) HZa.out.2)
            replace HZb := hidup (And.intro (HZb.out.1.later hb) HZb.out.2)
            clear hb he1 he2
            refine sched_mid (G := Below B) (fun _ => Below.refl _ _) (fun _ _ _ h k => Below.trans h k) (by kernel_rfl) [(6, true), (7, true), (8, true)] 2 #[true, true, true, true, true, true, true, true, true, true, true, false, false] rfl (by kernel_rfl) ?_
            intro KM hKM
            go_simp
            iterate 3 (refine sched_take rfl (by rfl) (v := ?_) ?_ ?_; rotate_left; (intro w' hw'; clear hw'; go_simp; with_reducible rfl); go_simp)
            refine hKM.out _ _ ?_
            clear hKM
            have hC := HEC.out.len
            have hD := HED.out.len
            have hab : ga ≠ gb := HN.out
            have hst1 := store_row V42 ga _ _ C HZa.out.1 (by simp [hC, zeroE_len]) HEC.out.one
            have hCa : Cel (V42.setRow ga C.toArray) ga C := setRow_heap V42 ga _ _ _ _ HZa.out.1
            have hZb := HZb.out.1.put_other (g' := ga) (fun e => hab e.symm) C.toArray
            have hb1 : Below B V42 (V42.setRow ga C.toArray) := below_setRow (Below.refl _ _) HZa.out.2 _
            generalize V42.setRow ga C.toArray = X1 at *
            have hst2 := store_row X1 gb _ _ D hZb (by simp [hD, zeroE_len]) HED.out.one
            have HCb : Hid (Cel (X1.setRow gb D.toArray) gb D) := setRow_heap X1 gb _ _ _ _ hZb
            have HCa : Hid (Cel (X1.setRow gb D.toArray) ga C) := hCa.put_other (g' := gb) hab D.toArray
            have hb2 : Below B X1 (X1.setRow gb D.toArray) := below_setRow (Below.refl _ _) HZb.out.2 _
            generalize X1.setRow gb D.toArray = X2 at *
            replace HS := hidup ((HS.out.on hb1 LS).on hb2 LS)
            clear hCa hZb
            refine sched_end (G := Below B) (fun _ => Below.refl _ _) (fun _ _ _ h k => Below.trans h k) (by kernel_rfl) [(11, false), (12, false)] rfl (by kernel_rfl) ?_
            intro KM hKM
            go_simp
            refine sched_put rfl (by rfl) (w' := X1) (by go_simp) hb1 ?_
            go_simp
            refine sched_put rfl (by rfl) (w' := X2) (by go_simp) hb2 ?_
            go_simp
            exact hKM.out _ _ ⟨rfl, ga, gb, c0, c1, C, D, rfl, HEC, HED, HCa, HCb, HS⟩
        · refine ⟨_, rfl, by rfl, oper_val (v := .pointer (some ⟨V37.heap.size, 0, none⟩)) (w' := V37.alloc (.cells zeroE.toArray 28)) (by go_simp; rfl) ⟨(Below.refl _ _).alloc HBs.out _, ?_⟩⟩
          have hb : Below V37.heap.size V37 (V37.alloc (.cells zeroE.toArray 28)) := (Below.refl _ _).alloc (Nat.le_refl _) _
          have HN : Hid (ga ≠ V37.heap.size) := by have := HZa.out.1.lt; show _ ≠ _; omega
          replace HZa := hidup (And.intro (HZa.out.1.later hb) HZa.out.2)
          have HZb : Hid (Cel (V37.alloc (.cells zeroE.toArray 28)) V37.heap.size zeroE ∧ B ≤ V37.heap.size) := ⟨Cel.new V37 zeroE, HBs.out⟩
          replace HBs : Hid (B ≤ (V37.alloc (.cells zeroE.toArray 28)).heap.size) := Nat.le_trans HBs.out hb.size
          replace HS := hidup (HS.out.later hb)
          clear hb
          generalize V37.alloc (.cells zeroE.toArray 28) = V43 at *
          generalize V37.heap.size = gb at *
          refine sched_fork [4] (by kernel_rfl) rfl ?_
          intro i hi
          simp only [List.mem_cons, List.not_mem_nil, or_false] at hi
          subst hi
          refine ⟨_, rfl, by rfl, oper_call (f := 8) (args := #[.agg (l1.map bv).toArray]) (by go_simp) ?_⟩
          refine (HYF.out V43).mono ?_
          rintro e V44 ⟨c1, rfl, he, hb⟩
          refine ⟨_, rfl, hb.mono HBs.out, ?_⟩
          have Hc1 : Hid (Elm c1 y) := he
          replace HBs : Hid (B ≤ V44.heap.size) := Nat.le_trans HBs.out hb.size
          replace HS := hidup (HS.out.later hb)
          replace HZa := hidup (And.intro (HZa.out.1.later hb) HZa.out.2)
          replace HZb := hidup (And.intro (HZb.out.1.later hb) HZb.out.2)
          clear hb he
          refine sched_fork [5] (by kernel_rfl) rfl ?_
          intro i hi
          simp only [List.mem_cons, List.not_mem_nil, or_false] at hi
          subst hi
          refine ⟨_, rfl, by rfl, oper_call (f := 16) (args := #[.bool is, .agg c0.toArray, .agg c1.toArray]) (by go_simp) ?_⟩
          refine (fswap_any is c0 c1 x y V44 Hc0.out Hc1.out).mono ?_
          rintro e V45 ⟨C, D, rfl, he1, he2, hb⟩
          refine ⟨_, rfl, hb.mono HBs.out, ?_⟩
          have HEC : Hid (Elm C (if is then y else x)) := he1
          have HED : Hid (Elm D (if is then x else y)) := he2
          replace HBs : Hid (B ≤ V45.heap.size) := Nat.le_trans HBs.out hb.size
          replace HS := hidup (HS.out.later hb)
          replace HZa := hidup (And.intro (HZa.out.1.later hb) HZa.out.2)
          replace HZb := hidup (And.intro (HZb.out.1.later hb) HZb.out.2)
          clear hb he1 he2
          refine sched_mid (G := Below B) (fun _ => Below.refl _ _) (fun _ _ _ h k => Below.trans h k) (by kernel_rfl) [(6, true), (7, true), (8, true)] 2 #[true, true, true, true, true, true, true, true, true, true, true, false, false] rfl (by kernel_rfl) ?_
          intro KM hKM
          go_simp
          iterate 3 (refine sched_take rfl (by rfl) (v := ?_) ?_ ?_; rotate_left; (intro w' hw'; clear hw'; go_simp; with_reducible rfl); go_simp)
          refine hKM.out _ _ ?_
          clear hKM
          have hC := HEC.out.len
          have hD := HED.out.len
          have hab : ga ≠ gb := HN.out
          have hst1 := store_row V45 ga _ _ C HZa.out.1 (by simp [hC, zeroE_len]) HEC.out.one
          have hCa : Cel (V45.setRow ga C.toArray) ga C := setRow_heap V45 ga _ _ _ _ HZa.out.1
          have hZb := HZb.out.1.put_other (g' := ga) (fun e => hab e.symm) C.toArray
          have hb1 : Below B V45 (V45.setRow ga C.toArray) := below_setRow (Below.refl _ _) HZa.out.2 _
          generalize V45.setRow ga C.toArray = X1 at *
          have hst2 := store_row X1 gb _ _ D hZb (by simp [hD, zeroE_len]) HED.out.one
          have HCb : Hid (Cel (X1.setRow gb D.toArray) gb D) := setRow_heap X1 gb _ _ _ _ hZb
          have HCa : Hid (Cel (X1.setRow gb D.toArray) ga C) := hCa.put_other (g' := gb) hab D.toArray
          have hb2 : Below B X1 (X1.setRow gb D.toArray) := below_setRow (Below.refl _ _) HZb.out.2 _
          generalize X1.setRow gb D.toArray = X2 at *
          replace HS := hidup ((HS.out.on hb1 LS).on hb2 LS)
          clear hCa hZb
          refine sched_end (G := Below B) (fun _ => Below.refl _ _) (fun _ _ _ h k => Below.trans h k) (by kernel_rfl) [(11, false), (12, false)] rfl (by kernel_rfl) ?_
          intro KM hKM
          go_simp
          refine sched_put rfl (by rfl) (w' := X1) (by go_simp) hb1 ?_
          go_simp
          refine sched_put rfl (by rfl) (w' := X2) (by go_simp) hb2 ?_
          go_simp
          exact hKM.out _ _ ⟨rfl, ga, gb, c0, c1, C, D, rfl, HEC, HED, HCa, HCb, HS⟩
      · refine ⟨_, rfl, by rfl, oper_val (v := .pointer (some ⟨V36.heap.size, 0, none⟩)) (w' := V36.alloc (.cells zeroE.toArray 28)) (by go_simp; rfl) ⟨(Below.refl _ _).alloc HBs.out _, ?_⟩⟩
        have hb : Below V36.heap.size V36 (V36.alloc (.cells zeroE.toArray 28)) := (Below.refl _ _).alloc (Nat.le_refl _) _
        have HN : Hid (ga ≠ V36.heap.size) := by have := HZa.out.1.lt; show _ ≠ _; omega
        replace HZa := hidup (And.intro (HZa.out.1.later hb) HZa.out.2)
        have HZb : Hid (Cel (V36.alloc (.cells zeroE.toArray 28)) V36.heap.size zeroE ∧ B ≤ V36.heap.size) := ⟨Cel.new V36 zeroE, HBs.out⟩
        replace HBs : Hid (B ≤ (V36.alloc (.cells zeroE.toArray 28)).heap.size) := Nat.le_trans HBs.out hb.size
        replace HS := hidup (HS.out.later hb)
        clear hb
        generalize V36.alloc (.cells zeroE.toArray 28) = V46 at *
        generalize V36.heap.size = gb at *
        refine sched_fork [2] (by kernel_rfl) rfl ?_
        intro i hi
        simp only [List.mem_cons, List.not_mem_nil, or_false] at hi
        subst hi
        refine ⟨_, rfl, by rfl, oper_call (f := 8) (args := #[.agg (l0.map bv).toArray]) (by go_simp) ?_⟩
        refine (HXF.out V46).mono ?_
        rintro e V47 ⟨c0, rfl, he, hb⟩
        refine ⟨_, rfl, hb.mono HBs.out, ?_⟩
        have Hc0 : Hid (Elm c0 x) := he
        replace HBs : Hid (B ≤ V47.heap.size) := Nat.le_trans HBs.out hb.size
        replace HS := hidup (HS.out.later hb)
        replace HZa := hidup (And.intro (HZa.out.1.later hb) HZa.out.2)
        replace HZb := hidup (And.intro (HZb.out.1.later hb) HZb.out.2)
        clear hb he
        refine sched_fork [4] (by kernel_rfl) rfl ?_
        intro i hi
        simp only [List.mem_cons, List.not_mem_nil, or_false] at hi
        subst hi
        refine ⟨_, rfl, by rfl, oper_call (f := 8) (args := #[.agg (l1.map bv).toArray]) (by go_simp) ?_⟩
        refine (HYF.out V47).mono ?_
        rintro e V48 ⟨c1, rfl, he, hb⟩
        refine ⟨_, rfl, hb.mono HBs.out, ?_⟩
        have Hc1 : Hid (Elm c1 y) := he
        replace HBs : Hid (B ≤ V48.heap.size) := Nat.le_trans HBs.out hb.size
        replace HS := hidup (HS.out.later hb)
        replace HZa := hidup (And.intro (HZa.out.1.later hb) HZa.out.2)
        replace HZb := hidup (And.intro (HZb.out.1.later hb) HZb.out.2)
        clear hb he
        refine sched_fork [5] (by kernel_rfl) rfl ?_
        intro i hi
        simp only [List.mem_cons, List.not_mem_nil, or_false] at hi
        subst hi
        refine ⟨_, rfl, by rfl, oper_call (f := 16) (args := #[.bool is, .agg c0.toArray, .agg c1.toArray]) (by go_simp) ?_⟩
        refine (fswap_any is c0 c1 x y V48 Hc0.out Hc1.out).mono ?_
        rintro e V49 ⟨C, D, rfl, he1, he2, hb⟩
        refine ⟨_, rfl, hb.mono HBs.out, ?_⟩
        have HEC : Hid (Elm C (if is then y else x)) := he1
        have HED : Hid (Elm D (if is then x else y)) := he2
        replace HBs : Hid (B ≤ V49.heap.size) := Nat.le_trans HBs.out hb.size
        replace HS := hidup (HS.out.later hb)
        replace HZa := hidup (And.intro (HZa.out.1.later hb) HZa.out.2)
        replace HZb := hidup (And.intro (HZb.out.1.later hb) HZb.out.2)
        clear hb he1 he2
        refine sched_mid (G := Below B) (fun _ => Below.refl _ _) (fun _ _ _ h k => Below.trans h k) (by kernel_rfl) [(6, true), (7, true), (8, true)] 2 #[true, true, true, true, true, true, true, true, true, true, true, false, false] rfl (by kernel_rfl) ?_
        intro KM hKM
        go_simp
        iterate 3 (refine sched_take rfl (by rfl) (v := ?_) ?_ ?_; rotate_left; (intro w' hw'; clear hw'; go_simp; with_reducible rfl); go_simp)
        refine hKM.out _ _ ?_
        clear hKM
        have hC := HEC.out.len
        have hD := HED.out.len
        have hab : ga ≠ gb := HN.out
        have hst1 := store_row V49 ga _ _ C HZa.out.1 (by simp [hC, zeroE_len]) HEC.out.one
        have hCa : Cel (V49.setRow ga C.toArray) ga C := setRow_heap V49 ga _ _ _ _ HZa.out.1
        have hZb := HZb.out.1.put_other (g' := ga) (fun e => hab e.symm) C.toArray
        have hb1 : Below B V49 (V49.setRow ga C.toArray) := below_setRow (Below.refl _ _) HZa.out.2 _
        generalize V49.setRow ga C.toArray = X1 at *
        have hst2 := store_row X1 gb _ _ D hZb (by simp [hD, zeroE_len]) HED.out.one
        have HCb : Hid (Cel (X1.setRow gb D.toArray) gb D) := setRow_heap X1 gb _ _ _ _ hZb
        have HCa : Hid (Cel (X1.setRow gb D.toArray) ga C) := hCa.put_other (g' := gb) hab D.toArray
        have hb2 : Below B X1 (X1.setRow gb D.toArray) := below_setRow (Below.refl _ _) HZb.out.2 _
        generalize X1.setRow gb D.toArray = X2 at *
        replace HS := hidup ((HS.out.on hb1 LS).on hb2 LS)
        clear hCa hZb
        refine sched_end (G := Below B) (fun _ => Below.refl _ _) (fun _ _ _ h k => Below.trans h k) (by kernel_rfl) [(11, false), (12, false)] rfl (by kernel_rfl) ?_
        intro KM hKM
        go_simp
        refine sched_put rfl (by rfl) (w' := X1) (by go_simp) hb1 ?_
        go_simp
        refine sched_put rfl (by rfl) (w' := X2) (by go_simp) hb2 ?_
        go_simp
        exact hKM.out _ _ ⟨rfl, ga, gb, c0, c1, C, D, rfl, HEC, HED, HCa, HCb, HS⟩
    · refine ⟨_, rfl, by rfl, oper_val (v := .pointer (some ⟨W.heap.size, 0, none⟩)) (w' := W.alloc (.cells zeroE.toArray 28)) (by go_simp; rfl) ⟨(Below.refl _ _).alloc HBs.out _, ?_⟩⟩
      have hb : Below W.heap.size W (W.alloc (.cells zeroE.toArray 28)) := (Below.refl _ _).alloc (Nat.le_refl _) _
      have HZb : Hid (Cel (W.alloc (.cells zeroE.toArray 28)) W.heap.size zeroE ∧ B ≤ W.heap.size) := ⟨Cel.new W zeroE, HBs.out⟩
      replace HBs : Hid (B ≤ (W.alloc (.cells zeroE.toArray 28)).heap.size) := Nat.le_trans HBs.out hb.size
      replace HS := hidup (HS.out.later hb)
      clear hb
      generalize W.alloc (.cells zeroE.toArray 28) = V50 at *
      generalize W.heap.size = gb at *
      refine sched_fork [2, 9] (by kernel_rfl) rfl ?_
      intro i hi
      simp only [List.mem_cons, List.not_mem_nil, or_false] at hi
      rcases hi with rfl | rfl
      · refine ⟨_, rfl, by rfl, oper_call (f := 8) (args := #[.agg (l0.map bv).toArray]) (by go_simp) ?_⟩
        refine (HXF.out V50).mono ?_
        rintro e V51 ⟨c0, rfl, he, hb⟩
        refine ⟨_, rfl, hb.mono HBs.out, ?_⟩
        have Hc0 : Hid (Elm c0 x) := he
        replace HBs : Hid (B ≤ V51.heap.size) := Nat.le_trans HBs.out hb.size
        replace HS := hidup (HS.out.later hb)
        replace HZb := hidup (And.intro (HZb.out.1.later hb) HZb.out.2)
        clear hb he
        refine sched_fork [4, 9] (by kernel_rfl) rfl ?_
        intro i hi
        simp only [List.mem_cons, List.not_mem_nil, or_false] at hi
        rcases hi with rfl | rfl
        · refine ⟨_, rfl, by rfl, oper_call (f := 8) (args := #[.agg (l1.map bv).toArray]) (by go_simp) ?_⟩
          refine (HYF.out V51).mono ?_
          rintro e V52 ⟨c1, rfl, he, hb⟩
          refine ⟨_, rfl, hb.mono HBs.out, ?_⟩
          have Hc1 : Hid (Elm c1 y) := he
          replace HBs : Hid (B ≤ V52.heap.size) := Nat.le_trans HBs.out hb.size
          replace HS := hidup (HS.out.later hb)
          replace HZb := hidup (And.intro (HZb.out.1.later hb) HZb.out.2)
          clear hb he
          refine sched_fork [5, 9] (by kernel_rfl) rfl ?_
          intro i hi
          simp only [List.mem_cons, List.not_mem_nil, or_false] at hi
          rcases hi with rfl | rfl
          · refine ⟨_, rfl, by rfl, oper_call (f := 16) (args := #[.bool is, .agg c0.toArray, .agg c1.toArray]) (by go_simp) ?_⟩
            refine (fswap_any is c0 c1 x y V52 Hc0.out Hc1.out).mono ?_
            rintro e V53 ⟨C, D, rfl, he1, he2, hb⟩
            refine ⟨_, rfl, hb.mono HBs.out, ?_⟩
            have HEC : Hid (Elm C (if is then y else x)) := he1
            have HED : Hid (Elm D (if is then x else y)) := he2
            replace HBs : Hid (B ≤ V53.heap.size) := Nat.le_trans HBs.out hb.size
            replace HS := hidup (HS.out.later hb)
            replace HZb := hidup (And.intro (HZb.out.1.later hb) HZb.out.2)
            clear hb he1 he2
            refine sched_mid (G := Below B) (fun _ => Below.refl _ _) (fun _ _ _ h k => Below.trans h k) (by kernel_rfl) [(6, true), (7, true), (8, true)] 3 #[true, true, true, true, true, true, true, true, true, false, true, false, false] rfl (by kernel_rfl) ?_
            intro KM hKM
            go_simp
            iterate 3 (refine sched_take rfl (by rfl) (v := ?_) ?_ ?_; rotate_left; (intro w' hw'; clear hw'; go_simp; with_reducible rfl); go_simp)
            refine hKM.out _ _ ?_
            clear hKM
            refine sched_fork [9] (by kernel_rfl) rfl ?_
            intro i hi
            simp only [List.mem_cons, List.not_mem_nil, or_false] at hi
            subst hi
            refine ⟨_, rfl, by rfl, oper_val (v := .pointer (some ⟨V53.heap.size, 0, none⟩)) (w' := V53.alloc (.cells zeroE.toArray 28)) (by go_simp; rfl) ⟨(Below.refl _ _).alloc HBs.out _, ?_⟩⟩
            have hb : Below V53.heap.size V53 (V53.alloc (.cells zeroE.toArray 28)) := (Below.refl _ _).alloc (Nat.le_refl _) _
            have HN : Hid (V53.heap.size ≠ gb) := by have := HZb.out.1.lt; show _ ≠ _; omega
            replace HZb := hidup (And.intro (HZb.out.1.later hb) HZb.out.2)
            have HZa : Hid (Cel (V53.alloc (.cells zeroE.toArray 28)) V53.heap.size zeroE ∧ B ≤ V53.heap.size) := ⟨Cel.new V53 zeroE, HBs.out⟩
            replace HBs : Hid (B ≤ (V53.alloc (.cells zeroE.toArray 28)).heap.size) := Nat.le_trans HBs.out hb.size
            replace HS := hidup (HS.out.later hb)
            clear hb
            generalize V53.alloc (.cells zeroE.toArray 28) = V54 at *
            generalize V53.heap.size = ga at *
            have hC := HEC.out.len
            have hD := HED.out.len
            have hab : ga ≠ gb := HN.out
            have hst1 := store_row V54 ga _ _ C HZa.out.1 (by simp [hC, zeroE_len]) HEC.out.one
            have hCa : Cel (V54.setRow ga C.toArray) ga C := setRow_heap V54 ga _ _ _ _ HZa.out.1
            have hZb := HZb.out.1.put_other (g' := ga) (fun e => hab e.symm) C.toArray
            have hb1 : Below B V54 (V54.setRow ga C.toArray) := below_setRow (Below.refl _ _) HZa.out.2 _
            generalize V54.setRow ga C.toArray = X1 at *
            have hst2 := store_row X1 gb _ _ D hZb (by simp [hD, zeroE_len]) HED.out.one
            have HCb : Hid (Cel (X1.setRow gb D.toArray) gb D) := setRow_heap X1 gb _ _ _ _ hZb
            have HCa : Hid (Cel (X1.setRow gb D.toArray) ga C) := hCa.put_other (g' := gb) hab D.toArray
            have hb2 : Below B X1 (X1.setRow gb D.toArray) := below_setRow (Below.refl _ _) HZb.out.2 _
            generalize X1.setRow gb D.toArray = X2 at *
            replace HS := hidup ((HS.out.on hb1 LS).on hb2 LS)
            clear hCa hZb
            refine sched_end (G := Below B) (fun _ => Below.refl _ _) (fun _ _ _ h k => Below.trans h k) (by kernel_rfl) [(11, false), (12, false)] rfl (by kernel_rfl) ?_
            intro KM hKM
            go_simp
            refine sched_put rfl (by rfl) (w' := X1) (by go_simp) hb1 ?_
            go_simp
            refine sched_put rfl (by rfl) (w' := X2) (by go_simp) hb2 ?_
            go_simp
            exact hKM.out _ _ ⟨rfl, ga, gb, c0, c1, C, D, rfl, HEC, HED, HCa, HCb, HS⟩
          · refine ⟨_, rfl, by rfl, oper_val (v := .pointer (some ⟨V52.heap.size, 0, none⟩)) (w' := V52.alloc (.cells zeroE.toArray 28)) (by go_simp; rfl) ⟨(Below.refl _ _).alloc HBs.out _, ?_⟩⟩
            have hb : Below V52.heap.size V52 (V52.alloc (.cells zeroE.toArray 28)) := (Below.refl _ _).alloc (Nat.le_refl _) _
            have HN : Hid (V52.heap.size ≠ gb) := by have := HZb.out.1.lt; show _ ≠ _; omega
            replace HZb := hidup (And.intro (HZb.out.1.later hb) HZb.out.2)
            have HZa : Hid (Cel (V52.alloc (.cells zeroE.toArray 28)) V52.heap.size zeroE ∧ B ≤ V52.heap.size) := ⟨Cel.new V52 zeroE, HBs.out⟩
            replace HBs : Hid (B ≤ (V52.alloc (.cells zeroE.toArray 28)).heap.size) := Nat.le_trans HBs.out hb.size
            replace HS := hidup (HS.out.later hb)
            clear hb
            generalize V52.alloc (.cells zeroE.toArray 28) = V55 at *
            generalize V52.heap.size = ga at *
            refine sched_fork [5] (by kernel_rfl) rfl ?_
            intro i hi
            simp only [List.mem_cons, List.not_mem_nil, or_false] at hi
            subst hi
            refine ⟨_, rfl, by rfl, oper_call (f := 16) (args := #[.bool is, .agg c0.toArray, .agg c1.toArray]) (by go_simp) ?_⟩
            refine (fswap_any is c0 c1 x y V55 Hc0.out Hc1.out).mono ?_
            rintro e V56 ⟨C, D, rfl, he1, he2, hb⟩
            refine ⟨_, rfl, hb.mono HBs.out, ?_⟩
            have HEC : Hid (Elm C (if is then y else x)) := he1
            have HED : Hid (Elm D (if is then x else y)) := he2
            replace HBs : Hid (B ≤ V56.heap.size) := Nat.le_trans HBs.out hb.size
            replace HS := hidup (HS.out.later hb)
            replace HZa := hidup (And.intro (HZa.out.1.later hb) HZa.out.2)
            replace HZb := hidup (And.intro (HZb.out.1.later hb) HZb.out.2)
            clear hb he1 he2
            refine sched_mid (G := Below B) (fun _ => Below.refl _ _) (fun _ _ _ h k => Below.trans h k) (by kernel_rfl) [(6, true), (7, true), (8, true)] 2 #[true, true, true, true, true, true, true, true, true, true, true, false, false] rfl (by kernel_rfl) ?_
            intro KM hKM
            go_simp
            iterate 3 (refine sched_take rfl (by rfl) (v := ?_) ?_ ?_; rotate_left; (intro w' hw'; clear hw'; go_simp; with_reducible rfl); go_simp)
            refine hKM.out _ _ ?_
            clear hKM
            have hC := HEC.out.len
            have hD := HED.out.len
            have hab : ga ≠ gb := HN.out
            have hst1 := store_row V56 ga _ _ C HZa.out.1 (by simp [hC, zeroE_len]) HEC.out.one
            have hCa : Cel (V56.setRow ga C.toArray) ga C := setRow_heap V56 ga _ _ _ _ HZa.out.1
            have hZb := HZb.out.1.put_other (g' := ga) (fun e => hab e.symm) C.toArray
            have hb1 : Below B V56 (V56.setRow ga C.toArray) := below_setRow (Below.refl _ _) HZa.out.2 _
            generalize V56.setRow ga C.toArray = X1 at *
            have hst2 := store_row X1 gb _ _ D hZb (by simp [hD, zeroE_len]) HED.out.one
            have HCb : Hid (Cel (X1.setRow gb D.toArray) gb D) := setRow_heap X1 gb _ _ _ _ hZb
            have HCa : Hid (Cel (X1.setRow gb D.toArray) ga C) := hCa.put_other (g' := gb) hab D.toArray
            have hb2 : Below B X1 (X1.setRow gb D.toArray) := below_setRow (Below.refl _ _) HZb.out.2 _
            generalize X1.setRow gb D.toArray = X2 at *
            replace HS := hidup ((HS.out.on hb1 LS).on hb2 LS)
            clear hCa hZb
            refine sched_end (G := Below B) (fun _ => Below.refl _ _) (fun _ _ _ h k => Below.trans h k) (by kernel_rfl) [(11, false), (12, false)] rfl (by kernel_rfl) ?_
            intro KM hKM
            go_simp
            refine sched_put rfl (by rfl) (w' := X1) (by go_simp) hb1 ?_
            go_simp
            refine sched_put rfl (by rfl) (w' := X2) (by go_simp) hb2 ?_
            go_simp
            exact hKM.out _ _ ⟨rfl, ga, gb, c0, c1, C, D, rfl, HEC, HED, HCa, HCb, HS⟩
        · refine ⟨_, rfl, by rfl, oper_val (v := .pointer (some ⟨V51.heap.size, 0, none⟩)) (w' := V51.alloc (.cells zeroE.toArray 28)) (by go_simp; rfl) ⟨(Below.refl _ _).alloc HBs.out _, ?_⟩⟩
          have hb : Below V51.heap.size V51 (V51.alloc (.cells zeroE.toArray 28)) := (Below.refl _ _).alloc (Nat.le_refl _) _
          have HN : Hid (V51.heap.size ≠ gb) := by have := HZb.out.1.lt; show _ ≠ _; omega
          replace HZb := hidup (And.intro (HZb.out.1.later hb) HZb.out.2)
          have HZa : Hid (Cel (V51.alloc (.cells zeroE.toArray 28)) V51.heap.size zeroE ∧ B ≤ V51.heap.size) := ⟨Cel.new V51 zeroE, HBs.out⟩
          replace HBs : Hid (B ≤ (V51.alloc (.cells zeroE.toArray 28)).heap.size) := Nat.le_trans HBs.out hb.size
          replace HS := hidup (HS.out.later hb)
          clear hb
          generalize V51.alloc (.cells zeroE.toArray 28) = V57 at *
          generalize V51.heap.size = ga at *
          refine sched_fork [4] (by kernel_rfl) rfl ?_
          intro i hi
          simp only [List.mem_cons, List.not_mem_nil, or_false] at hi
          subst hi
          refine ⟨_, rfl, by rfl, oper_call (f := 8) (args := #[.agg (l1.map bv).toArray]) (by go_simp) ?_⟩
          refine (HYF.out V57).mono ?_
          rintro e V58 ⟨c1, rfl, he, hb⟩
          refine ⟨_, rfl, hb.mono HBs.out, ?_⟩
          have Hc1 : Hid (Elm c1 y) := he
          replace HBs : Hid (B ≤ V58.heap.size) := Nat.le_trans HBs.out hb.size
          replace HS := hidup (HS.out.later hb)
          replace HZa := hidup (And.intro (HZa.out.1.later hb) HZa.out.2)
          replace HZb := hidup (And.intro (HZb.out.1.later hb) HZb.out.2)
          clear hb he
          refine sched_fork [5] (by kernel_rfl) rfl ?_
          intro i hi
          simp only [List.mem_cons, List.not_mem_nil, or_false] at hi
          subst hi
          refine ⟨_, rfl, by rfl, oper_call (f := 16) (args := #[.bool is, .agg c0.toArray, .agg c1.toArray]) (by go_simp) ?_⟩
          refine (fswap_any is c0 c1 x y V58 Hc0.out Hc1.out).mono ?_
          rintro e V59 ⟨C, D, rfl, he1, he2, hb⟩
          refine ⟨_, rfl, hb.mono HBs.out, ?_⟩
          have HEC : Hid (Elm C (if is then y else x)) := he1
          have HED : Hid (Elm D (if is then x else y)) := he2
          replace HBs : Hid (B ≤ V59.heap.size) := Nat.le_trans HBs.out hb.size
          replace HS := hidup (HS.out.later hb)
          replace HZa := hidup (And.intro (HZa.out.1.later hb) HZa.out.2)
          replace HZb := hidup (And.intro (HZb.out.1.later hb) HZb.out.2)
          clear hb he1 he2
          refine sched_mid (G := Below B) (fun _ => Below.refl _ _) (fun _ _ _ h k => Below.trans h k) (by kernel_rfl) [(6, true), (7, true), (8, true)] 2 #[true, true, true, true, true, true, true, true, true, true, true, false, false] rfl (by kernel_rfl) ?_
          intro KM hKM
          go_simp
          iterate 3 (refine sched_take rfl (by rfl) (v := ?_) ?_ ?_; rotate_left; (intro w' hw'; clear hw'; go_simp; with_reducible rfl); go_simp)
          refine hKM.out _ _ ?_
          clear hKM
          have hC := HEC.out.len
          have hD := HED.out.len
          have hab : ga ≠ gb := HN.out
          have hst1 := store_row V59 ga _ _ C HZa.out.1 (by simp [hC, zeroE_len]) HEC.out.one
          have hCa : Cel (V59.setRow ga C.toArray) ga C := setRow_heap V59 ga _ _ _ _ HZa.out.1
          have hZb := HZb.out.1.put_other (g' := ga) (fun e => hab e.symm) C.toArray
          have hb1 : Below B V59 (V59.setRow ga C.toArray) := below_setRow (Below.refl _ _) HZa.out.2 _
          generalize V59.setRow ga C.toArray = X1 at *
          have hst2 := store_row X1 gb _ _ D hZb (by simp [hD, zeroE_len]) HED.out.one
          have HCb : Hid (Cel (X1.setRow gb D.toArray) gb D) := setRow_heap X1 gb _ _ _ _ hZb
          have HCa : Hid (Cel (X1.setRow gb D.toArray) ga C) := hCa.put_other (g' := gb) hab D.toArray
          have hb2 : Below B X1 (X1.setRow gb D.toArray) := below_setRow (Below.refl _ _) HZb.out.2 _
          generalize X1.setRow gb D.toArray = X2 at *
          replace HS := hidup ((HS.out.on hb1 LS).on hb2 LS)
          clear hCa hZb
          refine sched_end (G := Below B) (fun _ => Below.refl _ _) (fun _ _ _ h k => Below.trans h k) (by kernel_rfl) [(11, false), (12, false)] rfl (by kernel_rfl) ?_
          intro KM hKM
          go_simp
          refine sched_put rfl (by rfl) (w' := X1) (by go_simp) hb1 ?_
          go_simp
          refine sched_put rfl (by rfl) (w' := X2) (by go_simp) hb2 ?_
          go_simp
          exact hKM.out _ _ ⟨rfl, ga, gb, c0, c1, C, D, rfl, HEC, HED, HCa, HCb, HS⟩
      · refine ⟨_, rfl, by rfl, oper_val (v := .pointer (some ⟨V50.heap.size, 0, none⟩)) (w' := V50.alloc (.cells zeroE.toArray 28)) (by go_simp; rfl) ⟨(Below.refl _ _).alloc HBs.out _, ?_⟩⟩
        have hb : Below V50.heap.size V50 (V50.alloc (.cells zeroE.toArray 28)) := (Below.refl _ _).alloc (Nat.le_refl _) _
        have HN : Hid (V50.heap.size ≠ gb) := by have := HZb.out.1.lt; show _ ≠ _; omega
        replace HZb := hidup (And.intro (HZb.out.1.later hb) HZb.out.2)
        have HZa : Hid (Cel (V50.alloc (.cells zeroE.toArray 28)) V50.heap.size zeroE ∧ B ≤ V50.heap.size) := ⟨Cel.new V50 zeroE, HBs.out⟩
        replace HBs : Hid (B ≤ (V50.alloc (.cells zeroE.toArray 28)).heap.size) := Nat.le_trans HBs.out hb.size
        replace HS := hidup (HS.out.later hb)
        clear hb
        generalize V50.alloc (.cells zeroE.toArray 28) = V60 at *
        generalize V50.heap.size = ga at *
        refine sched_fork [2] (by kernel_rfl) rfl ?_
        intro i hi
        simp only [List.mem_cons, List.not_mem_nil, or_false] at hi
        subst hi
        refine ⟨_, rfl, by rfl, oper_call (f := 8) (args := #[.agg (l0.map bv).toArray]) (by go_simp) ?_⟩
        refine (HXF.out V60).mono ?_
        rintro e V61 ⟨c0, rfl, he, hb⟩
        refine ⟨_, rfl, hb.mono HBs.out, ?_⟩
        have Hc0 : Hid (Elm c0 x) := he
        replace HBs : Hid (B ≤ V61.heap.size) := Nat.le_trans HBs.out hb.size
        replace HS := hidup (HS.out.later hb)
        replace HZa := hidup (And.intro (HZa.out.1.later hb) HZa.out.2)
        replace HZb := hidup (And.intro (HZb.out.1.later hb) HZb.out.2)
        clear hb he
        refine sched_fork [4] (by kernel_rfl) rfl ?_
        intro i hi
        simp only [List.mem_cons, List.not_mem_nil, or_false] at hi
        subst hi
        refine ⟨_, rfl, by rfl, oper_call (f := 8) (args := #[.agg (l1.map bv).toArray]) (by go_simp) ?_⟩
        refine (HYF.out V61).mono ?_
        rintro e V62 ⟨c1, rfl, he, hb⟩
        refine ⟨_, rfl, hb.mono HBs.out, ?_⟩
        have Hc1 : Hid (Elm c1 y) := he
        replace HBs : Hid (B ≤ V62.heap.size) := Nat.le_trans HBs.out hb.size
        replace HS := hidup (HS.out.later hb)
        replace HZa := hidup (And.intro (HZa.out.1.later hb) HZa.out.2)
        replace HZb := hidup (And.intro (HZb.out.1.later hb) HZb.out.2)
        clear hb he
        refine sched_fork [5] (by kernel_rfl) rfl ?_
        intro i hi
        simp only [List.mem_cons, List.not_mem_nil, or_false] at hi
        subst hi
        refine ⟨_, rfl, by rfl, oper_call (f := 16) (args := #[.bool is, .agg c0.toArray, .agg c1.toArray]) (by go_simp) ?_⟩
        refine (fswap_any is c0 c1 x y V62 Hc0.out Hc1.out).mono ?_
        rintro e V63 ⟨C, D, rfl, he1, he2, hb⟩
        refine ⟨_, rfl, hb.mono HBs.out, ?_⟩
        have HEC : Hid (Elm C (if is then y else x)) := he1
        have HED : Hid (Elm D (if is then x else y)) := he2
        replace HBs : Hid (B ≤ V63.heap.size) := Nat.le_trans HBs.out hb.size
        replace HS := hidup (HS.out.later hb)
        replace HZa := hidup (And.intro (HZa.out.1.later hb) HZa.out.2)
        replace HZb := hidup (And.intro (HZb.out.1.later hb) HZb.out.2)
        clear hb he1 he2
        refine sched_mid (G := Below B) (fun _ => Below.refl _ _) (fun _ _ _ h k => Below.trans h k) (by kernel_rfl) [(6, true), (7, true), (8, true)] 2 #[true, true, true, true, true, true, true, true, true, true, true, false, false] rfl (by kernel_rfl) ?_
        intro KM hKM
        go_simp
        iterate 3 (refine sched_take rfl (by rfl) (v := ?_) ?_ ?_; rotate_left; (intro w' hw'; clear hw'; go_simp; with_reducible rfl); go_simp)
        refine hKM.out _ _ ?_
        clear hKM
        have hC := HEC.out.len
        have hD := HED.out.len
        have hab : ga ≠ gb := HN.out
        have hst1 := store_row V63 ga _ _ C HZa.out.1 (by simp [hC, zeroE_len]) HEC.out.one
        have hCa : Cel (V63.setRow ga C.toArray) ga C := setRow_heap V63 ga _ _ _ _ HZa.out.1
        have hZb := HZb.out.1.put_other (g' := ga) (fun e => hab e.symm) C.toArray
        have hb1 : Below B V63 (V63.setRow ga C.toArray) := below_setRow (Below.refl _ _) HZa.out.2 _
        generalize V63.setRow ga C.toArray = X1 at *
        have hst2 := store_row X1 gb _ _ D hZb (by simp [hD, zeroE_len]) HED.out.one
        have HCb : Hid (Cel (X1.setRow gb D.toArray) gb D) := setRow_heap X1 gb _ _ _ _ hZb
        have HCa : Hid (Cel (X1.setRow gb D.toArray) ga C) := hCa.put_other (g' := gb) hab D.toArray
        have hb2 : Below B X1 (X1.setRow gb D.toArray) := below_setRow (Below.refl _ _) HZb.out.2 _
        generalize X1.setRow gb D.toArray = X2 at *
        replace HS := hidup ((HS.out.on hb1 LS).on hb2 LS)
        clear hCa hZb
        refine sched_end (G := Below B) (fun _ => Below.refl _ _) (fun _ _ _ h k => Below.trans h k) (by kernel_rfl) [(11, false), (12, false)] rfl (by kernel_rfl) ?_
        intro KM hKM
        go_simp
        refine sched_put rfl (by rfl) (w' := X1) (by go_simp) hb1 ?_
        go_simp
        refine sched_put rfl (by rfl) (w' := X2) (by go_simp) hb2 ?_
        go_simp
        exact hKM.out _ _ ⟨rfl, ga, gb, c0, c1, C, D, rfl, HEC, HED, HCa, HCb, HS⟩
  · rintro a W0 ⟨ga, gb, c0, c1, C, D, rfl, HEC, HED, HCa, HCb, HS⟩
    (try dsimp only)
    go_wp2_with (first | refine wpList_load_row rfl 23 _ rfl w.heap.size rfl 23 _ (0, 0) _ HS.out.k0 Try.underlying23 rfl (hI.out l0 w0) ?_ | fail)
    refine (HXF.out W0).mono ?_
    rintro e W1 ⟨cx, rfl, he, hb⟩
    have HEx : Hid (Elm cx x) := he
    replace HS := hidup (HS.out.later hb)
    replace HCa := hidup (HCa.out.later hb)
    replace HCb := hidup (HCb.out.later hb)
    clear he hb
    go_wp2_with fail
    refine (fbytes_any cx x W1 HEx.out).mono ?_
    rintro e V2 ⟨rfl, hb⟩
    have hst := run_store_arr V2 23 (leB 32 x) 32 (leB_length _ _) (by kernel_rfl) zero32K (by kernel_rfl)
    have hA := Arr.new V2 23 (leB 32 x)
    have hb2 : Below W1.heap.size W1 (V2.alloc (.cells ((leB 32 x).map bv).toArray 23)) := hb.alloc hb.size _
    obtain ⟨W2, hW2⟩ : ∃ W2, V2.alloc (.cells ((leB 32 x).map bv).toArray 23) = W2 := ⟨_, rfl⟩
    rw [hW2] at hst hA hb2
    simp only [zero32K, List.replicate] at hst
    replace HS := hidup (HS.out.later hb2)
    replace HCa := hidup (HCa.out.later hb2)
    replace HCb := hidup (HCb.out.later hb2)
    have HP : Hid (Arr W2 V2.heap.size 23 (leB 32 x)) := hA
    clear hb hb2 hA hW2
    go_wp2_with (first | refine wpList_load_row rfl 23 _ rfl (w.heap.size + 1) rfl 23 _ (0, 0) _ HS.out.k1 Try.underlying23 rfl (hI.out l1 w1) ?_ | fail)
    clear hst
    generalize V2.heap.size = gp at *
    refine (HYF.out W2).mono ?_
    rintro e W3 ⟨cy, rfl, he, hb⟩
    have HEy : Hid (Elm cy y) := he
    replace HS := hidup (HS.out.later hb)
    replace HCa := hidup (HCa.out.later hb)
    replace HCb := hidup (HCb.out.later hb)
    replace HP := hidup (HP.out.later hb)
    clear he hb
    go_wp2_with fail
    refine (fbytes_any cy y W3 HEy.out).mono ?_
    rintro e V4 ⟨rfl, hb⟩
    have hst := run_store_arr V4 23 (leB 32 y) 32 (leB_length _ _) (by kernel_rfl) zero32K (by kernel_rfl)
    have hA := Arr.new V4 23 (leB 32 y)
    have hb2 : Below W3.heap.size W3 (V4.alloc (.cells ((leB 32 y).map bv).toArray 23)) := hb.alloc hb.size _
    obtain ⟨W4, hW4⟩ : ∃ W4, V4.alloc (.cells ((leB 32 y).map bv).toArray 23) = W4 := ⟨_, rfl⟩
    rw [hW4] at hst hA hb2
    simp only [zero32K, List.replicate] at hst
    have hdr : Below W4.heap.size W4 W4.drew := (Below.refl _ _).drew
    replace HS := hidup ((HS.out.later hb2).later hdr)
    replace HCa := hidup ((HCa.out.later hb2).later hdr)
    replace HCb := hidup ((HCb.out.later hb2).later hdr)
    replace HP := hidup ((HP.out.later hb2).later hdr)
    have HQ : Hid (Arr W4.drew V4.heap.size 23 (leB 32 y)) := hA.later hdr
    clear hb hb2 hA hW4 hdr HEx HEy HXF HYF
    cases is
    · -- as they were
      have HE1 : Hid (Elm C x) := HEC.out
      have HE2 : Hid (Elm D y) := HED.out
      clear HEC HED
      go_wp2_with fail
      clear hst
      generalize V4.heap.size = gq at *
      obtain ⟨W, hWd⟩ : ∃ W, W4.drew = W := ⟨_, rfl⟩
      have HWd : Hid (W4.drew = W) := hWd
      rw [hWd] at HS HCa HCb HP HQ
      clear hWd
      refine wp_region_sched' (G := Grows) (by kernel_rfl) Grows.refl Grows.trans (by kernel_rfl) [(0, true), (1, true), (2, true), (4, true), (3, false), (5, true), (6, true), (7, true), (8, true), (10, true), (9, false), (11, true), (12, true), (13, true)] rfl (by kernel_rfl) ?_
      intro KK hKK
      rw [HWd.out]
      clear HWd
      iterate 2 (refine sched_take rfl (by rfl) (v := ?_) ?_ ?_; rotate_left; (intro w' hw'; clear hw'; go_simp; with_reducible rfl); go_simp)
      refine sched_take rfl (by rfl) (v := .agg C.toArray) (fun w' hw' => exec_load_row 28 _ rfl ga rfl 28 _ (0, 0) _ (HCa.out.later hw') Try.underlying28 rfl (elm_info HE1.out)) ?_
      go_simp
      refine sched_take rfl (by rfl) (v := .agg ((leB 32 x).map bv).toArray) (fun w' hw' => exec_load_row 23 _ rfl gp rfl 23 _ (0, 0) _ (HP.out.later hw') Try.underlying23 rfl (hI.out _ (leB_length _ _))) ?_
      go_simp
      refine sched_call (f := 11) (args := #[.agg C.toArray]) rfl (by rfl) (by go_simp) ?_
      refine (fbytes_any C x W HE1.out).mono ?_
      rintro e W6 ⟨rfl, hb⟩
      refine ⟨_, rfl, hb, ?_⟩
      replace HS := hidup (HS.out.later hb)
      replace HCb := hidup (HCb.out.later hb)
      replace HQ := hidup (HQ.out.later hb)
      clear hb
      go_simp
      refine sched_take rfl (by rfl) (v := ?_) ?_ ?_; rotate_left; (intro w' hw'; clear hw'; have q1 := key_same w' x x rfl; go_simp; with_reducible rfl); go_simp
      iterate 2 (refine sched_take rfl (by rfl) (v := ?_) ?_ ?_; rotate_left; (intro w' hw'; clear hw'; go_simp; with_reducible rfl); go_simp)
      refine sched_take rfl (by rfl) (v := .agg D.toArray) (fun w' hw' => exec_load_row 28 _ rfl gb rfl 28 _ (0, 0) _ (HCb.out.later hw') Try.underlying28 rfl (elm_info HE2.out)) ?_
      go_simp
      refine sched_take rfl (by rfl) (v := .agg ((leB 32 y).map bv).toArray) (fun w' hw' => exec_load_row 23 _ rfl gq rfl 23 _ (0, 0) _ (HQ.out.later hw') Try.underlying23 rfl (hI.out _ (leB_length _ _))) ?_
      go_simp
      refine sched_call (f := 11) (args := #[.agg D.toArray]) rfl (by rfl) (by go_simp) ?_
      refine (fbytes_any D y W6 HE2.out).mono ?_
      rintro e W7 ⟨rfl, hb⟩
      refine ⟨_, rfl, hb, ?_⟩
      replace HS := hidup (HS.out.later hb)
      clear hb
      go_simp
      refine sched_take rfl (by rfl) (v := ?_) ?_ ?_; rotate_left; (intro w' hw'; clear hw'; have q1 := key_same w' y y rfl; go_simp; with_reducible rfl); go_simp
      iterate 2 (refine sched_take rfl (by rfl) (v := ?_) ?_ ?_; rotate_left; (intro w' hw'; clear hw'; go_simp; with_reducible rfl); go_simp)
      refine sched_done hKK ?_
      clear hKK
      (try go_wp2)
      go_ret
      exact ⟨rfl, HS.out.bel⟩
    · -- swapped
      have HE1 : Hid (Elm C y) := HEC.out
      have HE2 : Hid (Elm D x) := HED.out
      clear HEC HED
      go_wp2_with fail
      clear hst
      generalize V4.heap.size = gq at *
      obtain ⟨W, hWd⟩ : ∃ W, W4.drew = W := ⟨_, rfl⟩
      have HWd : Hid (W4.drew = W) := hWd
      rw [hWd] at HS HCa HCb HP HQ
      clear hWd
      refine wp_region_sched' (G := Grows) (by kernel_rfl) Grows.refl Grows.trans (by kernel_rfl) [(0, true), (1, true), (2, true), (4, true), (3, false), (5, true), (6, true), (7, true), (8, true), (10, true), (9, false), (11, true), (12, true), (13, true)] rfl (by kernel_rfl) ?_
      intro KK hKK
      rw [HWd.out]
      clear HWd
      iterate 2 (refine sched_take rfl (by rfl) (v := ?_) ?_ ?_; rotate_left; (intro w' hw'; clear hw'; go_simp; with_reducible rfl); go_simp)
      refine sched_take rfl (by rfl) (v := .agg C.toArray) (fun w' hw' => exec_load_row 28 _ rfl ga rfl 28 _ (0, 0) _ (HCa.out.later hw') Try.underlying28 rfl (elm_info HE1.out)) ?_
      go_simp
      refine sched_take rfl (by rfl) (v := .agg ((leB 32 y).map bv).toArray) (fun w' hw' => exec_load_row 23 _ rfl gq rfl 23 _ (0, 0) _ (HQ.out.later hw') Try.underlying23 rfl (hI.out _ (leB_length _ _))) ?_
      go_simp
      refine sched_call (f := 11) (args := #[.agg C.toArray]) rfl (by rfl) (by go_simp) ?_
      refine (fbytes_any C y W HE1.out).mono ?_
      rintro e W6 ⟨rfl, hb⟩
      refine ⟨_, rfl, hb, ?_⟩
      replace HS := hidup (HS.out.later hb)
      replace HCb := hidup (HCb.out.later hb)
      replace HP := hidup (HP.out.later hb)
      clear hb
      go_simp
      refine sched_take rfl (by rfl) (v := ?_) ?_ ?_; rotate_left; (intro w' hw'; clear hw'; have q1 := key_same w' y y rfl; go_simp; with_reducible rfl); go_simp
      iterate 2 (refine sched_take rfl (by rfl) (v := ?_) ?_ ?_; rotate_left; (intro w' hw'; clear hw'; go_simp; with_reducible rfl); go_simp)
      refine sched_take rfl (by rfl) (v := .agg D.toArray) (fun w' hw' => exec_load_row 28 _ rfl gb rfl 28 _ (0, 0) _ (HCb.out.later hw') Try.underlying28 rfl (elm_info HE2.out)) ?_
      go_simp
      refine sched_take rfl (by rfl) (v := .agg ((leB 32 x).map bv).toArray) (fun w' hw' => exec_load_row 23 _ rfl gp rfl 23 _ (0, 0) _ (HP.out.later hw') Try.underlying23 rfl (hI.out _ (leB_length _ _))) ?_
      go_simp
      refine sched_call (f := 11) (args := #[.agg D.toArray]) rfl (by rfl) (by go_simp) ?_
      refine (fbytes_any D x W6 HE2.out).mono ?_
      rintro e W7 ⟨rfl, hb⟩
      refine ⟨_, rfl, hb, ?_⟩
      replace HS := hidup (HS.out.later hb)
      clear hb
      go_simp
      refine sched_take rfl (by rfl) (v := ?_) ?_ ?_; rotate_left; (intro w' hw'; clear hw'; have q1 := key_same w' x x rfl; go_simp; with_reducible rfl); go_simp
      iterate 2 (refine sched_take rfl (by rfl) (v := ?_) ?_ ?_; rotate_left; (intro w' hw'; clear hw'; go_simp; with_reducible rfl); go_simp)
      refine sched_done hKK ?_
      clear hKK
      (try go_wp2)
      go_ret
      exact ⟨rfl, HS.out.bel⟩
end Go.Proofs.Ytgggdcliepgahaa.fieldSwaps
