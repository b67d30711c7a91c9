/- The walk over what must be in any case (cipher). -/
import Derived.Test.YtdancpcnjklifaaDoorCipCx
import Derived.Test.YtdancpcnjklifaaDoorCipEv
import Derived.Test.YtdancpcnjklifaaDoorShown
import Derived.Lib.SlBytesConst
namespace Go.Proofs.YtdancpcnjklifaaDoor
set_option linter.unusedVariables false
set_option maxRecDepth 100000
open Go.RowKit

def ciKey : List UInt8 := 1 :: List.replicate 31 0
/-- A place for a cipher: its store, and what lies there then. -/
theorem ci_place (w0 W : World) (hb : Below w0.heap.size w0 W) (key : List UInt8) (has : Bool) (n : Nat) (hk : key.length = 32) :
    ∃ W1, (storeCells ⟨W.heap.size, 0, none⟩ (CiV key has n)).run Tryd.prog (W.alloc (.cells ciZ 26)) = .ok () W1 ∧ CiIs W1 W.heap.size key has n ∧ Below W.heap.size W W1 ∧ Below w0.heap.size w0 W1 ∧ W1.heap.size = W.heap.size + 1 := by
  refine ⟨_, ci_store W key has n hk ciZ rfl, CiIs.new W key has n hk, (Below.refl _ _).alloc (Nat.le_refl _) _, hb.alloc hb.size _, World.size_alloc _ _⟩
set_option maxHeartbeats 4000000 in
theorem cipShown_any (w : World) (htab : Tab w) : Calls Tryd.prog 9 #[] w fun e w' => e = .returned (.bool true) ∧ Below w.heap.size w w' := by
  have kd0 : ∀ (W : World) (C : Array Value) (n c : Nat), (convert 29 29 (.slice (some ⟨W.heap.size, 0, none⟩) n c)).run Tryd.prog (W.alloc (.cells C 5)) = .ok (.slice (some ⟨W.heap.size, 0, none⟩) n c) (W.alloc (.cells C 5 (C.size, C.size + 1))) := fun W C n c =>
    Lib.run_convert_bytes_const (P := Tryd.prog) W 29 5 C n c Tryd.underlying29 Tryd.underlying5
  have kd1 : ∀ (W : World) (O : Obj) (C : Array Value) (n c : Nat), (convert 29 29 (.slice (some ⟨W.heap.size + 1, 0, none⟩) n c)).run Tryd.prog ((W.alloc O).alloc (.cells C 5)) = .ok (.slice (some ⟨W.heap.size + 1, 0, none⟩) n c) ((W.alloc O).alloc (.cells C 5 (C.size, C.size + 1))) := fun W O C n c => by
    have := Lib.run_convert_bytes_const (P := Tryd.prog) (W.alloc O) 29 5 C n c Tryd.underlying29 Tryd.underlying5
    simpa using this
  have HTab := cipup htab
  have hkl : ciKey.length = 32 := rfl
  obtain ⟨K, hK⟩ : ∃ K, ciKey = K := ⟨_, rfl⟩
  have HK : Hid (K = 1 :: List.replicate 31 0) := hK.symm
  rw [hK] at hkl
  obtain ⟨W1, hst1, hC1, hb1, hw1, hs1⟩ := ci_place w w (Below.refl _ _) K true 0 hkl
  obtain ⟨W2, hst2, hC2, hb2, hw2, hs2⟩ := ci_place w W1 hw1 K true 0 hkl
  have HC1 := cipup hC1
  have HC12 := cipup (hC1.later hb2)
  have HC2 := cipup hC2
  have HW2 := cipup hw2
  simp only [ciZ] at hst1 hst2
  have hlen : (CiV K true 0).length = 34 := by rw [CiV_length, hkl]
  have hg12 : w.heap.size ≠ W1.heap.size := by omega
  have hs1' : w.heap.size < W1.heap.size := by omega
  have HL2 : Hid (W1.heap.size < W2.heap.size) := by show _ < _; omega
  clear hC1 hC2 hb1 hb2 hw1 hw2 hK htab hs1 hs2
  go_enter Tryd.func9, Tryd.ntmps9
  go_wp2_with (first | refine wpList_key1 1 K HK.out rfl (.const (.int .u8 1)) rfl rfl ?_ | refine wpList_ci2 K true hkl rfl (.tmp 12) (.const (.bool true)) rfl rfl rfl ?_ | refine wpList_load_row rfl 26 _ rfl w.heap.size rfl 26 _ (0, 0) _ HC1.out.row Tryd.underlying26 rfl (ci_info K true 0 hkl) ?_ | fail)
  clear hst1 hst2
  -- b, e := c.Seal("x", "abc")
  have hA1 : Byt ((W2.alloc (.cells #[.int .u8 120] 5 (1, 2))).alloc (.cells #[.int .u8 97, .int .u8 98, .int .u8 99] 5 (3, 4))) (some ⟨W2.heap.size, 0, none⟩) 1 [120] :=
    (byt_lit _ [120] _ _ _ (1, 2) (heap_alloc_new W2 _) rfl).later ((Below.refl _ _).alloc (Nat.le_refl _) _)
  have hB1 : Byt ((W2.alloc (.cells #[.int .u8 120] 5 (1, 2))).alloc (.cells #[.int .u8 97, .int .u8 98, .int .u8 99] 5 (3, 4))) (some ⟨W2.heap.size + 1, 0, none⟩) 3 [97, 98, 99] :=
    byt_lit _ [97, 98, 99] _ _ _ (3, 4) (by have := heap_alloc_new (W2.alloc (.cells #[.int .u8 120] 5 (1, 2))) (.cells #[.int .u8 97, .int .u8 98, .int .u8 99] 5 (3, 4)); rwa [World.size_alloc] at this) rfl
  have hbA : Below W2.heap.size W2 ((W2.alloc (.cells #[.int .u8 120] 5 (1, 2))).alloc (.cells #[.int .u8 97, .int .u8 98, .int .u8 99] 5 (3, 4))) := ((Below.refl _ _).alloc (Nat.le_refl _) _).alloc (by simp) _
  refine (cseal_any w.heap.size K true 0 (some ⟨W2.heap.size, 0, none⟩) 1 1 [120] (some ⟨W2.heap.size + 1, 0, none⟩) 3 3 [97, 98, 99] _ (HC12.out.later hbA) (by omega) hA1 (fun e => by cases e) (by omega) (by omega) (by unfold maxLen; omega) hB1 (fun e => by cases e) (by omega) (by omega) (by unfold maxLen; omega)).mono ?_
  rintro e w3 ⟨v3, rfl, hG3, hC3, own3⟩
  have hsl : (sOut K true 0 [120] [97, 98, 99]).length = 19 := by simp [sOut, lastN, sealB_length]
  obtain ⟨X, hX⟩ : ∃ X, sOut K true 0 [120] [97, 98, 99] = X := ⟨_, rfl⟩
  have HX := cipup hX
  rw [hX] at own3 hsl
  rw [hsl] at own3
  obtain ⟨a3, c3, rfl, hB3, hc3, hm3, hn3⟩ := own_parts own3
  have hg2l := HC2.out.lt
  have HC1_3 : Hid (CiIs w3 w.heap.size K true 1) := hC3
  have HC2_3 : Hid (CiIs w3 W1.heap.size K true 0) := (HC2.out.later hbA).but hG3 (fun e => hg12 e.symm)
  have HW3 : Hid (Below w.heap.size w w3) := (HW2.out.trans (hbA.mono HW2.out.size)).trans ⟨hG3.os, hG3.tape, hG3.output, hG3.size, fun k hk => hG3.block k (by have := HW2.out.size; simp; omega) (fun e => by cases e; omega)⟩
  have HB3 := cipup hB3
  have HS3 : Hid (W2.heap.size ≤ w3.heap.size) := Nat.le_trans hbA.size hG3.size
  have Hn3 := cipup hn3
  have Hm3 := cipup hm3
  clear hA1 hB1 hbA hG3 hC3 own3 hB3 hn3 hm3 hX HC12 HC2 HW2 HC1
  rw [show sErr true 0 = 0 from rfl]
  go_wp2_with fail
  -- x, f := d.Open("x", b)
  have hA4 : Byt (w3.alloc (.cells #[.int .u8 120] 5 (1, 2))) (some ⟨w3.heap.size, 0, none⟩) 1 [120] := byt_lit _ [120] _ _ _ (1, 2) (heap_alloc_new w3 _) rfl
  have hbA : Below w3.heap.size w3 (w3.alloc (.cells #[.int .u8 120] 5 (1, 2))) := (Below.refl _ _).alloc (Nat.le_refl _) _
  have hop := oOut_sOut K true 0 [120] [97, 98, 99] (by decide)
  rw [HX.out, show sNum true 0 = 1 from rfl] at hop
  obtain ⟨o1, o2, o3⟩ := hop
  refine (copen_any W1.heap.size K true 0 (some ⟨w3.heap.size, 0, none⟩) 1 1 [120] a3 19 c3 X _ (HC2_3.out.later hbA) (by omega) hA4 (fun e => by cases e) (by omega) (by omega) (by unfold maxLen; omega) (HB3.out.later hbA) Hn3.out (by omega) hc3 Hm3.out).mono ?_
  rintro e w4 ⟨a4, c4, rfl, hG4, hC4, hB4, hk4, _⟩
  rw [o1] at hB4 ⊢
  rw [o2]
  rw [o3] at hC4
  have HC1_4 : Hid (CiIs w4 w.heap.size K true 1) := (HC1_3.out.later hbA).but hG4 hg12
  have HC2_4 := cipup hC4
  have hw1l : w.heap.size ≤ W1.heap.size := by omega
  have HW4 : Hid (Below w.heap.size w w4) := (HW3.out.trans (hbA.mono HW3.out.size)).trans ⟨hG4.os, hG4.tape, hG4.output, hG4.size, fun k hk => hG4.block k (by have := HW3.out.size; simp; omega) (fun e => by cases e; omega)⟩
  have HB4 : Hid (Byt w4 a4 3 [97, 98, 99]) := hB4
  have HK4 : Hid (∀ j, blockOf a4 = some j → W2.heap.size ≤ j) := fun j hj => by
    have := hk4 j hj
    have h1 := hbA.size
    have h2 := HS3.out
    omega
  clear hk4 hA4 hbA o1 o2 o3 hG4 hC4 hB4 HC1_3 HC2_3 HW3 HB3 Hn3 Hm3 HX
  simp only [List.length_cons, List.length_nil]
  have hn5 := HC1_4.out.num
  obtain ⟨q1, q2⟩ := hn5
  go_wp2_with fail
  -- c.Seal(nil, nil), behind the last number
  have hG5 : w4.grownBy (w4.setCell ⟨w.heap.size, 33, none⟩ (.int .u64 18446744073709551615)) (some w.heap.size) := But.setCell w4 _ _ _
  have hC5 : CiIs (w4.setCell ⟨w.heap.size, 33, none⟩ (.int .u64 18446744073709551615)) w.heap.size K true 18446744073709551615 := HC1_4.out.setN 18446744073709551615
  obtain ⟨w5, hw5⟩ : ∃ W, w4.setCell ⟨w.heap.size, 33, none⟩ (.int .u64 18446744073709551615) = W := ⟨_, rfl⟩
  rw [hw5] at hG5 hC5
  rw [hw5]
  have hsW2 : w.heap.size < W2.heap.size := Nat.lt_trans hs1' HL2.out
  have hB5 := byt_new HB4.out hG5 HK4.out hsW2
  have HC2_5 := cipup (HC2_4.out.but hG5 (fun e => hg12 e.symm))
  have HW5 : Hid (Below w.heap.size w w5) := HW4.out.trans ⟨hG5.os, hG5.tape, hG5.output, hG5.size, fun k hk => hG5.block k (by have := HW4.out.size; omega) (fun e => by cases e; omega)⟩
  refine (cseal_any w.heap.size K true 18446744073709551615 none 0 0 [] none 0 0 [] w5 hC5 (by omega) ⟨rfl, .inl rfl⟩ (fun _ => rfl) (by omega) (by omega) (by unfold maxLen; omega) ⟨rfl, .inl rfl⟩ (fun _ => rfl) (by omega) (by omega) (by unfold maxLen; omega)).mono ?_
  rintro e w6 ⟨v6, rfl, hG6, _, _⟩
  have hB6 := byt_new hB5 hG6 HK4.out hsW2
  have HB6 := cipup hB6
  have HC2_6 := cipup (HC2_5.out.but hG6 (fun e => hg12 e.symm))
  have HW6 : Hid (Below w.heap.size w w6) := HW5.out.trans ⟨hG6.os, hG6.tape, hG6.output, hG6.size, fun k hk => hG6.block k (by have := HW5.out.size; omega) (fun e => by cases e; omega)⟩
  have HK6 : Hid (∀ j, blockOf a4 = some j → j < w6.heap.size ∨ 3 = 0) := fun j _ => by
    rcases hB6.2 with h0 | ⟨b, off, rfl, hc⟩
    · omega
    · exact .inl (by
        have := World.block_lt_of_cell? w6 _ (hc 0 (by omega))
        rename_i hj
        cases hj
        exact this)
  rw [show sErr true 18446744073709551615 = 5 from rfl]
  clear hG5 hC5 hw5 hB5 hG6 hB6 HC2_5 HW5 HC1_4 HC2_4 HW4 HB4 q1 q2
  go_wp2_with fail
  show Calls Tryd.prog 17 #[.string (S cNm)] w6 _
  refine (cnew_any cNm w6 (by decide) (HTab.out.later HW6.out)).mono ?_
  rintro e w7 ⟨g, rfl, hg, hb7, hM7⟩
  obtain ⟨C, hC⟩ : ∃ C, nameB cNm = C := ⟨_, rfl⟩
  have HCn := cipup hC
  rw [hC] at hM7
  have HM7 := cipup hM7
  have HB7 := cipup (HB6.out.later hb7)
  have HC2_7 := cipup (HC2_6.out.later hb7)
  have HW7 := cipup (HW6.out.trans (hb7.mono HW6.out.size))
  have hgt : g ≠ 0 ∧ g ≠ 1 := by
    have h1 := HTab.out.lt
    have h2 := HW6.out.size
    omega
  have hgK : ∀ b o f, a4 = some ⟨b, o, f⟩ → b ≠ g := fun b o f e e2 => by
    rcases HK6.out b (by rw [e]; rfl) with h | h
    · omega
    · omega
  have hgC : W1.heap.size ≠ g := by
    have := HC2_6.out.lt
    omega
  have hgw : w.heap.size ≤ g := Nat.le_trans HW6.out.size hg
  clear hb7 hM7 hC HB6 HC2_6 HW6 HK4 HK6
  go_wp2_with fail
  -- plain, h := m.SealMixed("abc")
  have hA8 : Byt (w7.alloc (.cells #[.int .u8 97, .int .u8 98, .int .u8 99] 5 (3, 4))) (some ⟨w7.heap.size, 0, none⟩) 3 [97, 98, 99] := byt_lit _ [97, 98, 99] _ _ _ (3, 4) (heap_alloc_new w7 _) rfl
  have hbA : Below w7.heap.size w7 (w7.alloc (.cells #[.int .u8 97, .int .u8 98, .int .u8 99] 5 (3, 4))) := (Below.refl _ _).alloc (Nat.le_refl _) _
  refine (csealmixed_any g C C (List.replicate 32 0) false 0 (some ⟨w7.heap.size, 0, none⟩) 3 3 [97, 98, 99] _ (HM7.out.later hbA) (by omega) hA8 (fun e => by cases e) (by omega) (by omega) (by unfold maxLen; omega) (HTab.out.later (HW7.out.trans (hbA.mono HW7.out.size))) hgt).mono ?_
  rintro e w8 ⟨v8, rfl, hG8, hM8, own8⟩
  obtain ⟨H, hH⟩ : ∃ H, sHash C (List.replicate 32 0) false 0 [97, 98, 99] = H := ⟨_, rfl⟩
  have hne : ¬ H = C := by
    rw [← hH, ← HCn.out]
    exact shown_mix
  have hHl : H.length = 32 := by rw [← hH]; exact sHash_length _ _ _ _ _ HM7.out.h
  rw [hH] at hM8
  obtain ⟨a8, c8, rfl, hB8, _, _, _⟩ := own_parts own8
  have HM8 := cipup hM8
  have HB8 : Hid (Byt w8 a8 3 [97, 98, 99]) := hB8
  have HB48 := cipup (byt_but (HB7.out.later hbA) hG8 hgK)
  have HC2_8 := cipup ((HC2_7.out.later hbA).but hG8 hgC)
  have HW8 : Hid (Below w.heap.size w w8) := (HW7.out.trans (hbA.mono HW7.out.size)).trans ⟨hG8.os, hG8.tape, hG8.output, hG8.size, fun k hk => hG8.block k (by have := HW7.out.size; simp; omega) (fun e => by cases e; omega)⟩
  rw [show sErr false 0 = 0 from rfl, show (sOut (List.replicate 32 0) false 0 C [97, 98, 99]).length = 3 from rfl]
  have hCl := HM7.out.c
  clear hA8 hbA hG8 hM8 own8 hB8 hH HM7 HB7 HC2_7 HW7 hgK
  go_wp2_with fail
  obtain ⟨W, hW⟩ : ∃ W, w8.drew = W := ⟨_, rfl⟩
  have hgr : Below w8.heap.size w8 W := by rw [← hW]; exact (Below.refl _ _).drew
  have HMW := cipup (HM8.out.later hgr)
  have HBW := cipup (HB8.out.later hgr)
  have HB4W := cipup (HB48.out.later hgr)
  have HC2W := cipup (HC2_8.out.later hgr)
  have HWW := cipup (HW8.out.trans (hgr.mono HW8.out.size))
  have hWe : Hid (w8.drew = W) := hW
  have hS1 : (S [97, 98, 99]).toList = [97, 98, 99] := S_toList _
  have hIK : (Tryd.prog.info? 23).map (·.size) = some 32 := by kernel_rfl
  clear hW hgr HM8 HB8 HB48 HC2_8 HW8 kd0 kd1
  refine wp_region_sched' (G := Grows) (by kernel_rfl) Grows.refl Grows.trans (by kernel_rfl) [(0, true), (1, true), (2, true), (3, true), (4, true), (5, true), (6, true), (7, true), (8, true), (9, true), (10, true), (11, true), (12, true), (13, true), (14, true), (15, true), (16, true), (17, true), (18, true), (19, true), (20, true), (21, true), (22, true), (23, true), (24, true), (25, true), (26, true), (27, true), (28, true), (29, true), (30, true), (31, true), (32, true), (33, true), (34, true), (35, true), (36, true), (37, true), (38, true), (39, true), (40, true), (41, true), (42, true), (43, true), (44, true), (45, true)] rfl (by kernel_rfl) ?_
  intro KK hKK
  rw [hWe.out]
  iterate 38 (refine sched_take rfl (by rfl) (v := ?_) ?_ ?_; rotate_left; (intro w' hw'; have q1 := conv_bytes w' a4 3 c4 _ (HB4W.out.on hw'); have q2 := conv_bytes w' a8 3 c8 _ (HBW.out.on hw'); obtain ⟨q3, _⟩ := (HC2W.out.later hw').num; clear hw'; go_simp; with_reducible rfl); go_simp)
  refine sched_take rfl (by rfl) (v := .agg (H.map bv).toArray) (fun w' hw' => exec_load_part 23 _ rfl g 32 rfl (H.map bv) _ ((HMW.out.later hw').hashB) Tryd.underlying23 rfl (by rw [hIK]; simp [hHl])) ?_
  go_simp
  iterate 3 (refine sched_take rfl (by rfl) (v := ?_) ?_ ?_; rotate_left; (intro w' hw'; clear hw'; go_simp; with_reducible rfl); go_simp)
  refine sched_take rfl (by rfl) (v := .agg (C.map bv).toArray) (fun w' hw' => exec_load_part 23 _ rfl g 0 rfl (C.map bv) _ ((HMW.out.later hw').chainB) Tryd.underlying23 rfl (by rw [hIK]; simp [hCl])) ?_
  go_simp
  iterate 3 (refine sched_take rfl (by rfl) (v := ?_) ?_ ?_; rotate_left; (intro w' hw'; have q1 := arr_eq w' 23 32 H C hHl hCl Tryd.underlying23; rw [decide_eq_false hne] at q1; clear hw'; go_simp; with_reducible rfl); go_simp)
  refine sched_done hKK ?_
  clear hKK
  go_wp2
  go_ret
  exact ⟨rfl, HWW.out⟩
end Go.Proofs.YtdancpcnjklifaaDoor
