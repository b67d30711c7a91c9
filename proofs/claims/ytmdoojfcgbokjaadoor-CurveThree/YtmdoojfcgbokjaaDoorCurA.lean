/- The walk over the program's Mult (curve). Written by tools/mkmul.py. -/
import Derived.Test.YtmdoojfcgbokjaaDoorCurS
namespace Go.Proofs.YtmdoojfcgbokjaaDoor
set_option linter.unusedVariables false
open Go.RowKit

set_option maxHeartbeats 16000000 in
set_option maxRecDepth 100000 in
theorem mult_any (k u : List UInt8) (w : World) (hk : k.length = 32) (hu : u.length = 32) (htab : FTab w) :
    Calls Tryd.prog 12 #[.agg (k.map bv).toArray, .agg (u.map bv).toArray] w fun e w' => e = .returned (.agg ((leB 32 (mK k u)).map bv).toArray) ∧ Below w.heap.size w w' := by
  have HTab : Hid (FTab w) := htab
  have HZero : Hid (Elm zeroE 0) := elm_zero
  have hI : Hid (∀ l : List UInt8, l.length = 32 → (Tryd.prog.info? 23).map (·.size) = some (l.map bv).toArray.size) := fun l hl => info_size (n := 32) (by kernel_rfl) l hl
  obtain ⟨U, hU⟩ : ∃ U, modU u = U := ⟨_, rfl⟩
  obtain ⟨K, hK⟩ : ∃ K, clampK (leN k) = K := ⟨_, rfl⟩
  have HmK : Hid (mK k u = mX K U) := by show _ = _; rw [mK, hU, hK]
  have HK : Hid (clampK (leN k) = K) := hK
  have HU : Hid (leN u % 2 ^ 255 % P255 = U) := hU
  have HV0 : Hid (Vw w (((w.alloc (.cells (k.map bv).toArray 23)).alloc (.cells (u.map bv).toArray 23)).alloc (.cells (zeroKb).toArray 23)) [(w.heap.size, 23, k.map bv), (w.heap.size + 1, 23, u.map bv), (w.heap.size + 1 + 1, 23, zeroKb)]) := by
    have h := (((Vw.none w).alloc 23 (k.map bv)).alloc 23 (u.map bv)).alloc 23 zeroKb
    simp only [World.size_alloc] at h
    exact h
  obtain ⟨kk, hkk⟩ : ∃ kk, keyB k = kk := ⟨_, rfl⟩
  have hkl : kk.length = 32 := by rw [← hkk, keyB_length, hk]
  have HKB : Hid (keyB k = kk) := hkk
  have HKk : Hid (leN kk = K) := by show _ = _; rw [← hkk, leN_keyB k hk, HK.out]
  have HKc : Hid (clampK (leN k) = leN kk) := by show _ = _; rw [HKk.out, HK.out]
  clear hU hK htab hkk HK
  go_enter Tryd.func12, Tryd.ntmps12
  refine wp_seq (wp_cut (fun a W => a = { tmps := #[.agg (k.map bv).toArray, .agg (u.map bv).toArray, .pointer (some ⟨w.heap.size, 0, none⟩), .pointer (some ⟨w.heap.size + 1, 0, none⟩), .pointer (some ⟨w.heap.size + 1 + 1, 0, none⟩), undef, undef, undef, undef, undef, undef, undef, undef, undef, undef, undef, undef, undef, undef, undef, undef, undef, undef, undef, undef, undef, undef, undef, undef, undef, undef, undef, undef, undef, undef, undef, undef, undef, undef, undef, undef, undef, undef, undef, undef, undef, undef, undef, undef, undef, undef, undef, undef, undef, undef, undef, undef, undef, undef, undef], defers := [] } ∧ Hid (Vw w W [(w.heap.size, 23, k.map bv), (w.heap.size + 1, 23, u.map bv), (w.heap.size + 1 + 1, 23, zeroKb)])) ?_ ?_)
  · go_wp2
    first | exact HV0 | exact ⟨rfl, HV0⟩ | exact ⟨rfl, rfl, HV0⟩
  · rintro a W0 ⟨rfl, HV⟩
    clear HV0
    simp only [Exit.then]
    go_wp2_with (first | (refine wpList_load_row rfl 23 _ rfl (w.heap.size) rfl 23 (k.map bv).toArray (0, 0) _ ?_ Tryd.underlying23 rfl (hI.out k hk) ?_; exact HV.out.cell (w.heap.size, 23, k.map bv) (by simp)) | fail)
    refine (number_any k W0 hk).mono ?_
    rintro e V0 ⟨rfl, hb⟩
    rw [HKB.out]
    have hV := HV.out.later hb
    have hst := store_row V0 (w.heap.size) _ _ (kk.map bv) (hV.cell (w.heap.size, 23, k.map bv) (by simp)) (by simp [hkl, hk]) (bv_oneCell kk)
    have hV1 := hV.put 0 (w.heap.size) 23 (k.map bv) (kk.map bv) rfl
    obtain ⟨X0, hX0⟩ : ∃ X, V0.setRow (w.heap.size) (kk.map bv).toArray = X := ⟨_, rfl⟩
    rw [hX0] at hst hV1
    replace HV : Hid (Vw w X0 [(w.heap.size, 23, kk.map bv), (w.heap.size + 1, 23, u.map bv), (w.heap.size + 1 + 1, 23, zeroKb)]) := hV1
    clear hb hV hV1 hX0
    go_wp2_with (first | (refine wpList_load_row rfl 23 _ rfl (w.heap.size + 1) rfl 23 (u.map bv).toArray (0, 0) _ ?_ Tryd.underlying23 rfl (hI.out u hu) ?_; exact HV.out.cell (w.heap.size + 1, 23, u.map bv) (by simp)) | fail)
    clear hst
    refine (ffrom_any u X0 hu).mono ?_
    rintro e V1 ⟨c5, rfl, he, hb⟩
    rw [HU.out] at he
    have HE5 : Hid (Elm c5 U) := he
    have hlen5 := he.len
    have hst := elm_store V1 he
    have hV1 := (HV.out.later hb).alloc 41 c5
    obtain ⟨W1, hW1⟩ : ∃ W, V1.alloc (.cells c5.toArray 41) = W := ⟨_, rfl⟩
    rw [hW1] at hst hV1
    replace HV : Hid (Vw w W1 [(w.heap.size, 23, kk.map bv), (w.heap.size + 1, 23, u.map bv), (w.heap.size + 1 + 1, 23, zeroKb), (V1.heap.size, 41, c5)]) := hV1
    clear he hb hV1 hW1
    go_wp2
    clear hst
    generalize V1.heap.size = g5 at *
    refine wp_cut (fun a W => ∃ (g6 g7 : Nat) (q14 q15 q17 q18 : List Value), a = { tmps := #[.agg (k.map bv).toArray, .agg (u.map bv).toArray, .pointer (some ⟨w.heap.size, 0, none⟩), .pointer (some ⟨w.heap.size + 1, 0, none⟩), .pointer (some ⟨w.heap.size + 1 + 1, 0, none⟩), .pointer (some ⟨g5, 0, none⟩), .pointer (some ⟨g6, 0, none⟩), .pointer (some ⟨g7, 0, none⟩), undef, undef, .agg (k.map bv).toArray, .agg (kk.map bv).toArray, .agg (u.map bv).toArray, .agg c5.toArray, .agg q14.toArray, .agg q15.toArray, .agg c5.toArray, .agg q17.toArray, .agg q18.toArray, undef, undef, undef, undef, undef, undef, undef, undef, undef, undef, undef, undef, undef, undef, undef, undef, undef, undef, undef, undef, undef, undef, undef, undef, undef, undef, undef, undef, undef, undef, undef, undef, undef, undef, undef, undef, undef, undef, undef, undef, undef], defers := [] } ∧ Hid (Elm q14 (1)) ∧ Hid (PtE q15 (1) (0)) ∧ Hid (Elm q17 (1)) ∧ Hid (PtE q18 (U) (1)) ∧ Hid (Vw w W [(w.heap.size, 23, kk.map bv), (w.heap.size + 1, 23, u.map bv), (w.heap.size + 1 + 1, 23, zeroKb), (g5, 41, c5), (g6, 47, q15), (g7, 47, q18)])) ?_ ?_
    · have HVd : Hid (Vw w W1.drew [(w.heap.size, 23, kk.map bv), (w.heap.size + 1, 23, u.map bv), (w.heap.size + 1 + 1, 23, zeroKb), (g5, 41, c5)]) := HV.out.drew
      refine wp_region_points 9 (Nat.le_refl _) (by kernel_rfl) (by kernel_rfl) (by kernel_rfl) (by kernel_rfl) [5, 6] (fun p => if p = 5 then 7 else 8) (fun p => if p = 5 then 1 else 4) (plc_ofP (by kernel_rfl)) (fun j x' => match j with | 0 => ∃ c : List Value, x' = .agg c.toArray ∧ Elm c (1) | 1 => ∃ c : List Value, x' = .agg c.toArray ∧ PtE c (1) (0) | 2 => x' = .agg c5.toArray | 3 => ∃ c : List Value, x' = .agg c.toArray ∧ Elm c (1) | 4 => ∃ c : List Value, x' = .agg c.toArray ∧ PtE c (U) (1) | _ => True) ?_ ?_ ?_
      · intro p hp x' hx'
        simp only [List.mem_cons, List.not_mem_nil, or_false] at hp
        rcases hp with rfl | rfl
        · obtain ⟨c, hc, hE⟩ := hx'
          exact ⟨c, _, hc, hE.ptc⟩
        · obtain ⟨c, hc, hE⟩ := hx'
          exact ⟨c, _, hc, hE.ptc⟩
      · intro d v W i o AA hi hia his ho hv hdep hA hb
        have hcs : i = 0 ∨ i = 1 ∨ i = 2 ∨ i = 3 ∨ i = 4 := by simp at hia his; omega
        rcases hcs with rfl | rfl | rfl | rfl | rfl
        · cases ho
          refine ⟨rfl, oper_call (exec_enter1 (vx := .int .u32 ((1 : Nat) : Int)) rfl rfl rfl (by go_simp)) ((fsmall_any 1 W (by decide)).mono ?_)⟩
          rintro r W' ⟨c, rfl, he, hb'⟩
          exact ⟨_, rfl, _, rfl, ⟨c, rfl, he⟩, hb'⟩
        · cases ho
          obtain ⟨c0, hc0, hE0⟩ : ∃ c : List Value, v 0 = .agg c.toArray ∧ Elm c (1) := hv 0 (by decide) (by decide) (dep_done hdep 0 (by kernel_rfl)) (by decide)
          have h0 : AA.eval (.tmp 14) = .agg c0.toArray := (hA.new 0 14 (by decide) (dep_done hdep 0 (by kernel_rfl)) rfl (of_decide_eq_true (by kernel_rfl))).trans hc0
          exact ⟨rfl, oper_val (exec_build1 rfl h0 hE0) ⟨_, rfl, ⟨_, rfl, _, _, rfl, hE0, elm_zero⟩, Below.refl _ _⟩⟩
        · cases ho
          exact ⟨rfl, oper_val (exec_load_row 41 _ rfl (g5) ((hA.slot 5 (by kernel_rfl)).trans rfl) 41 _ (0, 0) _ ((HVd.out.later hb).cell (g5, 41, c5) (by simp)) Tryd.underlying41 rfl (elm_info HE5.out)) ⟨_, rfl, rfl, Below.refl _ _⟩⟩
        · cases ho
          refine ⟨rfl, oper_call (exec_enter1 (vx := .int .u32 ((1 : Nat) : Int)) rfl rfl rfl (by go_simp)) ((fsmall_any 1 W (by decide)).mono ?_)⟩
          rintro r W' ⟨c, rfl, he, hb'⟩
          exact ⟨_, rfl, _, rfl, ⟨c, rfl, he⟩, hb'⟩
        · cases ho
          have h0 : AA.eval (.tmp 16) = .agg c5.toArray := (hA.new 2 16 (by decide) (dep_done hdep 2 (by kernel_rfl)) rfl (of_decide_eq_true (by kernel_rfl))).trans (hv 2 (by decide) (by decide) (dep_done hdep 2 (by kernel_rfl)) (by decide))
          obtain ⟨c1, hc1, hE1⟩ : ∃ c : List Value, v 3 = .agg c.toArray ∧ Elm c (1) := hv 3 (by decide) (by decide) (dep_done hdep 3 (by kernel_rfl)) (by decide)
          have h1 : AA.eval (.tmp 17) = .agg c1.toArray := (hA.new 3 17 (by decide) (dep_done hdep 3 (by kernel_rfl)) rfl (of_decide_eq_true (by kernel_rfl))).trans hc1
          exact ⟨rfl, oper_val (exec_build2 rfl h0 h1 HE5.out hE1) ⟨_, rfl, ⟨_, rfl, _, _, rfl, HE5.out, hE1⟩, Below.refl _ _⟩⟩
      · intro v g W hs hp hd hb
        obtain ⟨q14, e0, hQ0⟩ : ∃ c : List Value, v 0 = .agg c.toArray ∧ Elm c (1) := hs 0 (by decide) (by decide) (by decide)
        obtain ⟨q15, e1, hQ1⟩ : ∃ c : List Value, v 1 = .agg c.toArray ∧ PtE c (1) (0) := hs 1 (by decide) (by decide) (by decide)
        have e2 : v 2 = .agg c5.toArray := hs 2 (by decide) (by decide) (by decide)
        obtain ⟨q17, e3, hQ3⟩ : ∃ c : List Value, v 3 = .agg c.toArray ∧ Elm c (1) := hs 3 (by decide) (by decide) (by decide)
        obtain ⟨q18, e4, hQ4⟩ : ∃ c : List Value, v 4 = .agg c.toArray ∧ PtE c (U) (1) := hs 4 (by decide) (by decide) (by decide)
        obtain ⟨e5, hge5, c5', n5', hc5, hE5', hC5⟩ := hp 5 (by decide)
        obtain rfl : q15 = c5' := agg_inj (e1.symm.trans hc5)
        obtain ⟨e6, hge6, c6', n6', hc6, hE6', hC6⟩ := hp 6 (by decide)
        obtain rfl : q18 = c6' := agg_inj (e4.symm.trans hc6)
        have HVn : Vw w W ([(w.heap.size, 23, kk.map bv), (w.heap.size + 1, 23, u.map bv), (w.heap.size + 1 + 1, 23, zeroKb), (g5, 41, c5)] ++ [(g 5, 47, q15), (g 6, 47, q18)]) := HVd.out.places hb 47 g (fun p => match p with | 5 => q15 | 6 => q18 | _ => []) [5, 6] (by decide) (by
          intro p hp
          simp only [List.mem_cons, List.not_mem_nil, or_false] at hp
          rcases hp with rfl | rfl
          · exact ⟨hge5, hC5⟩
          · exact ⟨hge6, hC6⟩) hd
        refine wp_tail_eq (l' := []) (a' := { tmps := #[.agg (k.map bv).toArray, .agg (u.map bv).toArray, .pointer (some ⟨w.heap.size, 0, none⟩), .pointer (some ⟨w.heap.size + 1, 0, none⟩), .pointer (some ⟨w.heap.size + 1 + 1, 0, none⟩), .pointer (some ⟨g5, 0, none⟩), v 5, v 6, undef, undef, .agg (k.map bv).toArray, .agg (kk.map bv).toArray, .agg (u.map bv).toArray, .agg c5.toArray, v 0, v 1, v 2, v 3, v 4, undef, undef, undef, undef, undef, undef, undef, undef, undef, undef, undef, undef, undef, undef, undef, undef, undef, undef, undef, undef, undef, undef, undef, undef, undef, undef, undef, undef, undef, undef, undef, undef, undef, undef, undef, undef, undef, undef, undef, undef, undef], defers := [] }) (by kernel_rfl) (by kernel_rfl) ?_
        rw [e0, e1, e2, e3, e4, e5, e6]
        exact ⟨rfl, g 5, g 6, q14, q15, q17, q18, rfl, hQ0, hQ1, hQ3, hQ4, HVn⟩
    · rintro a W1 ⟨g6, g7, q14, q15, q17, q18, rfl, HQ14, HQ15, HQ17, HQ18, HV⟩
      (try dsimp only)
      go_wp2
      have hK0 : K / 2 ^ 255 = 0 := Nat.div_eq_of_lt (by rw [← HKk.out, ← HKc.out]; exact clampK_lt _)
      have HL0 : Hid (Lad (phi U) (K / 2 ^ 255) (pt 1 0) (pt U 1)) := by
        rw [hK0]
        exact Lad.first (phi U)
      go_loopw [8] (fun i wr => ∃ (j : Nat) (c6 c7 : List Value) (x2 z2 x3 z3 : Nat), j ≤ 255 ∧ i = .int .i64 ((j : Int) - 1) ∧ Hid (PtE c6 x2 z2) ∧ Hid (PtE c7 x3 z3) ∧ Hid (Lad (phi U) (K / 2 ^ j) (pt x2 z2) (pt x3 z3)) ∧ Hid (Vw w wr [(w.heap.size, 23, kk.map bv), (w.heap.size + 1, 23, u.map bv), (w.heap.size + 1 + 1, 23, zeroKb), (g5, 41, c5), (g6, 47, c6), (g7, 47, c7)])) (fun i _ => (intOf i + 1).toNat)
      case atStart => exact ⟨255, q15, q18, 1, 0, U, 1, by omega, rfl, HQ15, HQ18, HL0, HV⟩
      case round =>
        clear HL0 HV hK0
        obtain ⟨j, c6, c7, x2, z2, x3, z3, hj, rfl, HP6, HP7, HL, HV⟩ := hrel
        by_cases hj0 : j = 0
        · subst hj0
          have hi : ((0 : Nat) : Int) - 1 = -1 := by omega
          rw [hi]
          go_wp2
          have hZ2 : z2 < P255 := by obtain ⟨_, _, _, _, h⟩ := HP6.out; exact h.lt
          have hend := lad_end HL.out hZ2
          have HEnd := hidup hend
          clear hend hZ2
          obtain ⟨ac6, bc6, ec6, xc6, zc6⟩ := HP6.out
          have Ec6 := hidup ec6
          have Xc6 := hidup xc6
          have Zc6 := hidup zc6
          clear ec6 xc6 zc6
          have HVd : Hid (Vw w wr.drew [(w.heap.size, 23, kk.map bv), (w.heap.size + 1, 23, u.map bv), (w.heap.size + 1 + 1, 23, zeroKb), (g5, 41, c5), (g6, 47, c6), (g7, 47, c7)]) := HV.out.drew
          refine wp_region_elems 7 (by decide) (by kernel_rfl) (by kernel_rfl) (by kernel_rfl) (by kernel_rfl) [] (fun _ => 0) (fun _ => 0) none_stores (fun j x' => match j with | 0 => x' = .pointer (some ⟨g6, 0, none⟩) | 1 => x' = .agg ac6.toArray | 2 => x' = .pointer (some ⟨g6, 5, none⟩) | 3 => x' = .agg bc6.toArray | 4 => ∃ c : List Value, x' = .agg c.toArray ∧ Elm c (finv (z2)) | 5 => ∃ c : List Value, x' = .agg c.toArray ∧ Elm c (fM (x2) (finv (z2))) | 6 => x' = .agg ((leB 32 (fM (x2) (finv (z2)))).map bv).toArray | _ => True) ?_ ?_ ?_
          · intro p hp x' hx'
            cases hp
          · intro d v W i o AA hi hia his ho hv hdep hA hb
            have hcs : i = 0 ∨ i = 1 ∨ i = 2 ∨ i = 3 ∨ i = 4 ∨ i = 5 ∨ i = 6 := by omega
            rcases hcs with rfl | rfl | rfl | rfl | rfl | rfl | rfl
            · cases ho
              exact ⟨rfl, oper_val (exec_px rfl ((hA.slot 6 (by kernel_rfl)).trans rfl)) ⟨_, rfl, rfl, Below.refl _ _⟩⟩
            · cases ho
              have h0 : AA.eval (.tmp 53) = .pointer (some ⟨g6, 0, none⟩) := (hA.new 0 53 (by decide) (dep_done hdep 0 (by kernel_rfl)) rfl (of_decide_eq_true (by kernel_rfl))).trans (hv 0 (by decide) (by decide) (dep_done hdep 0 (by kernel_rfl)) (by decide))
              exact ⟨rfl, oper_val (exec_load_x rfl h0 ((HVd.out.later hb).cell (g6, 47, c6) (by simp)) Ec6.out Xc6.out) ⟨_, rfl, rfl, Below.refl _ _⟩⟩
            · cases ho
              exact ⟨rfl, oper_val (exec_pz rfl ((hA.slot 6 (by kernel_rfl)).trans rfl)) ⟨_, rfl, rfl, Below.refl _ _⟩⟩
            · cases ho
              have h0 : AA.eval (.tmp 55) = .pointer (some ⟨g6, 5, none⟩) := (hA.new 2 55 (by decide) (dep_done hdep 2 (by kernel_rfl)) rfl (of_decide_eq_true (by kernel_rfl))).trans (hv 2 (by decide) (by decide) (dep_done hdep 2 (by kernel_rfl)) (by decide))
              exact ⟨rfl, oper_val (exec_load_z rfl h0 ((HVd.out.later hb).cell (g6, 47, c6) (by simp)) Ec6.out Xc6.out Zc6.out) ⟨_, rfl, rfl, Below.refl _ _⟩⟩
            · cases ho
              have h0 : AA.eval (.tmp 56) = .agg bc6.toArray := (hA.new 3 56 (by decide) (dep_done hdep 3 (by kernel_rfl)) rfl (of_decide_eq_true (by kernel_rfl))).trans (hv 3 (by decide) (by decide) (dep_done hdep 3 (by kernel_rfl)) (by decide))
              refine ⟨rfl, oper_call (exec_enter1 rfl rfl h0 (by go_simp)) ((finv_any bc6 (z2) W Zc6.out).mono ?_)⟩
              rintro r W' ⟨c, rfl, he, hb'⟩
              exact ⟨_, rfl, _, rfl, ⟨c, rfl, he⟩, hb'⟩
            · cases ho
              have h0 : AA.eval (.tmp 54) = .agg ac6.toArray := (hA.new 1 54 (by decide) (dep_done hdep 1 (by kernel_rfl)) rfl (of_decide_eq_true (by kernel_rfl))).trans (hv 1 (by decide) (by decide) (dep_done hdep 1 (by kernel_rfl)) (by decide))
              obtain ⟨c1, hc1, hE1⟩ : ∃ c : List Value, v 4 = .agg c.toArray ∧ Elm c (finv (z2)) := hv 4 (by decide) (by decide) (dep_done hdep 4 (by kernel_rfl)) (by decide)
              have h1 : AA.eval (.tmp 57) = .agg c1.toArray := (hA.new 4 57 (by decide) (dep_done hdep 4 (by kernel_rfl)) rfl (of_decide_eq_true (by kernel_rfl))).trans hc1
              refine ⟨rfl, oper_call (exec_enter2 rfl rfl h0 h1 (by go_simp)) ((fmul_any ac6 c1 (x2) (finv (z2)) W Xc6.out hE1).mono ?_)⟩
              rintro r W' ⟨c, rfl, he, hb'⟩
              exact ⟨_, rfl, _, rfl, ⟨c, rfl, he⟩, hb'⟩
            · cases ho
              obtain ⟨c0, hc0, hE0⟩ : ∃ c : List Value, v 5 = .agg c.toArray ∧ Elm c (fM (x2) (finv (z2))) := hv 5 (by decide) (by decide) (dep_done hdep 5 (by kernel_rfl)) (by decide)
              have h0 : AA.eval (.tmp 58) = .agg c0.toArray := (hA.new 5 58 (by decide) (dep_done hdep 5 (by kernel_rfl)) rfl (of_decide_eq_true (by kernel_rfl))).trans hc0
              refine ⟨rfl, oper_call (exec_enter1 rfl rfl h0 (by go_simp)) ((fbytes_any c0 (fM (x2) (finv (z2))) W hE0).mono ?_)⟩
              rintro r W' ⟨rfl, hb'⟩
              exact ⟨_, rfl, _, rfl, rfl, hb'⟩
          · intro v g W hs hp hd hb
            have e0 : v 0 = .pointer (some ⟨g6, 0, none⟩) := hs 0 (by decide) (by decide) (by decide)
            have e1 : v 1 = .agg ac6.toArray := hs 1 (by decide) (by decide) (by decide)
            have e2 : v 2 = .pointer (some ⟨g6, 5, none⟩) := hs 2 (by decide) (by decide) (by decide)
            have e3 : v 3 = .agg bc6.toArray := hs 3 (by decide) (by decide) (by decide)
            obtain ⟨q57, e4, hQ4⟩ : ∃ c : List Value, v 4 = .agg c.toArray ∧ Elm c (finv (z2)) := hs 4 (by decide) (by decide) (by decide)
            obtain ⟨q58, e5, hQ5⟩ : ∃ c : List Value, v 5 = .agg c.toArray ∧ Elm c (fM (x2) (finv (z2))) := hs 5 (by decide) (by decide) (by decide)
            have e6 : v 6 = .agg ((leB 32 (fM (x2) (finv (z2)))).map bv).toArray := hs 6 (by decide) (by decide) (by decide)
            have HVn : Vw w W _ := HVd.out.later hb
            refine wp_tail_eq (a' := { tmps := #[.agg (k.map bv).toArray, .agg (u.map bv).toArray, .pointer (some ⟨w.heap.size, 0, none⟩), .pointer (some ⟨w.heap.size + 1, 0, none⟩), .pointer (some ⟨w.heap.size + 1 + 1, 0, none⟩), .pointer (some ⟨g5, 0, none⟩), .pointer (some ⟨g6, 0, none⟩), .pointer (some ⟨g7, 0, none⟩), .int .i64 (-1), u9, .agg (k.map bv).toArray, .agg (kk.map bv).toArray, .agg (u.map bv).toArray, .agg c5.toArray, .agg q14.toArray, .agg q15.toArray, .agg c5.toArray, .agg q17.toArray, .agg q18.toArray, .int .i64 (-1), .bool false, u21, u22, u23, u24, u25, u26, u27, u28, u29, u30, u31, u32, u33, u34, u35, u36, u37, u38, u39, u40, u41, u42, u43, u44, u45, u46, u47, u48, u49, u50, u51, u52, v 0, v 1, v 2, v 3, v 4, v 5, v 6], defers := [] }) rfl (by kernel_rfl) ?_
            rw [e0, e1, e2, e3, e4, e5, e6]
            obtain ⟨LB, hLB⟩ : ∃ L, leB 32 (fM (x2) (finv (z2))) = L := ⟨_, rfl⟩
            have hLl : LB.length = 32 := by rw [← hLB, leB_length]
            have HRes : Hid (leB 32 (mK k u) = LB) := by show _ = _; rw [HmK.out, ← HEnd.out, hLB]
            rw [hLB]
            have hR := HVn.cell (w.heap.size + 1 + 1, 23, zeroKb) (by simp)
            have hst := store_row W (w.heap.size + 1 + 1) _ _ (LB.map bv) hR (by simp [hLl, zeroKb]) (bv_oneCell LB)
            have hrow := setRow_heap W (w.heap.size + 1 + 1) _ (LB.map bv).toArray _ _ hR
            have HBel : Hid (Below w.heap.size w (W.setRow (w.heap.size + 1 + 1) (LB.map bv).toArray)) := below_setRow HVn.bel (by omega) _
            obtain ⟨X, hX⟩ : ∃ X, W.setRow (w.heap.size + 1 + 1) (LB.map bv).toArray = X := ⟨_, rfl⟩
            rw [hX] at hst hrow HBel
            have HRow : Hid (X.heap[w.heap.size + 1 + 1]? = some (.cells (LB.map bv).toArray 23 (0, 0))) := hrow
            clear hR hrow hX hLB
            go_wp2
            (try simp only [Exit.inBlock, Exit.then])
            refine bodyPost_ret (results_cell_row rfl _ _ (w.heap.size + 1 + 1) 23 _ (0, 0) _ rfl HRow.out Tryd.underlying23 rfl (hI.out LB hLl)) rfl ?_
            exact ⟨by rw [HRes.out], HBel.out⟩
        · obtain ⟨b, rfl⟩ : ∃ b, j = b + 1 := ⟨j - 1, by omega⟩
          have hi : ((b + 1 : Nat) : Int) - 1 = (b : Int) := by omega
          have hb0 : (0 : Int) ≤ (b : Int) := by omega
          obtain ⟨q, hq⟩ : ∃ q, b / 8 = q := ⟨_, rfl⟩
          obtain ⟨r, hr⟩ : ∃ r, b % 8 = r := ⟨_, rfl⟩
          have e1 : (b : Int).tdiv 8 = (q : Int) := by rw [Int.tdiv_eq_ediv_of_nonneg (by omega)]; omega
          have e1' : (b : Int) / 8 = (q : Int) := by omega
          have e2 : (b : Int).tmod 8 = (r : Int) := by rw [Int.tmod_eq_emod_of_nonneg (by omega)]; omega
          have e2' : (b : Int) % 8 = (r : Int) := by omega
          have hq32 : (q : Int) < 32 := by omega
          have hr8 : r < 8 := by omega
          have hbit := key_bit kk b (by omega)
          rw [HKk.out, hq, hr] at hbit
          obtain ⟨t, ht⟩ : ∃ t, (at8 kk q).toNat = t := ⟨_, rfl⟩
          have htl : t < 256 := by rw [← ht]; exact (at8 kk q).toNat_lt
          have hA : Arr wr w.heap.size 23 kk := HV.out.cell (w.heap.size, 23, kk.map bv) (by simp)
          obtain ⟨ct, ft⟩ := hA.at_ q (by omega)
          rw [ht] at ct hbit
          obtain ⟨s, hs⟩ : ∃ s, t / 2 ^ r = s := ⟨_, rfl⟩
          have hsl : s < 256 := by rw [← hs]; exact Nat.lt_of_le_of_lt (Nat.div_le_self _ _) htl
          have E1 : (t : Int) / 2 ^ r = (s : Int) := by rw [← hs]; simp
          obtain ⟨bt, hbt⟩ : ∃ bt, s % 2 = bt := ⟨_, rfl⟩
          have E2 : bits .and .u8 (s : Int) 1 = (bt : Int) := by rw [← hbt]; exact andB1 ⟨s, hsl⟩
          rw [hs, hbt] at hbit
          obtain ⟨is, his⟩ : ∃ is, ((bt : Int) == 1) = is := ⟨_, rfl⟩
          have HBit : Hid (is = decide (K / 2 ^ b % 2 = 1)) := by show _ = _; rw [← his, hbit, Bool.eq_iff_iff]; simp; omega
          have HWr : Hid (∃ W, wr = W) := ⟨_, rfl⟩
          clear hq hr hbit ht hA hs hbt
          rw [hi]
          go_wp2_with (first | (refine wpList_load_row rfl 47 _ rfl g6 rfl 47 c6.toArray (0, 0) _ ?_ Tryd.underlying47 rfl (pt_info HP6.out.ptc) ?_; exact HV.out.cell (g6, 47, c6) (by simp)) | (refine wpList_load_row rfl 47 _ rfl g7 rfl 47 c7.toArray (0, 0) _ ?_ Tryd.underlying47 rfl (pt_info HP7.out.ptc) ?_; exact HV.out.cell (g7, 47, c7) (by simp)) | fail)
          (try simp only [his])
          refine (cswap_any is c6 c7 x2 z2 x3 z3 wr HP6.out HP7.out).mono ?_
          rintro e Va ⟨Ca, Da, rfl, hC, hD, hb⟩
          obtain ⟨a2, hna2⟩ : ∃ n, (if is = true then x3 else x2) = n := ⟨_, rfl⟩
          have HNa2 : Hid ((if is = true then x3 else x2) = a2) := hna2
          obtain ⟨d2, hnd2⟩ : ∃ n, (if is = true then z3 else z2) = n := ⟨_, rfl⟩
          have HNd2 : Hid ((if is = true then z3 else z2) = d2) := hnd2
          obtain ⟨a3, hna3⟩ : ∃ n, (if is = true then x2 else x3) = n := ⟨_, rfl⟩
          have HNa3 : Hid ((if is = true then x2 else x3) = a3) := hna3
          obtain ⟨d3, hnd3⟩ : ∃ n, (if is = true then z2 else z3) = n := ⟨_, rfl⟩
          have HNd3 : Hid ((if is = true then z2 else z3) = d3) := hnd3
          rw [hna2, hnd2] at hC
          rw [hna3, hnd3] at hD
          clear hna2 hnd2 hna3 hnd3
          have HCa : Hid (PtE Ca (a2) (d2)) := hC
          have HDa : Hid (PtE Da (a3) (d3)) := hD
          have hlCa := hC.ptc.len
          have hlDa := hD.ptc.len
          have hV := HV.out.later hb
          have hst1 := store_row Va g6 _ _ Ca (hV.cell (g6, 47, c6) (by simp)) (by rw [hlCa]; simp [HP6.out.ptc.len]) hC.ptc.one
          have hV1 := hV.put 4 g6 47 c6 Ca rfl
          obtain ⟨Xa, hX1⟩ : ∃ X, Va.setRow g6 Ca.toArray = X := ⟨_, rfl⟩
          rw [hX1] at hst1 hV1
          have hst2 := store_row Xa g7 _ _ Da (hV1.cell (g7, 47, c7) (by simp)) (by rw [hlDa]; simp [HP7.out.ptc.len]) hD.ptc.one
          have hV2 := hV1.put 5 g7 47 c7 Da rfl
          obtain ⟨Ya, hX2⟩ : ∃ X, Xa.setRow g7 Da.toArray = X := ⟨_, rfl⟩
          rw [hX2] at hst2 hV2
          replace HV : Hid (Vw w Ya [(w.heap.size, 23, kk.map bv), (w.heap.size + 1, 23, u.map bv), (w.heap.size + 1 + 1, 23, zeroKb), (g5, 41, c5), (g6, 47, Ca), (g7, 47, Da)]) := hV2
          clear hC hD hb hV hV1 hV2 hX1 hX2
          go_wp2_with (first | (refine wpList_load_row rfl 47 _ rfl g6 rfl 47 Ca.toArray (0, 0) _ ?_ Tryd.underlying47 rfl (pt_info HCa.out.ptc) ?_; exact HV.out.cell (g6, 47, Ca) (by simp)) | (refine wpList_load_row rfl 47 _ rfl g7 rfl 47 Da.toArray (0, 0) _ ?_ Tryd.underlying47 rfl (pt_info HDa.out.ptc) ?_; exact HV.out.cell (g7, 47, Da) (by simp)) | (refine wpList_load_row rfl 41 _ rfl g5 rfl 41 c5.toArray (0, 0) _ ?_ Tryd.underlying41 rfl (elm_info HE5.out) ?_; exact HV.out.cell (g5, 41, c5) (by simp)) | fail)
          clear hst1 hst2
          refine (cstep_any Ca Da c5 a2 d2 a3 d3 U Ya HCa.out HDa.out HE5.out (HTab.out.later HV.out.bel)).mono ?_
          rintro e Vb ⟨Cb, Db, rfl, hC, hD, hb⟩
          have HCb : Hid (PtE Cb (nX2 a2 d2) (nZ2 a2 d2)) := hC
          have HDb : Hid (PtE Db (nX3 a2 d2 a3 d3) (nZ3 U a2 d2 a3 d3)) := hD
          have hlCb := hC.ptc.len
          have hlDb := hD.ptc.len
          have hV := HV.out.later hb
          have hst1 := store_row Vb g6 _ _ Cb (hV.cell (g6, 47, Ca) (by simp)) (by rw [hlCb]; simp [HCa.out.ptc.len]) hC.ptc.one
          have hV1 := hV.put 4 g6 47 Ca Cb rfl
          obtain ⟨Xb, hX1⟩ : ∃ X, Vb.setRow g6 Cb.toArray = X := ⟨_, rfl⟩
          rw [hX1] at hst1 hV1
          have hst2 := store_row Xb g7 _ _ Db (hV1.cell (g7, 47, Da) (by simp)) (by rw [hlDb]; simp [HDa.out.ptc.len]) hD.ptc.one
          have hV2 := hV1.put 5 g7 47 Da Db rfl
          obtain ⟨Yb, hX2⟩ : ∃ X, Xb.setRow g7 Db.toArray = X := ⟨_, rfl⟩
          rw [hX2] at hst2 hV2
          replace HV : Hid (Vw w Yb [(w.heap.size, 23, kk.map bv), (w.heap.size + 1, 23, u.map bv), (w.heap.size + 1 + 1, 23, zeroKb), (g5, 41, c5), (g6, 47, Cb), (g7, 47, Db)]) := hV2
          clear hC hD hb hV hV1 hV2 hX1 hX2
          go_wp2_with (first | (refine wpList_load_row rfl 47 _ rfl g6 rfl 47 Cb.toArray (0, 0) _ ?_ Tryd.underlying47 rfl (pt_info HCb.out.ptc) ?_; exact HV.out.cell (g6, 47, Cb) (by simp)) | (refine wpList_load_row rfl 47 _ rfl g7 rfl 47 Db.toArray (0, 0) _ ?_ Tryd.underlying47 rfl (pt_info HDb.out.ptc) ?_; exact HV.out.cell (g7, 47, Db) (by simp)) | fail)
          clear hst1 hst2
          have hbm : IntKind.i64.wrap ((b : Int) - 1) = (b : Int) - 1 := by rw [IntKind.wrap_i64]; omega
          refine (cswap_any is Cb Db (nX2 a2 d2) (nZ2 a2 d2) (nX3 a2 d2 a3 d3) (nZ3 U a2 d2 a3 d3) Yb HCb.out HDb.out).mono ?_
          rintro e Vc ⟨Cc, Dc, rfl, hC, hD, hb⟩
          obtain ⟨f2, hnf2⟩ : ∃ n, (if is = true then nX3 a2 d2 a3 d3 else nX2 a2 d2) = n := ⟨_, rfl⟩
          have HNf2 : Hid ((if is = true then nX3 a2 d2 a3 d3 else nX2 a2 d2) = f2) := hnf2
          obtain ⟨h2, hnh2⟩ : ∃ n, (if is = true then nZ3 U a2 d2 a3 d3 else nZ2 a2 d2) = n := ⟨_, rfl⟩
          have HNh2 : Hid ((if is = true then nZ3 U a2 d2 a3 d3 else nZ2 a2 d2) = h2) := hnh2
          obtain ⟨f3, hnf3⟩ : ∃ n, (if is = true then nX2 a2 d2 else nX3 a2 d2 a3 d3) = n := ⟨_, rfl⟩
          have HNf3 : Hid ((if is = true then nX2 a2 d2 else nX3 a2 d2 a3 d3) = f3) := hnf3
          obtain ⟨h3, hnh3⟩ : ∃ n, (if is = true then nZ2 a2 d2 else nZ3 U a2 d2 a3 d3) = n := ⟨_, rfl⟩
          have HNh3 : Hid ((if is = true then nZ2 a2 d2 else nZ3 U a2 d2 a3 d3) = h3) := hnh3
          rw [hnf2, hnh2] at hC
          rw [hnf3, hnh3] at hD
          clear hnf2 hnh2 hnf3 hnh3
          have HCc : Hid (PtE Cc (f2) (h2)) := hC
          have HDc : Hid (PtE Dc (f3) (h3)) := hD
          have hlCc := hC.ptc.len
          have hlDc := hD.ptc.len
          have hV := HV.out.later hb
          have hst1 := store_row Vc g6 _ _ Cc (hV.cell (g6, 47, Cb) (by simp)) (by rw [hlCc]; simp [HCb.out.ptc.len]) hC.ptc.one
          have hV1 := hV.put 4 g6 47 Cb Cc rfl
          obtain ⟨Xc, hX1⟩ : ∃ X, Vc.setRow g6 Cc.toArray = X := ⟨_, rfl⟩
          rw [hX1] at hst1 hV1
          have hst2 := store_row Xc g7 _ _ Dc (hV1.cell (g7, 47, Db) (by simp)) (by rw [hlDc]; simp [HDb.out.ptc.len]) hD.ptc.one
          have hV2 := hV1.put 5 g7 47 Db Dc rfl
          obtain ⟨Yc, hX2⟩ : ∃ X, Xc.setRow g7 Dc.toArray = X := ⟨_, rfl⟩
          rw [hX2] at hst2 hV2
          replace HV : Hid (Vw w Yc [(w.heap.size, 23, kk.map bv), (w.heap.size + 1, 23, u.map bv), (w.heap.size + 1 + 1, 23, zeroKb), (g5, 41, c5), (g6, 47, Cc), (g7, 47, Dc)]) := hV2
          clear hC hD hb hV hV1 hV2 hX1 hX2
          go_wp2
          clear hst1 hst2
          have HZ2 : Hid (z2 < P255) := by obtain ⟨_, _, _, _, h⟩ := HP6.out; exact h.lt
          have HZ3 : Hid (z3 < P255) := by obtain ⟨_, _, _, _, h⟩ := HP7.out; exact h.lt
          exact ⟨⟨b, Cc, Dc, f2, h2, f3, h3, by omega, by first | rfl | trivial | (congr 1 <;> omega), HCc, HDc, lad_step HL.out HBit.out HZ2.out HZ3.out HNa2.out HNa3.out HNd2.out HNd3.out HNf2.out HNf3.out HNh2.out HNh3.out, HV⟩, by simp [intOf] <;> omega⟩
end Go.Proofs.YtmdoojfcgbokjaaDoor
