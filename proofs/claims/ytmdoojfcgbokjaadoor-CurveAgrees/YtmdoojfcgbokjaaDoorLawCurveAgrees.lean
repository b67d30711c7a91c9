/- CurveAgrees. For every 2 keys, without a condition. -/
import Derived.Test.YtmdoojfcgbokjaaDoorCurShown
namespace Go.Proofs.YtmdoojfcgbokjaaDoor.curveAgrees
open Go.ChangeShapes Go.WideShapes Go.ChangeAt Go.RowKit
set_option linter.unusedVariables false

set_option maxHeartbeats 8000000 in
set_option maxRecDepth 100000 in
theorem walk (l0 l1 : List UInt8) (w : World) (w0 : l0.length = 32) (w1 : l1.length = 32) (htab : FTab w) :
    Calls Tryd.prog 5 #[.agg (l0.map bv).toArray, .agg (l1.map bv).toArray] w fun e w' => e = .returned (.bool true) ∧ Below w.heap.size w w' := by
  have HTab : Hid (FTab w) := htab
  have hI : Hid (∀ l : List UInt8, l.length = 32 → (Tryd.prog.info? 23).map (·.size) = some (l.map bv).toArray.size) := fun l hl => info_size (n := 32) (by kernel_rfl) l hl
  have HV0 : Hid (Vw w ((w.alloc (.cells (l0.map bv).toArray 23)).alloc (.cells (l1.map bv).toArray 23)) [(w.heap.size, 23, l0.map bv), (w.heap.size + 1, 23, l1.map bv)]) := by
    have h := (((Vw.none w).alloc 23 (l0.map bv)).alloc 23 (l1.map bv))
    (try simp only [World.size_alloc] at h)
    exact h
  clear htab
  go_enter Tryd.func5, Tryd.ntmps5
  go_wp2_with fail
  refine (cshown_any _ (HTab.out.later HV0.out.bel)).mono ?_
  rintro e V0 ⟨rfl, hb⟩
  have HV : Hid (Vw w V0 [(w.heap.size, 23, l0.map bv), (w.heap.size + 1, 23, l1.map bv)]) := HV0.out.later hb
  clear hb HV0
  obtain ⟨p, hnp⟩ : ∃ n, pubN l1 = n := ⟨_, rfl⟩
  have HNp : Hid (pubN l1 = p) := hnp
  have hpl : p < P255 := by rw [← hnp]; exact pubN_lt _
  have HP1 : Hid (∀ W, FTab W → Calls Tryd.prog 15 #[.agg (l1.map bv).toArray] W fun e w' => e = .returned (.agg ((leB 32 p).map bv).toArray) ∧ Below W.heap.size W w') := fun W h => by
    have h1 := public_told l1 W w1 h
    rw [hnp] at h1
    exact h1
  obtain ⟨q, hnq⟩ : ∃ n, pubN l0 = n := ⟨_, rfl⟩
  have HNq : Hid (pubN l0 = q) := hnq
  have hql : q < P255 := by rw [← hnq]; exact pubN_lt _
  have HP0 : Hid (∀ W, FTab W → Calls Tryd.prog 15 #[.agg (l0.map bv).toArray] W fun e w' => e = .returned (.agg ((leB 32 q).map bv).toArray) ∧ Below W.heap.size W w') := fun W h => by
    have h1 := public_told l0 W w0 h
    rw [hnq] at h1
    exact h1
  obtain ⟨x, hnx⟩ : ∃ n, mK l0 (leB 32 p) = n := ⟨_, rfl⟩
  have HNx : Hid (mK l0 (leB 32 p) = x) := hnx
  have hxl : x < P255 := by rw [← hnx]; exact mK_lt _ _
  have HS0 : Hid (∀ W, FTab W → Calls Tryd.prog 13 #[.agg (l0.map bv).toArray, .agg ((leB 32 p).map bv).toArray] W fun e w' => e = .returned (.tuple #[.agg ((leB 32 x).map bv).toArray, .int .i64 0]) ∧ Below W.heap.size W w') := fun W h => by
    have h1 := shared_any l0 (leB 32 p) W w0 (leB_length _ _) h
    rw [hnx, if_neg (show ¬ x = 0 by rw [← hnx]; exact (by rw [← HNp.out]; exact sh_ne _ _))] at h1
    exact h1
  obtain ⟨y, hny⟩ : ∃ n, mK l1 (leB 32 q) = n := ⟨_, rfl⟩
  have HNy : Hid (mK l1 (leB 32 q) = y) := hny
  have hyl : y < P255 := by rw [← hny]; exact mK_lt _ _
  have HS1 : Hid (∀ W, FTab W → Calls Tryd.prog 13 #[.agg (l1.map bv).toArray, .agg ((leB 32 q).map bv).toArray] W fun e w' => e = .returned (.tuple #[.agg ((leB 32 y).map bv).toArray, .int .i64 0]) ∧ Below W.heap.size W w') := fun W h => by
    have h1 := shared_any l1 (leB 32 q) W w1 (leB_length _ _) h
    rw [hny, if_neg (show ¬ y = 0 by rw [← hny]; exact (by rw [← HNq.out]; exact sh_ne _ _))] at h1
    exact h1
  have HXY : Hid (x = y ∧ x ≠ 0) := by rw [← HNx.out, ← HNy.out, ← HNp.out, ← HNq.out]; exact ⟨sh_eq _ _, sh_ne _ _⟩
  clear hnp hnq hnx hny
  go_wp2
  refine wp_cut (fun a W => ∃ p6 : Nat, a = { tmps := #[.agg (l0.map bv).toArray, .agg (l1.map bv).toArray, .pointer (some ⟨w.heap.size, 0, none⟩), .pointer (some ⟨w.heap.size + 1, 0, none⟩), .bool false, .bool true, .pointer (some ⟨p6, 0, none⟩), .int .i64 0, undef, undef, .bool true, .tuple #[.agg ((leB 32 x).map bv).toArray, .int .i64 0], .agg (l0.map bv).toArray, .agg (l1.map bv).toArray, .agg ((leB 32 p).map bv).toArray, .tuple #[.agg ((leB 32 x).map bv).toArray, .int .i64 0], .agg ((leB 32 x).map bv).toArray, .int .i64 0, undef, undef, undef, undef, undef, undef, undef, undef, undef, undef, undef, undef, undef, undef, undef, undef, undef, undef, undef, undef, undef, undef, undef, undef, undef, undef], defers := [] } ∧ Hid (Vw w W [(w.heap.size, 23, l0.map bv), (w.heap.size + 1, 23, l1.map bv), (p6, 23, (leB 32 x).map bv)])) ?_ ?_
  · have HVd : Hid (Vw w V0.drew [(w.heap.size, 23, l0.map bv), (w.heap.size + 1, 23, l1.map bv)]) := HV.out.drew
    refine wp_region_keys 10 (Nat.le_refl _) (by kernel_rfl) (by kernel_rfl) (by kernel_rfl) (by kernel_rfl) [7] (fun p => 8) (fun p => 5) (plc_ofK (by kernel_rfl)) (fun j x' => match j with | 0 => x' = .agg (l0.map bv).toArray | 1 => x' = .agg (l1.map bv).toArray | 2 => x' = .agg ((leB 32 p).map bv).toArray | 3 => x' = .tuple #[.agg ((leB 32 x).map bv).toArray, .int .i64 0] | 4 => x' = .tuple #[.agg ((leB 32 x).map bv).toArray, .int .i64 0] | 5 => x' = .agg ((leB 32 x).map bv).toArray | 6 => x' = .int .i64 0 | 9 => x' = .int .i64 0 | _ => True) ?_ ?_ ?_
    · intro p hp x' hx'
      simp only [List.mem_cons, List.not_mem_nil, or_false] at hp
      subst hp
      exact ⟨_, 0, hx', KeyC.of _ (leB_length _ _)⟩
    · intro d v W i o AA hi hia his ho hv hdep hA hb
      have hcs : i = 0 ∨ i = 1 ∨ i = 2 ∨ i = 3 ∨ i = 4 ∨ i = 5 ∨ i = 6 ∨ i = 9 := by simp at hia his; omega
      rcases hcs with rfl | rfl | rfl | rfl | rfl | rfl | rfl | rfl
      · cases ho
        exact ⟨rfl, oper_val (exec_load_row 23 _ rfl (w.heap.size) ((hA.slot 2 (by kernel_rfl)).trans rfl) 23 _ (0, 0) _ ((HVd.out.later hb).cell (w.heap.size, 23, l0.map bv) (by simp)) Tryd.underlying23 rfl (hI.out _ w0)) ⟨_, rfl, rfl, Below.refl _ _⟩⟩
      · cases ho
        exact ⟨rfl, oper_val (exec_load_row 23 _ rfl (w.heap.size + 1) ((hA.slot 3 (by kernel_rfl)).trans rfl) 23 _ (0, 0) _ ((HVd.out.later hb).cell (w.heap.size + 1, 23, l1.map bv) (by simp)) Tryd.underlying23 rfl (hI.out _ w1)) ⟨_, rfl, rfl, Below.refl _ _⟩⟩
      · cases ho
        have h0 : AA.eval (.tmp 13) = .agg (l1.map bv).toArray := (hA.new 1 13 (by decide) (dep_done hdep 1 (by kernel_rfl)) rfl (of_decide_eq_true (by kernel_rfl))).trans (hv 1 (by decide) (by decide) (dep_done hdep 1 (by kernel_rfl)) (by decide))
        refine ⟨rfl, oper_call (exec_enter1 rfl rfl h0 (by go_simp)) ((HP1.out W (HTab.out.later (HVd.out.later hb).bel)).mono ?_)⟩
        rintro r W' ⟨rfl, hb'⟩
        exact ⟨_, rfl, _, rfl, rfl, hb'⟩
      · cases ho
        have h0 : AA.eval (.tmp 12) = .agg (l0.map bv).toArray := (hA.new 0 12 (by decide) (dep_done hdep 0 (by kernel_rfl)) rfl (of_decide_eq_true (by kernel_rfl))).trans (hv 0 (by decide) (by decide) (dep_done hdep 0 (by kernel_rfl)) (by decide))
        have h1 : AA.eval (.tmp 14) = .agg ((leB 32 p).map bv).toArray := (hA.new 2 14 (by decide) (dep_done hdep 2 (by kernel_rfl)) rfl (of_decide_eq_true (by kernel_rfl))).trans (hv 2 (by decide) (by decide) (dep_done hdep 2 (by kernel_rfl)) (by decide))
        refine ⟨rfl, oper_call (exec_enter2 rfl rfl h0 h1 (by go_simp)) ((HS0.out W (HTab.out.later (HVd.out.later hb).bel)).mono ?_)⟩
        rintro r W' ⟨rfl, hb'⟩
        exact ⟨_, rfl, _, rfl, rfl, hb'⟩
      · cases ho
        have h0 : AA.eval (.tmp 15) = .tuple #[.agg ((leB 32 x).map bv).toArray, .int .i64 0] := (hA.new 3 15 (by decide) (dep_done hdep 3 (by kernel_rfl)) rfl (of_decide_eq_true (by kernel_rfl))).trans (hv 3 (by decide) (by decide) (dep_done hdep 3 (by kernel_rfl)) (by decide))
        exact ⟨rfl, oper_val (exec_moved (.inl rfl) h0) ⟨_, rfl, rfl, Below.refl _ _⟩⟩
      · cases ho
        have h0 : AA.eval (.tmp 11) = .tuple #[.agg ((leB 32 x).map bv).toArray, .int .i64 0] := (hA.new 4 11 (by decide) (dep_done hdep 4 (by kernel_rfl)) rfl (of_decide_eq_true (by kernel_rfl))).trans (hv 4 (by decide) (by decide) (dep_done hdep 4 (by kernel_rfl)) (by decide))
        exact ⟨rfl, oper_val (exec_part rfl h0 rfl) ⟨_, rfl, rfl, Below.refl _ _⟩⟩
      · cases ho
        have h0 : AA.eval (.tmp 11) = .tuple #[.agg ((leB 32 x).map bv).toArray, .int .i64 0] := (hA.new 4 11 (by decide) (dep_done hdep 4 (by kernel_rfl)) rfl (of_decide_eq_true (by kernel_rfl))).trans (hv 4 (by decide) (by decide) (dep_done hdep 4 (by kernel_rfl)) (by decide))
        exact ⟨rfl, oper_val (exec_part rfl h0 rfl) ⟨_, rfl, rfl, Below.refl _ _⟩⟩
      · cases ho
        have h0 : AA.eval (.tmp 17) = .int .i64 0 := (hA.new 6 17 (by decide) (dep_done hdep 6 (by kernel_rfl)) rfl (of_decide_eq_true (by kernel_rfl))).trans (hv 6 (by decide) (by decide) (dep_done hdep 6 (by kernel_rfl)) (by decide))
        exact ⟨rfl, oper_val (exec_moved (.inr rfl) h0) ⟨_, rfl, rfl, Below.refl _ _⟩⟩
    · intro v g W hs hp hd hb
      have e0 : v 0 = .agg (l0.map bv).toArray := hs 0 (by decide) (by decide) (by decide)
      have e1 : v 1 = .agg (l1.map bv).toArray := hs 1 (by decide) (by decide) (by decide)
      have e2 : v 2 = .agg ((leB 32 p).map bv).toArray := hs 2 (by decide) (by decide) (by decide)
      have e3 : v 3 = .tuple #[.agg ((leB 32 x).map bv).toArray, .int .i64 0] := hs 3 (by decide) (by decide) (by decide)
      have e4 : v 4 = .tuple #[.agg ((leB 32 x).map bv).toArray, .int .i64 0] := hs 4 (by decide) (by decide) (by decide)
      have e5 : v 5 = .agg ((leB 32 x).map bv).toArray := hs 5 (by decide) (by decide) (by decide)
      have e6 : v 6 = .int .i64 0 := hs 6 (by decide) (by decide) (by decide)
      have e9 : v 9 = .int .i64 0 := hs 9 (by decide) (by decide) (by decide)
      obtain ⟨e7, hge7, c7, n7, hc7, hE7, hC7⟩ := hp 7 (by decide)
      rw [← agg_inj (e5.symm.trans hc7)] at hC7
      have HVn : Vw w W ([(w.heap.size, 23, l0.map bv), (w.heap.size + 1, 23, l1.map bv)] ++ [(g 7, 23, (leB 32 x).map bv)]) := HVd.out.places hb 23 g (fun p => match p with | 7 => (leB 32 x).map bv | _ => []) [7] (by decide) (by
        intro p hp
        simp only [List.mem_cons, List.not_mem_nil, or_false] at hp
        subst hp
        exact ⟨hge7, hC7⟩) hd
      refine wp_tail_eq (l' := []) (a' := { tmps := #[.agg (l0.map bv).toArray, .agg (l1.map bv).toArray, .pointer (some ⟨w.heap.size, 0, none⟩), .pointer (some ⟨w.heap.size + 1, 0, none⟩), .bool false, .bool true, v 7, v 9, undef, undef, .bool true, v 4, v 0, v 1, v 2, v 3, v 5, v 6, undef, undef, undef, undef, undef, undef, undef, undef, undef, undef, undef, undef, undef, undef, undef, undef, undef, undef, undef, undef, undef, undef, undef, undef, undef, undef], defers := [] }) (by kernel_rfl) (by kernel_rfl) ?_
      rw [e0, e1, e2, e3, e4, e5, e6, e7, e9]
      exact ⟨rfl, g 7, rfl, HVn⟩
  · rintro a Z1 ⟨p6, rfl, HV⟩
    (try dsimp only)
    go_wp2
    refine wp_cut (fun a W => ∃ p8 : Nat, a = { tmps := #[.agg (l0.map bv).toArray, .agg (l1.map bv).toArray, .pointer (some ⟨w.heap.size, 0, none⟩), .pointer (some ⟨w.heap.size + 1, 0, none⟩), .bool false, .bool true, .pointer (some ⟨p6, 0, none⟩), .int .i64 0, .pointer (some ⟨p8, 0, none⟩), .int .i64 0, .bool true, .tuple #[.agg ((leB 32 x).map bv).toArray, .int .i64 0], .agg (l0.map bv).toArray, .agg (l1.map bv).toArray, .agg ((leB 32 p).map bv).toArray, .tuple #[.agg ((leB 32 x).map bv).toArray, .int .i64 0], .agg ((leB 32 x).map bv).toArray, .int .i64 0, .tuple #[.agg ((leB 32 y).map bv).toArray, .int .i64 0], .agg (l1.map bv).toArray, .agg (l0.map bv).toArray, .agg ((leB 32 q).map bv).toArray, .tuple #[.agg ((leB 32 y).map bv).toArray, .int .i64 0], .agg ((leB 32 y).map bv).toArray, .int .i64 0, undef, undef, undef, undef, undef, undef, undef, undef, undef, undef, undef, undef, undef, undef, undef, undef, undef, undef, undef], defers := [] } ∧ Hid (Vw w W [(w.heap.size, 23, l0.map bv), (w.heap.size + 1, 23, l1.map bv), (p6, 23, (leB 32 x).map bv), (p8, 23, (leB 32 y).map bv)])) ?_ ?_
    · have HVd : Hid (Vw w Z1.drew [(w.heap.size, 23, l0.map bv), (w.heap.size + 1, 23, l1.map bv), (p6, 23, (leB 32 x).map bv)]) := HV.out.drew
      refine wp_region_keys 10 (Nat.le_refl _) (by kernel_rfl) (by kernel_rfl) (by kernel_rfl) (by kernel_rfl) [7] (fun p => 8) (fun p => 5) (plc_ofK (by kernel_rfl)) (fun j x' => match j with | 0 => x' = .agg (l1.map bv).toArray | 1 => x' = .agg (l0.map bv).toArray | 2 => x' = .agg ((leB 32 q).map bv).toArray | 3 => x' = .tuple #[.agg ((leB 32 y).map bv).toArray, .int .i64 0] | 4 => x' = .tuple #[.agg ((leB 32 y).map bv).toArray, .int .i64 0] | 5 => x' = .agg ((leB 32 y).map bv).toArray | 6 => x' = .int .i64 0 | 9 => x' = .int .i64 0 | _ => True) ?_ ?_ ?_
      · intro p hp x' hx'
        simp only [List.mem_cons, List.not_mem_nil, or_false] at hp
        subst hp
        exact ⟨_, 0, hx', KeyC.of _ (leB_length _ _)⟩
      · intro d v W i o AA hi hia his ho hv hdep hA hb
        have hcs : i = 0 ∨ i = 1 ∨ i = 2 ∨ i = 3 ∨ i = 4 ∨ i = 5 ∨ i = 6 ∨ i = 9 := by simp at hia his; omega
        rcases hcs with rfl | rfl | rfl | rfl | rfl | rfl | rfl | rfl
        · cases ho
          exact ⟨rfl, oper_val (exec_load_row 23 _ rfl (w.heap.size + 1) ((hA.slot 3 (by kernel_rfl)).trans rfl) 23 _ (0, 0) _ ((HVd.out.later hb).cell (w.heap.size + 1, 23, l1.map bv) (by simp)) Tryd.underlying23 rfl (hI.out _ w1)) ⟨_, rfl, rfl, Below.refl _ _⟩⟩
        · cases ho
          exact ⟨rfl, oper_val (exec_load_row 23 _ rfl (w.heap.size) ((hA.slot 2 (by kernel_rfl)).trans rfl) 23 _ (0, 0) _ ((HVd.out.later hb).cell (w.heap.size, 23, l0.map bv) (by simp)) Tryd.underlying23 rfl (hI.out _ w0)) ⟨_, rfl, rfl, Below.refl _ _⟩⟩
        · cases ho
          have h0 : AA.eval (.tmp 20) = .agg (l0.map bv).toArray := (hA.new 1 20 (by decide) (dep_done hdep 1 (by kernel_rfl)) rfl (of_decide_eq_true (by kernel_rfl))).trans (hv 1 (by decide) (by decide) (dep_done hdep 1 (by kernel_rfl)) (by decide))
          refine ⟨rfl, oper_call (exec_enter1 rfl rfl h0 (by go_simp)) ((HP0.out W (HTab.out.later (HVd.out.later hb).bel)).mono ?_)⟩
          rintro r W' ⟨rfl, hb'⟩
          exact ⟨_, rfl, _, rfl, rfl, hb'⟩
        · cases ho
          have h0 : AA.eval (.tmp 19) = .agg (l1.map bv).toArray := (hA.new 0 19 (by decide) (dep_done hdep 0 (by kernel_rfl)) rfl (of_decide_eq_true (by kernel_rfl))).trans (hv 0 (by decide) (by decide) (dep_done hdep 0 (by kernel_rfl)) (by decide))
          have h1 : AA.eval (.tmp 21) = .agg ((leB 32 q).map bv).toArray := (hA.new 2 21 (by decide) (dep_done hdep 2 (by kernel_rfl)) rfl (of_decide_eq_true (by kernel_rfl))).trans (hv 2 (by decide) (by decide) (dep_done hdep 2 (by kernel_rfl)) (by decide))
          refine ⟨rfl, oper_call (exec_enter2 rfl rfl h0 h1 (by go_simp)) ((HS1.out W (HTab.out.later (HVd.out.later hb).bel)).mono ?_)⟩
          rintro r W' ⟨rfl, hb'⟩
          exact ⟨_, rfl, _, rfl, rfl, hb'⟩
        · cases ho
          have h0 : AA.eval (.tmp 22) = .tuple #[.agg ((leB 32 y).map bv).toArray, .int .i64 0] := (hA.new 3 22 (by decide) (dep_done hdep 3 (by kernel_rfl)) rfl (of_decide_eq_true (by kernel_rfl))).trans (hv 3 (by decide) (by decide) (dep_done hdep 3 (by kernel_rfl)) (by decide))
          exact ⟨rfl, oper_val (exec_moved (.inl rfl) h0) ⟨_, rfl, rfl, Below.refl _ _⟩⟩
        · cases ho
          have h0 : AA.eval (.tmp 18) = .tuple #[.agg ((leB 32 y).map bv).toArray, .int .i64 0] := (hA.new 4 18 (by decide) (dep_done hdep 4 (by kernel_rfl)) rfl (of_decide_eq_true (by kernel_rfl))).trans (hv 4 (by decide) (by decide) (dep_done hdep 4 (by kernel_rfl)) (by decide))
          exact ⟨rfl, oper_val (exec_part rfl h0 rfl) ⟨_, rfl, rfl, Below.refl _ _⟩⟩
        · cases ho
          have h0 : AA.eval (.tmp 18) = .tuple #[.agg ((leB 32 y).map bv).toArray, .int .i64 0] := (hA.new 4 18 (by decide) (dep_done hdep 4 (by kernel_rfl)) rfl (of_decide_eq_true (by kernel_rfl))).trans (hv 4 (by decide) (by decide) (dep_done hdep 4 (by kernel_rfl)) (by decide))
          exact ⟨rfl, oper_val (exec_part rfl h0 rfl) ⟨_, rfl, rfl, Below.refl _ _⟩⟩
        · cases ho
          have h0 : AA.eval (.tmp 24) = .int .i64 0 := (hA.new 6 24 (by decide) (dep_done hdep 6 (by kernel_rfl)) rfl (of_decide_eq_true (by kernel_rfl))).trans (hv 6 (by decide) (by decide) (dep_done hdep 6 (by kernel_rfl)) (by decide))
          exact ⟨rfl, oper_val (exec_moved (.inr rfl) h0) ⟨_, rfl, rfl, Below.refl _ _⟩⟩
      · intro v g W hs hp hd hb
        have e0 : v 0 = .agg (l1.map bv).toArray := hs 0 (by decide) (by decide) (by decide)
        have e1 : v 1 = .agg (l0.map bv).toArray := hs 1 (by decide) (by decide) (by decide)
        have e2 : v 2 = .agg ((leB 32 q).map bv).toArray := hs 2 (by decide) (by decide) (by decide)
        have e3 : v 3 = .tuple #[.agg ((leB 32 y).map bv).toArray, .int .i64 0] := hs 3 (by decide) (by decide) (by decide)
        have e4 : v 4 = .tuple #[.agg ((leB 32 y).map bv).toArray, .int .i64 0] := hs 4 (by decide) (by decide) (by decide)
        have e5 : v 5 = .agg ((leB 32 y).map bv).toArray := hs 5 (by decide) (by decide) (by decide)
        have e6 : v 6 = .int .i64 0 := hs 6 (by decide) (by decide) (by decide)
        have e9 : v 9 = .int .i64 0 := hs 9 (by decide) (by decide) (by decide)
        obtain ⟨e7, hge7, c7, n7, hc7, hE7, hC7⟩ := hp 7 (by decide)
        rw [← agg_inj (e5.symm.trans hc7)] at hC7
        have HVn : Vw w W ([(w.heap.size, 23, l0.map bv), (w.heap.size + 1, 23, l1.map bv), (p6, 23, (leB 32 x).map bv)] ++ [(g 7, 23, (leB 32 y).map bv)]) := HVd.out.places hb 23 g (fun p => match p with | 7 => (leB 32 y).map bv | _ => []) [7] (by decide) (by
          intro p hp
          simp only [List.mem_cons, List.not_mem_nil, or_false] at hp
          subst hp
          exact ⟨hge7, hC7⟩) hd
        refine wp_tail_eq (l' := []) (a' := { tmps := #[.agg (l0.map bv).toArray, .agg (l1.map bv).toArray, .pointer (some ⟨w.heap.size, 0, none⟩), .pointer (some ⟨w.heap.size + 1, 0, none⟩), .bool false, .bool true, .pointer (some ⟨p6, 0, none⟩), .int .i64 0, v 7, v 9, .bool true, .tuple #[.agg ((leB 32 x).map bv).toArray, .int .i64 0], .agg (l0.map bv).toArray, .agg (l1.map bv).toArray, .agg ((leB 32 p).map bv).toArray, .tuple #[.agg ((leB 32 x).map bv).toArray, .int .i64 0], .agg ((leB 32 x).map bv).toArray, .int .i64 0, v 4, v 0, v 1, v 2, v 3, v 5, v 6, undef, undef, undef, undef, undef, undef, undef, undef, undef, undef, undef, undef, undef, undef, undef, undef, undef, undef, undef], defers := [] }) (by kernel_rfl) (by kernel_rfl) ?_
        rw [e0, e1, e2, e3, e4, e5, e6, e7, e9]
        exact ⟨rfl, g 7, rfl, HVn⟩
    · rintro a Z2 ⟨p8, rfl, HV⟩
      (try dsimp only)
      have q1 := keys_held Z2 x y true hxl hyl (decide_eq_true HXY.out.1).symm
      have q2 := held_zero Z2 x false hxl (decide_eq_false HXY.out.2).symm
      go_wp2_with (first | (refine wpList_load_met (by rfl) 23 _ rfl (w.heap.size) rfl 23 (l0.map bv).toArray (0, 0) _ ?_ Tryd.underlying23 rfl (hI.out _ w0) ?_; exact HV.out.cell (w.heap.size, 23, l0.map bv) (by simp)) | (refine wpList_load_met (by rfl) 23 _ rfl (w.heap.size + 1) rfl 23 (l1.map bv).toArray (0, 0) _ ?_ Tryd.underlying23 rfl (hI.out _ w1) ?_; exact HV.out.cell (w.heap.size + 1, 23, l1.map bv) (by simp)) | (refine wpList_load_met (by rfl) 23 _ rfl (p6) rfl 23 ((leB 32 x).map bv).toArray (0, 0) _ ?_ Tryd.underlying23 rfl (hI.out _ (leB_length _ _)) ?_; exact HV.out.cell (p6, 23, (leB 32 x).map bv) (by simp)) | (refine wpList_load_met (by rfl) 23 _ rfl (p8) rfl 23 ((leB 32 y).map bv).toArray (0, 0) _ ?_ Tryd.underlying23 rfl (hI.out _ (leB_length _ _)) ?_; exact HV.out.cell (p8, 23, (leB 32 y).map bv) (by simp)) | fail)
      go_ret
      exact ⟨rfl, HV.out.bel⟩
end Go.Proofs.YtmdoojfcgbokjaaDoor.curveAgrees
