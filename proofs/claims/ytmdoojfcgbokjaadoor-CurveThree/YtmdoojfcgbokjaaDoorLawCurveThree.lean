/- CurveThree. For every 3 keys, without a condition. -/
import Derived.Test.YtmdoojfcgbokjaaDoorCurShown
namespace Go.Proofs.YtmdoojfcgbokjaaDoor.curveThree
open Go.ChangeShapes Go.WideShapes Go.ChangeAt Go.RowKit
set_option linter.unusedVariables false

set_option maxHeartbeats 8000000 in
set_option maxRecDepth 100000 in
theorem walk (l0 l1 l2 : List UInt8) (w : World) (w0 : l0.length = 32) (w1 : l1.length = 32) (w2 : l2.length = 32) (htab : FTab w) :
    Calls Tryd.prog 10 #[.agg (l0.map bv).toArray, .agg (l1.map bv).toArray, .agg (l2.map bv).toArray] w fun e w' => e = .returned (.bool true) ∧ Below w.heap.size w w' := by
  have HTab : Hid (FTab w) := htab
  have hI : Hid (∀ l : List UInt8, l.length = 32 → (Tryd.prog.info? 23).map (·.size) = some (l.map bv).toArray.size) := fun l hl => info_size (n := 32) (by kernel_rfl) l hl
  have HV0 : Hid (Vw w (((w.alloc (.cells (l0.map bv).toArray 23)).alloc (.cells (l1.map bv).toArray 23)).alloc (.cells (l2.map bv).toArray 23)) [(w.heap.size, 23, l0.map bv), (w.heap.size + 1, 23, l1.map bv), (w.heap.size + 1 + 1, 23, l2.map bv)]) := by
    have h := ((((Vw.none w).alloc 23 (l0.map bv)).alloc 23 (l1.map bv)).alloc 23 (l2.map bv))
    (try simp only [World.size_alloc] at h)
    exact h
  clear htab
  go_enter Tryd.func10, Tryd.ntmps10
  go_wp2_with fail
  refine (cshown_any _ (HTab.out.later HV0.out.bel)).mono ?_
  rintro e V0 ⟨rfl, hb⟩
  have HV : Hid (Vw w V0 [(w.heap.size, 23, l0.map bv), (w.heap.size + 1, 23, l1.map bv), (w.heap.size + 1 + 1, 23, l2.map bv)]) := HV0.out.later hb
  clear hb HV0
  obtain ⟨px, hnpx⟩ : ∃ n, pubN l2 = n := ⟨_, rfl⟩
  have HNpx : Hid (pubN l2 = px) := hnpx
  have hpxl : px < P255 := by rw [← hnpx]; exact pubN_lt _
  have HPX : Hid (∀ W, FTab W → Calls Tryd.prog 15 #[.agg (l2.map bv).toArray] W fun e w' => e = .returned (.agg ((leB 32 px).map bv).toArray) ∧ Below W.heap.size W w') := fun W h => by
    have h1 := public_told l2 W w2 h
    rw [hnpx] at h1
    exact h1
  obtain ⟨qx, hnqx⟩ : ∃ n, mK l1 (leB 32 px) = n := ⟨_, rfl⟩
  have HNqx : Hid (mK l1 (leB 32 px) = qx) := hnqx
  have hqxl : qx < P255 := by rw [← hnqx]; exact mK_lt _ _
  have HQX : Hid (∀ W, FTab W → Calls Tryd.prog 12 #[.agg (l1.map bv).toArray, .agg ((leB 32 px).map bv).toArray] W fun e w' => e = .returned (.agg ((leB 32 qx).map bv).toArray) ∧ Below W.heap.size W w') := fun W h => by
    have h1 := mult_any l1 (leB 32 px) W w1 (leB_length _ _) h
    rw [hnqx] at h1
    exact h1
  obtain ⟨x, hnx⟩ : ∃ n, mK l0 (leB 32 qx) = n := ⟨_, rfl⟩
  have HNx : Hid (mK l0 (leB 32 qx) = x) := hnx
  have hxl : x < P255 := by rw [← hnx]; exact mK_lt _ _
  have HRX : Hid (∀ W, FTab W → Calls Tryd.prog 12 #[.agg (l0.map bv).toArray, .agg ((leB 32 qx).map bv).toArray] W fun e w' => e = .returned (.agg ((leB 32 x).map bv).toArray) ∧ Below W.heap.size W w') := fun W h => by
    have h1 := mult_any l0 (leB 32 qx) W w0 (leB_length _ _) h
    rw [hnx] at h1
    exact h1
  obtain ⟨py, hnpy⟩ : ∃ n, pubN l1 = n := ⟨_, rfl⟩
  have HNpy : Hid (pubN l1 = py) := hnpy
  have hpyl : py < P255 := by rw [← hnpy]; exact pubN_lt _
  have HPY : Hid (∀ W, FTab W → Calls Tryd.prog 15 #[.agg (l1.map bv).toArray] W fun e w' => e = .returned (.agg ((leB 32 py).map bv).toArray) ∧ Below W.heap.size W w') := fun W h => by
    have h1 := public_told l1 W w1 h
    rw [hnpy] at h1
    exact h1
  obtain ⟨qy, hnqy⟩ : ∃ n, mK l0 (leB 32 py) = n := ⟨_, rfl⟩
  have HNqy : Hid (mK l0 (leB 32 py) = qy) := hnqy
  have hqyl : qy < P255 := by rw [← hnqy]; exact mK_lt _ _
  have HQY : Hid (∀ W, FTab W → Calls Tryd.prog 12 #[.agg (l0.map bv).toArray, .agg ((leB 32 py).map bv).toArray] W fun e w' => e = .returned (.agg ((leB 32 qy).map bv).toArray) ∧ Below W.heap.size W w') := fun W h => by
    have h1 := mult_any l0 (leB 32 py) W w0 (leB_length _ _) h
    rw [hnqy] at h1
    exact h1
  obtain ⟨y, hny⟩ : ∃ n, mK l2 (leB 32 qy) = n := ⟨_, rfl⟩
  have HNy : Hid (mK l2 (leB 32 qy) = y) := hny
  have hyl : y < P255 := by rw [← hny]; exact mK_lt _ _
  have HRY : Hid (∀ W, FTab W → Calls Tryd.prog 12 #[.agg (l2.map bv).toArray, .agg ((leB 32 qy).map bv).toArray] W fun e w' => e = .returned (.agg ((leB 32 y).map bv).toArray) ∧ Below W.heap.size W w') := fun W h => by
    have h1 := mult_any l2 (leB 32 qy) W w2 (leB_length _ _) h
    rw [hny] at h1
    exact h1
  obtain ⟨pz, hnpz⟩ : ∃ n, pubN l0 = n := ⟨_, rfl⟩
  have HNpz : Hid (pubN l0 = pz) := hnpz
  have hpzl : pz < P255 := by rw [← hnpz]; exact pubN_lt _
  have HPZ : Hid (∀ W, FTab W → Calls Tryd.prog 15 #[.agg (l0.map bv).toArray] W fun e w' => e = .returned (.agg ((leB 32 pz).map bv).toArray) ∧ Below W.heap.size W w') := fun W h => by
    have h1 := public_told l0 W w0 h
    rw [hnpz] at h1
    exact h1
  obtain ⟨qz, hnqz⟩ : ∃ n, mK l2 (leB 32 pz) = n := ⟨_, rfl⟩
  have HNqz : Hid (mK l2 (leB 32 pz) = qz) := hnqz
  have hqzl : qz < P255 := by rw [← hnqz]; exact mK_lt _ _
  have HQZ : Hid (∀ W, FTab W → Calls Tryd.prog 12 #[.agg (l2.map bv).toArray, .agg ((leB 32 pz).map bv).toArray] W fun e w' => e = .returned (.agg ((leB 32 qz).map bv).toArray) ∧ Below W.heap.size W w') := fun W h => by
    have h1 := mult_any l2 (leB 32 pz) W w2 (leB_length _ _) h
    rw [hnqz] at h1
    exact h1
  obtain ⟨z, hnz⟩ : ∃ n, mK l1 (leB 32 qz) = n := ⟨_, rfl⟩
  have HNz : Hid (mK l1 (leB 32 qz) = z) := hnz
  have hzl : z < P255 := by rw [← hnz]; exact mK_lt _ _
  have HRZ : Hid (∀ W, FTab W → Calls Tryd.prog 12 #[.agg (l1.map bv).toArray, .agg ((leB 32 qz).map bv).toArray] W fun e w' => e = .returned (.agg ((leB 32 z).map bv).toArray) ∧ Below W.heap.size W w') := fun W h => by
    have h1 := mult_any l1 (leB 32 qz) W w1 (leB_length _ _) h
    rw [hnz] at h1
    exact h1
  have HXYZ : Hid (x = y ∧ y = z ∧ x ≠ 0) := by
    rw [← HNx.out, ← HNy.out, ← HNz.out, ← HNqx.out, ← HNqy.out, ← HNqz.out, ← HNpx.out, ← HNpy.out, ← HNpz.out]
    exact ⟨three_eq _ _ _, three_eq _ _ _, three_ne _ _ _⟩
  clear hnpx hnqx hnx hnpy hnqy hny hnpz hnqz hnz
  go_wp2
  refine wp_cut (fun a W => ∃ p8 : Nat, a = { tmps := #[.agg (l0.map bv).toArray, .agg (l1.map bv).toArray, .agg (l2.map bv).toArray, .pointer (some ⟨w.heap.size, 0, none⟩), .pointer (some ⟨w.heap.size + 1, 0, none⟩), .pointer (some ⟨w.heap.size + 1 + 1, 0, none⟩), .bool false, .bool true, .pointer (some ⟨p8, 0, none⟩), undef, undef, .bool true, .agg (l0.map bv).toArray, .agg (l1.map bv).toArray, .agg (l2.map bv).toArray, .agg ((leB 32 px).map bv).toArray, .agg ((leB 32 qx).map bv).toArray, .agg ((leB 32 x).map bv).toArray, undef, undef, undef, undef, undef, undef, undef, undef, undef, undef, undef, undef, undef, undef, undef, undef, undef, undef, undef, undef, undef, undef, undef, undef, undef, undef, undef, undef], defers := [] } ∧ Hid (Vw w W [(w.heap.size, 23, l0.map bv), (w.heap.size + 1, 23, l1.map bv), (w.heap.size + 1 + 1, 23, l2.map bv), (p8, 23, (leB 32 x).map bv)])) ?_ ?_
  · have HVd : Hid (Vw w V0.drew [(w.heap.size, 23, l0.map bv), (w.heap.size + 1, 23, l1.map bv), (w.heap.size + 1 + 1, 23, l2.map bv)]) := HV.out.drew
    refine wp_region_keys 8 (Nat.le_refl _) (by kernel_rfl) (by kernel_rfl) (by kernel_rfl) (by kernel_rfl) [6] (fun p => 7) (fun p => 5) (plc_ofK (by kernel_rfl)) (fun j x' => match j with | 0 => x' = .agg (l0.map bv).toArray | 1 => x' = .agg (l1.map bv).toArray | 2 => x' = .agg (l2.map bv).toArray | 3 => x' = .agg ((leB 32 px).map bv).toArray | 4 => x' = .agg ((leB 32 qx).map bv).toArray | 5 => x' = .agg ((leB 32 x).map bv).toArray | _ => True) ?_ ?_ ?_
    · intro p hp x' hx'
      simp only [List.mem_cons, List.not_mem_nil, or_false] at hp
      subst hp
      exact ⟨_, 0, hx', KeyC.of _ (leB_length _ _)⟩
    · intro d v W i o AA hi hia his ho hv hdep hA hb
      have hcs : i = 0 ∨ i = 1 ∨ i = 2 ∨ i = 3 ∨ i = 4 ∨ i = 5 := by simp at hia his; omega
      rcases hcs with rfl | rfl | rfl | rfl | rfl | rfl
      · cases ho
        exact ⟨rfl, oper_val (exec_load_row 23 _ rfl (w.heap.size) ((hA.slot 3 (by kernel_rfl)).trans rfl) 23 _ (0, 0) _ ((HVd.out.later hb).cell (w.heap.size, 23, l0.map bv) (by simp)) Tryd.underlying23 rfl (hI.out _ w0)) ⟨_, rfl, rfl, Below.refl _ _⟩⟩
      · cases ho
        exact ⟨rfl, oper_val (exec_load_row 23 _ rfl (w.heap.size + 1) ((hA.slot 4 (by kernel_rfl)).trans rfl) 23 _ (0, 0) _ ((HVd.out.later hb).cell (w.heap.size + 1, 23, l1.map bv) (by simp)) Tryd.underlying23 rfl (hI.out _ w1)) ⟨_, rfl, rfl, Below.refl _ _⟩⟩
      · cases ho
        exact ⟨rfl, oper_val (exec_load_row 23 _ rfl (w.heap.size + 1 + 1) ((hA.slot 5 (by kernel_rfl)).trans rfl) 23 _ (0, 0) _ ((HVd.out.later hb).cell (w.heap.size + 1 + 1, 23, l2.map bv) (by simp)) Tryd.underlying23 rfl (hI.out _ w2)) ⟨_, rfl, rfl, Below.refl _ _⟩⟩
      · cases ho
        have h0 : AA.eval (.tmp 14) = .agg (l2.map bv).toArray := (hA.new 2 14 (by decide) (dep_done hdep 2 (by kernel_rfl)) rfl (of_decide_eq_true (by kernel_rfl))).trans (hv 2 (by decide) (by decide) (dep_done hdep 2 (by kernel_rfl)) (by decide))
        refine ⟨rfl, oper_call (exec_enter1 rfl rfl h0 (by go_simp)) ((HPX.out W (HTab.out.later (HVd.out.later hb).bel)).mono ?_)⟩
        rintro r W' ⟨rfl, hb'⟩
        exact ⟨_, rfl, _, rfl, rfl, hb'⟩
      · cases ho
        have h0 : AA.eval (.tmp 13) = .agg (l1.map bv).toArray := (hA.new 1 13 (by decide) (dep_done hdep 1 (by kernel_rfl)) rfl (of_decide_eq_true (by kernel_rfl))).trans (hv 1 (by decide) (by decide) (dep_done hdep 1 (by kernel_rfl)) (by decide))
        have h1 : AA.eval (.tmp 15) = .agg ((leB 32 px).map bv).toArray := (hA.new 3 15 (by decide) (dep_done hdep 3 (by kernel_rfl)) rfl (of_decide_eq_true (by kernel_rfl))).trans (hv 3 (by decide) (by decide) (dep_done hdep 3 (by kernel_rfl)) (by decide))
        refine ⟨rfl, oper_call (exec_enter2 rfl rfl h0 h1 (by go_simp)) ((HQX.out W (HTab.out.later (HVd.out.later hb).bel)).mono ?_)⟩
        rintro r W' ⟨rfl, hb'⟩
        exact ⟨_, rfl, _, rfl, rfl, hb'⟩
      · cases ho
        have h0 : AA.eval (.tmp 12) = .agg (l0.map bv).toArray := (hA.new 0 12 (by decide) (dep_done hdep 0 (by kernel_rfl)) rfl (of_decide_eq_true (by kernel_rfl))).trans (hv 0 (by decide) (by decide) (dep_done hdep 0 (by kernel_rfl)) (by decide))
        have h1 : AA.eval (.tmp 16) = .agg ((leB 32 qx).map bv).toArray := (hA.new 4 16 (by decide) (dep_done hdep 4 (by kernel_rfl)) rfl (of_decide_eq_true (by kernel_rfl))).trans (hv 4 (by decide) (by decide) (dep_done hdep 4 (by kernel_rfl)) (by decide))
        refine ⟨rfl, oper_call (exec_enter2 rfl rfl h0 h1 (by go_simp)) ((HRX.out W (HTab.out.later (HVd.out.later hb).bel)).mono ?_)⟩
        rintro r W' ⟨rfl, hb'⟩
        exact ⟨_, rfl, _, rfl, rfl, hb'⟩
    · intro v g W hs hp hd hb
      have e0 : v 0 = .agg (l0.map bv).toArray := hs 0 (by decide) (by decide) (by decide)
      have e1 : v 1 = .agg (l1.map bv).toArray := hs 1 (by decide) (by decide) (by decide)
      have e2 : v 2 = .agg (l2.map bv).toArray := hs 2 (by decide) (by decide) (by decide)
      have e3 : v 3 = .agg ((leB 32 px).map bv).toArray := hs 3 (by decide) (by decide) (by decide)
      have e4 : v 4 = .agg ((leB 32 qx).map bv).toArray := hs 4 (by decide) (by decide) (by decide)
      have e5 : v 5 = .agg ((leB 32 x).map bv).toArray := hs 5 (by decide) (by decide) (by decide)
      obtain ⟨e6, hge6, c6, n6, hc6, hE6, hC6⟩ := hp 6 (by decide)
      rw [← agg_inj (e5.symm.trans hc6)] at hC6
      have HVn : Vw w W ([(w.heap.size, 23, l0.map bv), (w.heap.size + 1, 23, l1.map bv), (w.heap.size + 1 + 1, 23, l2.map bv)] ++ [(g 6, 23, (leB 32 x).map bv)]) := HVd.out.places hb 23 g (fun p => match p with | 6 => (leB 32 x).map bv | _ => []) [6] (by decide) (by
        intro p hp
        simp only [List.mem_cons, List.not_mem_nil, or_false] at hp
        subst hp
        exact ⟨hge6, hC6⟩) hd
      refine wp_tail_eq (l' := []) (a' := { tmps := #[.agg (l0.map bv).toArray, .agg (l1.map bv).toArray, .agg (l2.map bv).toArray, .pointer (some ⟨w.heap.size, 0, none⟩), .pointer (some ⟨w.heap.size + 1, 0, none⟩), .pointer (some ⟨w.heap.size + 1 + 1, 0, none⟩), .bool false, .bool true, v 6, undef, undef, .bool true, v 0, v 1, v 2, v 3, v 4, v 5, undef, undef, undef, undef, undef, undef, undef, undef, undef, undef, undef, undef, undef, undef, undef, undef, undef, undef, undef, undef, undef, undef, undef, undef, undef, undef, undef, undef], defers := [] }) (by kernel_rfl) (by kernel_rfl) ?_
      rw [e0, e1, e2, e3, e4, e5, e6]
      exact ⟨rfl, g 6, rfl, HVn⟩
  · rintro a Z1 ⟨p8, rfl, HV⟩
    (try dsimp only)
    go_wp2
    refine wp_cut (fun a W => ∃ p9 : Nat, a = { tmps := #[.agg (l0.map bv).toArray, .agg (l1.map bv).toArray, .agg (l2.map bv).toArray, .pointer (some ⟨w.heap.size, 0, none⟩), .pointer (some ⟨w.heap.size + 1, 0, none⟩), .pointer (some ⟨w.heap.size + 1 + 1, 0, none⟩), .bool false, .bool true, .pointer (some ⟨p8, 0, none⟩), .pointer (some ⟨p9, 0, none⟩), undef, .bool true, .agg (l0.map bv).toArray, .agg (l1.map bv).toArray, .agg (l2.map bv).toArray, .agg ((leB 32 px).map bv).toArray, .agg ((leB 32 qx).map bv).toArray, .agg ((leB 32 x).map bv).toArray, .agg (l2.map bv).toArray, .agg (l0.map bv).toArray, .agg (l1.map bv).toArray, .agg ((leB 32 py).map bv).toArray, .agg ((leB 32 qy).map bv).toArray, .agg ((leB 32 y).map bv).toArray, undef, undef, undef, undef, undef, undef, undef, undef, undef, undef, undef, undef, undef, undef, undef, undef, undef, undef, undef, undef, undef, undef], defers := [] } ∧ Hid (Vw w W [(w.heap.size, 23, l0.map bv), (w.heap.size + 1, 23, l1.map bv), (w.heap.size + 1 + 1, 23, l2.map bv), (p8, 23, (leB 32 x).map bv), (p9, 23, (leB 32 y).map bv)])) ?_ ?_
    · have HVd : Hid (Vw w Z1.drew [(w.heap.size, 23, l0.map bv), (w.heap.size + 1, 23, l1.map bv), (w.heap.size + 1 + 1, 23, l2.map bv), (p8, 23, (leB 32 x).map bv)]) := HV.out.drew
      refine wp_region_keys 8 (Nat.le_refl _) (by kernel_rfl) (by kernel_rfl) (by kernel_rfl) (by kernel_rfl) [6] (fun p => 7) (fun p => 5) (plc_ofK (by kernel_rfl)) (fun j x' => match j with | 0 => x' = .agg (l2.map bv).toArray | 1 => x' = .agg (l0.map bv).toArray | 2 => x' = .agg (l1.map bv).toArray | 3 => x' = .agg ((leB 32 py).map bv).toArray | 4 => x' = .agg ((leB 32 qy).map bv).toArray | 5 => x' = .agg ((leB 32 y).map bv).toArray | _ => True) ?_ ?_ ?_
      · intro p hp x' hx'
        simp only [List.mem_cons, List.not_mem_nil, or_false] at hp
        subst hp
        exact ⟨_, 0, hx', KeyC.of _ (leB_length _ _)⟩
      · intro d v W i o AA hi hia his ho hv hdep hA hb
        have hcs : i = 0 ∨ i = 1 ∨ i = 2 ∨ i = 3 ∨ i = 4 ∨ i = 5 := by simp at hia his; omega
        rcases hcs with rfl | rfl | rfl | rfl | rfl | rfl
        · cases ho
          exact ⟨rfl, oper_val (exec_load_row 23 _ rfl (w.heap.size + 1 + 1) ((hA.slot 5 (by kernel_rfl)).trans rfl) 23 _ (0, 0) _ ((HVd.out.later hb).cell (w.heap.size + 1 + 1, 23, l2.map bv) (by simp)) Tryd.underlying23 rfl (hI.out _ w2)) ⟨_, rfl, rfl, Below.refl _ _⟩⟩
        · cases ho
          exact ⟨rfl, oper_val (exec_load_row 23 _ rfl (w.heap.size) ((hA.slot 3 (by kernel_rfl)).trans rfl) 23 _ (0, 0) _ ((HVd.out.later hb).cell (w.heap.size, 23, l0.map bv) (by simp)) Tryd.underlying23 rfl (hI.out _ w0)) ⟨_, rfl, rfl, Below.refl _ _⟩⟩
        · cases ho
          exact ⟨rfl, oper_val (exec_load_row 23 _ rfl (w.heap.size + 1) ((hA.slot 4 (by kernel_rfl)).trans rfl) 23 _ (0, 0) _ ((HVd.out.later hb).cell (w.heap.size + 1, 23, l1.map bv) (by simp)) Tryd.underlying23 rfl (hI.out _ w1)) ⟨_, rfl, rfl, Below.refl _ _⟩⟩
        · cases ho
          have h0 : AA.eval (.tmp 20) = .agg (l1.map bv).toArray := (hA.new 2 20 (by decide) (dep_done hdep 2 (by kernel_rfl)) rfl (of_decide_eq_true (by kernel_rfl))).trans (hv 2 (by decide) (by decide) (dep_done hdep 2 (by kernel_rfl)) (by decide))
          refine ⟨rfl, oper_call (exec_enter1 rfl rfl h0 (by go_simp)) ((HPY.out W (HTab.out.later (HVd.out.later hb).bel)).mono ?_)⟩
          rintro r W' ⟨rfl, hb'⟩
          exact ⟨_, rfl, _, rfl, rfl, hb'⟩
        · cases ho
          have h0 : AA.eval (.tmp 19) = .agg (l0.map bv).toArray := (hA.new 1 19 (by decide) (dep_done hdep 1 (by kernel_rfl)) rfl (of_decide_eq_true (by kernel_rfl))).trans (hv 1 (by decide) (by decide) (dep_done hdep 1 (by kernel_rfl)) (by decide))
          have h1 : AA.eval (.tmp 21) = .agg ((leB 32 py).map bv).toArray := (hA.new 3 21 (by decide) (dep_done hdep 3 (by kernel_rfl)) rfl (of_decide_eq_true (by kernel_rfl))).trans (hv 3 (by decide) (by decide) (dep_done hdep 3 (by kernel_rfl)) (by decide))
          refine ⟨rfl, oper_call (exec_enter2 rfl rfl h0 h1 (by go_simp)) ((HQY.out W (HTab.out.later (HVd.out.later hb).bel)).mono ?_)⟩
          rintro r W' ⟨rfl, hb'⟩
          exact ⟨_, rfl, _, rfl, rfl, hb'⟩
        · cases ho
          have h0 : AA.eval (.tmp 18) = .agg (l2.map bv).toArray := (hA.new 0 18 (by decide) (dep_done hdep 0 (by kernel_rfl)) rfl (of_decide_eq_true (by kernel_rfl))).trans (hv 0 (by decide) (by decide) (dep_done hdep 0 (by kernel_rfl)) (by decide))
          have h1 : AA.eval (.tmp 22) = .agg ((leB 32 qy).map bv).toArray := (hA.new 4 22 (by decide) (dep_done hdep 4 (by kernel_rfl)) rfl (of_decide_eq_true (by kernel_rfl))).trans (hv 4 (by decide) (by decide) (dep_done hdep 4 (by kernel_rfl)) (by decide))
          refine ⟨rfl, oper_call (exec_enter2 rfl rfl h0 h1 (by go_simp)) ((HRY.out W (HTab.out.later (HVd.out.later hb).bel)).mono ?_)⟩
          rintro r W' ⟨rfl, hb'⟩
          exact ⟨_, rfl, _, rfl, rfl, hb'⟩
      · intro v g W hs hp hd hb
        have e0 : v 0 = .agg (l2.map bv).toArray := hs 0 (by decide) (by decide) (by decide)
        have e1 : v 1 = .agg (l0.map bv).toArray := hs 1 (by decide) (by decide) (by decide)
        have e2 : v 2 = .agg (l1.map bv).toArray := hs 2 (by decide) (by decide) (by decide)
        have e3 : v 3 = .agg ((leB 32 py).map bv).toArray := hs 3 (by decide) (by decide) (by decide)
        have e4 : v 4 = .agg ((leB 32 qy).map bv).toArray := hs 4 (by decide) (by decide) (by decide)
        have e5 : v 5 = .agg ((leB 32 y).map bv).toArray := hs 5 (by decide) (by decide) (by decide)
        obtain ⟨e6, hge6, c6, n6, hc6, hE6, hC6⟩ := hp 6 (by decide)
        rw [← agg_inj (e5.symm.trans hc6)] at hC6
        have HVn : Vw w W ([(w.heap.size, 23, l0.map bv), (w.heap.size + 1, 23, l1.map bv), (w.heap.size + 1 + 1, 23, l2.map bv), (p8, 23, (leB 32 x).map bv)] ++ [(g 6, 23, (leB 32 y).map bv)]) := HVd.out.places hb 23 g (fun p => match p with | 6 => (leB 32 y).map bv | _ => []) [6] (by decide) (by
          intro p hp
          simp only [List.mem_cons, List.not_mem_nil, or_false] at hp
          subst hp
          exact ⟨hge6, hC6⟩) hd
        refine wp_tail_eq (l' := []) (a' := { tmps := #[.agg (l0.map bv).toArray, .agg (l1.map bv).toArray, .agg (l2.map bv).toArray, .pointer (some ⟨w.heap.size, 0, none⟩), .pointer (some ⟨w.heap.size + 1, 0, none⟩), .pointer (some ⟨w.heap.size + 1 + 1, 0, none⟩), .bool false, .bool true, .pointer (some ⟨p8, 0, none⟩), v 6, undef, .bool true, .agg (l0.map bv).toArray, .agg (l1.map bv).toArray, .agg (l2.map bv).toArray, .agg ((leB 32 px).map bv).toArray, .agg ((leB 32 qx).map bv).toArray, .agg ((leB 32 x).map bv).toArray, v 0, v 1, v 2, v 3, v 4, v 5, undef, undef, undef, undef, undef, undef, undef, undef, undef, undef, undef, undef, undef, undef, undef, undef, undef, undef, undef, undef, undef, undef], defers := [] }) (by kernel_rfl) (by kernel_rfl) ?_
        rw [e0, e1, e2, e3, e4, e5, e6]
        exact ⟨rfl, g 6, rfl, HVn⟩
    · rintro a Z2 ⟨p9, rfl, HV⟩
      (try dsimp only)
      go_wp2
      refine wp_cut (fun a W => ∃ p10 : Nat, a = { tmps := #[.agg (l0.map bv).toArray, .agg (l1.map bv).toArray, .agg (l2.map bv).toArray, .pointer (some ⟨w.heap.size, 0, none⟩), .pointer (some ⟨w.heap.size + 1, 0, none⟩), .pointer (some ⟨w.heap.size + 1 + 1, 0, none⟩), .bool false, .bool true, .pointer (some ⟨p8, 0, none⟩), .pointer (some ⟨p9, 0, none⟩), .pointer (some ⟨p10, 0, none⟩), .bool true, .agg (l0.map bv).toArray, .agg (l1.map bv).toArray, .agg (l2.map bv).toArray, .agg ((leB 32 px).map bv).toArray, .agg ((leB 32 qx).map bv).toArray, .agg ((leB 32 x).map bv).toArray, .agg (l2.map bv).toArray, .agg (l0.map bv).toArray, .agg (l1.map bv).toArray, .agg ((leB 32 py).map bv).toArray, .agg ((leB 32 qy).map bv).toArray, .agg ((leB 32 y).map bv).toArray, .agg (l1.map bv).toArray, .agg (l2.map bv).toArray, .agg (l0.map bv).toArray, .agg ((leB 32 pz).map bv).toArray, .agg ((leB 32 qz).map bv).toArray, .agg ((leB 32 z).map bv).toArray, undef, undef, undef, undef, undef, undef, undef, undef, undef, undef, undef, undef, undef, undef, undef, undef], defers := [] } ∧ Hid (Vw w W [(w.heap.size, 23, l0.map bv), (w.heap.size + 1, 23, l1.map bv), (w.heap.size + 1 + 1, 23, l2.map bv), (p8, 23, (leB 32 x).map bv), (p9, 23, (leB 32 y).map bv), (p10, 23, (leB 32 z).map bv)])) ?_ ?_
      · have HVd : Hid (Vw w Z2.drew [(w.heap.size, 23, l0.map bv), (w.heap.size + 1, 23, l1.map bv), (w.heap.size + 1 + 1, 23, l2.map bv), (p8, 23, (leB 32 x).map bv), (p9, 23, (leB 32 y).map bv)]) := HV.out.drew
        refine wp_region_keys 8 (Nat.le_refl _) (by kernel_rfl) (by kernel_rfl) (by kernel_rfl) (by kernel_rfl) [6] (fun p => 7) (fun p => 5) (plc_ofK (by kernel_rfl)) (fun j x' => match j with | 0 => x' = .agg (l1.map bv).toArray | 1 => x' = .agg (l2.map bv).toArray | 2 => x' = .agg (l0.map bv).toArray | 3 => x' = .agg ((leB 32 pz).map bv).toArray | 4 => x' = .agg ((leB 32 qz).map bv).toArray | 5 => x' = .agg ((leB 32 z).map bv).toArray | _ => True) ?_ ?_ ?_
        · intro p hp x' hx'
          simp only [List.mem_cons, List.not_mem_nil, or_false] at hp
          subst hp
          exact ⟨_, 0, hx', KeyC.of _ (leB_length _ _)⟩
        · intro d v W i o AA hi hia his ho hv hdep hA hb
          have hcs : i = 0 ∨ i = 1 ∨ i = 2 ∨ i = 3 ∨ i = 4 ∨ i = 5 := by simp at hia his; omega
          rcases hcs with rfl | rfl | rfl | rfl | rfl | rfl
          · cases ho
            exact ⟨rfl, oper_val (exec_load_row 23 _ rfl (w.heap.size + 1) ((hA.slot 4 (by kernel_rfl)).trans rfl) 23 _ (0, 0) _ ((HVd.out.later hb).cell (w.heap.size + 1, 23, l1.map bv) (by simp)) Tryd.underlying23 rfl (hI.out _ w1)) ⟨_, rfl, rfl, Below.refl _ _⟩⟩
          · cases ho
            exact ⟨rfl, oper_val (exec_load_row 23 _ rfl (w.heap.size + 1 + 1) ((hA.slot 5 (by kernel_rfl)).trans rfl) 23 _ (0, 0) _ ((HVd.out.later hb).cell (w.heap.size + 1 + 1, 23, l2.map bv) (by simp)) Tryd.underlying23 rfl (hI.out _ w2)) ⟨_, rfl, rfl, Below.refl _ _⟩⟩
          · cases ho
            exact ⟨rfl, oper_val (exec_load_row 23 _ rfl (w.heap.size) ((hA.slot 3 (by kernel_rfl)).trans rfl) 23 _ (0, 0) _ ((HVd.out.later hb).cell (w.heap.size, 23, l0.map bv) (by simp)) Tryd.underlying23 rfl (hI.out _ w0)) ⟨_, rfl, rfl, Below.refl _ _⟩⟩
          · cases ho
            have h0 : AA.eval (.tmp 26) = .agg (l0.map bv).toArray := (hA.new 2 26 (by decide) (dep_done hdep 2 (by kernel_rfl)) rfl (of_decide_eq_true (by kernel_rfl))).trans (hv 2 (by decide) (by decide) (dep_done hdep 2 (by kernel_rfl)) (by decide))
            refine ⟨rfl, oper_call (exec_enter1 rfl rfl h0 (by go_simp)) ((HPZ.out W (HTab.out.later (HVd.out.later hb).bel)).mono ?_)⟩
            rintro r W' ⟨rfl, hb'⟩
            exact ⟨_, rfl, _, rfl, rfl, hb'⟩
          · cases ho
            have h0 : AA.eval (.tmp 25) = .agg (l2.map bv).toArray := (hA.new 1 25 (by decide) (dep_done hdep 1 (by kernel_rfl)) rfl (of_decide_eq_true (by kernel_rfl))).trans (hv 1 (by decide) (by decide) (dep_done hdep 1 (by kernel_rfl)) (by decide))
            have h1 : AA.eval (.tmp 27) = .agg ((leB 32 pz).map bv).toArray := (hA.new 3 27 (by decide) (dep_done hdep 3 (by kernel_rfl)) rfl (of_decide_eq_true (by kernel_rfl))).trans (hv 3 (by decide) (by decide) (dep_done hdep 3 (by kernel_rfl)) (by decide))
            refine ⟨rfl, oper_call (exec_enter2 rfl rfl h0 h1 (by go_simp)) ((HQZ.out W (HTab.out.later (HVd.out.later hb).bel)).mono ?_)⟩
            rintro r W' ⟨rfl, hb'⟩
            exact ⟨_, rfl, _, rfl, rfl, hb'⟩
          · cases ho
            have h0 : AA.eval (.tmp 24) = .agg (l1.map bv).toArray := (hA.new 0 24 (by decide) (dep_done hdep 0 (by kernel_rfl)) rfl (of_decide_eq_true (by kernel_rfl))).trans (hv 0 (by decide) (by decide) (dep_done hdep 0 (by kernel_rfl)) (by decide))
            have h1 : AA.eval (.tmp 28) = .agg ((leB 32 qz).map bv).toArray := (hA.new 4 28 (by decide) (dep_done hdep 4 (by kernel_rfl)) rfl (of_decide_eq_true (by kernel_rfl))).trans (hv 4 (by decide) (by decide) (dep_done hdep 4 (by kernel_rfl)) (by decide))
            refine ⟨rfl, oper_call (exec_enter2 rfl rfl h0 h1 (by go_simp)) ((HRZ.out W (HTab.out.later (HVd.out.later hb).bel)).mono ?_)⟩
            rintro r W' ⟨rfl, hb'⟩
            exact ⟨_, rfl, _, rfl, rfl, hb'⟩
        · intro v g W hs hp hd hb
          have e0 : v 0 = .agg (l1.map bv).toArray := hs 0 (by decide) (by decide) (by decide)
          have e1 : v 1 = .agg (l2.map bv).toArray := hs 1 (by decide) (by decide) (by decide)
          have e2 : v 2 = .agg (l0.map bv).toArray := hs 2 (by decide) (by decide) (by decide)
          have e3 : v 3 = .agg ((leB 32 pz).map bv).toArray := hs 3 (by decide) (by decide) (by decide)
          have e4 : v 4 = .agg ((leB 32 qz).map bv).toArray := hs 4 (by decide) (by decide) (by decide)
          have e5 : v 5 = .agg ((leB 32 z).map bv).toArray := hs 5 (by decide) (by decide) (by decide)
          obtain ⟨e6, hge6, c6, n6, hc6, hE6, hC6⟩ := hp 6 (by decide)
          rw [← agg_inj (e5.symm.trans hc6)] at hC6
          have HVn : Vw w W ([(w.heap.size, 23, l0.map bv), (w.heap.size + 1, 23, l1.map bv), (w.heap.size + 1 + 1, 23, l2.map bv), (p8, 23, (leB 32 x).map bv), (p9, 23, (leB 32 y).map bv)] ++ [(g 6, 23, (leB 32 z).map bv)]) := HVd.out.places hb 23 g (fun p => match p with | 6 => (leB 32 z).map bv | _ => []) [6] (by decide) (by
            intro p hp
            simp only [List.mem_cons, List.not_mem_nil, or_false] at hp
            subst hp
            exact ⟨hge6, hC6⟩) hd
          refine wp_tail_eq (l' := []) (a' := { tmps := #[.agg (l0.map bv).toArray, .agg (l1.map bv).toArray, .agg (l2.map bv).toArray, .pointer (some ⟨w.heap.size, 0, none⟩), .pointer (some ⟨w.heap.size + 1, 0, none⟩), .pointer (some ⟨w.heap.size + 1 + 1, 0, none⟩), .bool false, .bool true, .pointer (some ⟨p8, 0, none⟩), .pointer (some ⟨p9, 0, none⟩), v 6, .bool true, .agg (l0.map bv).toArray, .agg (l1.map bv).toArray, .agg (l2.map bv).toArray, .agg ((leB 32 px).map bv).toArray, .agg ((leB 32 qx).map bv).toArray, .agg ((leB 32 x).map bv).toArray, .agg (l2.map bv).toArray, .agg (l0.map bv).toArray, .agg (l1.map bv).toArray, .agg ((leB 32 py).map bv).toArray, .agg ((leB 32 qy).map bv).toArray, .agg ((leB 32 y).map bv).toArray, v 0, v 1, v 2, v 3, v 4, v 5, undef, undef, undef, undef, undef, undef, undef, undef, undef, undef, undef, undef, undef, undef, undef, undef], defers := [] }) (by kernel_rfl) (by kernel_rfl) ?_
          rw [e0, e1, e2, e3, e4, e5, e6]
          exact ⟨rfl, g 6, rfl, HVn⟩
      · rintro a Z3 ⟨p10, rfl, HV⟩
        (try dsimp only)
        have q1 := keys_held Z3 x y true hxl hyl (decide_eq_true HXYZ.out.1).symm
        have q2 := keys_held Z3 y z true hyl hzl (decide_eq_true HXYZ.out.2.1).symm
        have q3 := held_zero Z3 x false hxl (decide_eq_false HXYZ.out.2.2).symm
        go_wp2_with (first | (refine wpList_load_met (by rfl) 23 _ rfl (w.heap.size) rfl 23 (l0.map bv).toArray (0, 0) _ ?_ Tryd.underlying23 rfl (hI.out _ w0) ?_; exact HV.out.cell (w.heap.size, 23, l0.map bv) (by simp)) | (refine wpList_load_met (by rfl) 23 _ rfl (w.heap.size + 1) rfl 23 (l1.map bv).toArray (0, 0) _ ?_ Tryd.underlying23 rfl (hI.out _ w1) ?_; exact HV.out.cell (w.heap.size + 1, 23, l1.map bv) (by simp)) | (refine wpList_load_met (by rfl) 23 _ rfl (w.heap.size + 1 + 1) rfl 23 (l2.map bv).toArray (0, 0) _ ?_ Tryd.underlying23 rfl (hI.out _ w2) ?_; exact HV.out.cell (w.heap.size + 1 + 1, 23, l2.map bv) (by simp)) | (refine wpList_load_met (by rfl) 23 _ rfl (p8) rfl 23 ((leB 32 x).map bv).toArray (0, 0) _ ?_ Tryd.underlying23 rfl (hI.out _ (leB_length _ _)) ?_; exact HV.out.cell (p8, 23, (leB 32 x).map bv) (by simp)) | (refine wpList_load_met (by rfl) 23 _ rfl (p9) rfl 23 ((leB 32 y).map bv).toArray (0, 0) _ ?_ Tryd.underlying23 rfl (hI.out _ (leB_length _ _)) ?_; exact HV.out.cell (p9, 23, (leB 32 y).map bv) (by simp)) | (refine wpList_load_met (by rfl) 23 _ rfl (p10) rfl 23 ((leB 32 z).map bv).toArray (0, 0) _ ?_ Tryd.underlying23 rfl (hI.out _ (leB_length _ _)) ?_; exact HV.out.cell (p10, 23, (leB 32 z).map bv) (by simp)) | fail)
        go_ret
        exact ⟨rfl, HV.out.bel⟩
end Go.Proofs.YtmdoojfcgbokjaaDoor.curveThree
