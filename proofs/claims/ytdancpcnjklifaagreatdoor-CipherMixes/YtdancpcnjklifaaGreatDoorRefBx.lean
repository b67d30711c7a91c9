/- Several texts laid together. -/
import Derived.Test.YtdancpcnjklifaaGreatDoorRef1
import Derived.Test.YtdancpcnjklifaaGreatDoorMathX
/- The walks over the document's cut, right and mix (blake). -/
namespace Go.Proofs.YtdancpcnjklifaaGreatDoor
set_option linter.unusedVariables false
set_option maxRecDepth 100000
open Go.RowKit

set_option maxHeartbeats 400000 in
set_option maxRecDepth 100000 in
theorem refCutB_any (x : Int) (w : World) (h0 : 0 ≤ x) (h1 : x < 18446744073709551616) :
    Calls Tryz.prog 52 #[.int .u64 x] w fun e w' => e = .returned (.int .u64 (x % 4294967296)) ∧ w' = w := by
  go_enter Tryz.func52, Tryz.ntmps52
  go_wp2
  go_ret
  exact ⟨rfl, rfl⟩
set_option maxHeartbeats 400000 in
set_option maxRecDepth 100000 in
theorem refRight_any (x : BitVec 32) (n : Int) (w : World) (h0 : 0 ≤ n) (h1 : n ≤ 32) :
    Calls Tryz.prog 71 #[.int .u64 (x.toNat : Int), .int .i64 n] w fun e w' => e = .returned (.int .u64 ((rotr x n).toNat : Int)) ∧ w' = w := by
  have hx := x.isLt
  go_enter Tryz.func71, Tryz.ntmps71
  go_wp2_with (go_at_call 86; refine (refRot_any x (32 - n) _).mono ?_; rintro e w' ⟨rfl, rfl⟩)
  go_ret
  exact ⟨rfl, rfl⟩
/-- One word stored: the row, and what else there is. -/
theorem seg_step {w : World} {g off n cap : Nat} {l : List (BitVec 32)} (h : Seg w 29 (some ⟨g, off, none⟩) n cap (l.map wv)) (p : Nat) (hp : p < n) (s : BitVec 32) :
    Seg (w.drew.setCell ⟨g, off + p, none⟩ (wv s)) 29 (some ⟨g, off, none⟩) n cap ((l.set p s).map wv) ∧ w.grownBy (w.drew.setCell ⟨g, off + p, none⟩ (wv s)) (some g) := by
  refine ⟨by rw [List.map_set]; exact h.drew.set p hp _, rfl, rfl, rfl, by simp, fun j hj hne => ?_⟩
  rw [heap_setCell_other w.drew ⟨g, off + p, none⟩ j _ (fun e => hne (by rw [e]))]
  rfl
theorem sum3_val (x y z : BitVec 32) : ((x.toNat + y.toNat + z.toNat : Nat) : Int) % 4294967296 = ((x + y + z).toNat : Int) := by
  rw [BitVec.toNat_add, BitVec.toNat_add]; omega
theorem sum2_val (x y : BitVec 32) : ((x.toNat + y.toNat : Nat) : Int) % 4294967296 = ((x + y).toNat : Int) := by
  rw [BitVec.toNat_add]; omega

set_option maxHeartbeats 4000000 in
set_option maxRecDepth 100000 in
theorem refMix_any (g off cap n : Nat) (l0 : List (BitVec 32)) (a b c d : Nat) (x y : BitVec 32) (w0 : World) (hS : Seg w0 29 (some ⟨g, off, none⟩) n cap (l0.map wv)) (ha : a < n) (hb : b < n) (hc : c < n) (hd : d < n) :
    Calls Tryz.prog 54 #[.slice (some ⟨g, off, none⟩) n cap, .int .i64 a, .int .i64 b, .int .i64 c, .int .i64 d, .int .u64 (x.toNat : Int), .int .u64 (y.toNat : Int)] w0 fun e w' => (∃ v, e = .returned v) ∧ Seg w' 29 (some ⟨g, off, none⟩) n cap ((bmix l0 a b c d x y).map wv) ∧ w0.grownBy w' (some g) := by
  have hxl := x.isLt
  have hyl := y.isLt
  have ia : (a : Int) < (n : Int) := by omega
  have ib : (b : Int) < (n : Int) := by omega
  have ic : (c : Int) < (n : Int) := by omega
  have id : (d : Int) < (n : Int) := by omega
  have HS0 : Hid (Seg w0 29 (some ⟨g, off, none⟩) n cap (l0.map wv)) := hS
  have HG0 : Hid (w0.grownBy w0 (some g)) := grownBy_refl w0 _
  clear hS
  go_enter Tryz.func54, Tryz.ntmps54
  go_wp2
  obtain ⟨cp0, fp0⟩ := HS0.out.drew.word a ha
  obtain ⟨cq0, _⟩ := HS0.out.drew.word b hb
  obtain ⟨u0, hu0⟩ : ∃ u, at32 l0 a = u := ⟨_, rfl⟩
  obtain ⟨t0, ht0⟩ : ∃ t, at32 l0 b = t := ⟨_, rfl⟩
  rw [hu0] at cp0
  rw [ht0] at cq0
  have bu0 := u0.isLt
  have bt0 := t0.isLt
  obtain ⟨N0, hN0⟩ : ∃ N, u0.toNat + t0.toNat + x.toNat = N := ⟨_, rfl⟩
  have HU0 : Hid (IntKind.u64.wrap (IntKind.u64.wrap ((u0.toNat : Int) + (t0.toNat : Int)) + (x.toNat : Int)) = (N0 : Int)) := by show _ = _; rw [IntKind.wrap_u64, IntKind.wrap_u64]; omega
  obtain ⟨s0, hs0⟩ : ∃ s, u0 + t0 + x = s := ⟨_, rfl⟩
  have HV0 : Hid ((N0 : Int) % 4294967296 = (s0.toNat : Int)) := by show _ = _; rw [← hN0, sum3_val, hs0]
  obtain ⟨sg0, gr0⟩ := seg_step HS0.out a ha s0
  obtain ⟨W0, hW0⟩ : ∃ W, w0.drew = W := ⟨_, rfl⟩
  rw [hW0] at cp0 fp0 cq0 sg0 gr0
  obtain ⟨w1, hw1⟩ : ∃ w', W0.setCell ⟨g, off + a, none⟩ (wv s0) = w' := ⟨_, rfl⟩
  rw [hw1] at sg0 gr0
  have Hw1 : Hid (W0.setCell ⟨g, off + a, none⟩ (.int .u64 (s0.toNat : Int)) = w1) := hw1
  obtain ⟨l1, hl1⟩ : ∃ l', badd3 l0 a b x = l' := ⟨_, rfl⟩
  have HE1 : Hid (badd3 l0 a b x = l1) := hl1
  have HS1 : Hid (Seg w1 29 (some ⟨g, off, none⟩) n cap (l1.map wv)) := by
    rw [← hl1]
    unfold badd3
    rw [hu0, ht0, hs0]
    exact sg0
  have HG1 : Hid (w0.grownBy w1 (some g)) := HG0.out.trans gr0
  have HW0 : Hid (w0.drew = W0) := hW0
  have hNb0 : N0 < 18446744073709551616 := by omega
  clear sg0 gr0 hW0 hw1 hl1 hs0 hu0 ht0 hN0 HS0 HG0
  refine wp_region_sched' (G := Stays) (by kernel_rfl) Stays.refl Stays.trans (by kernel_rfl) [(0, true), (1, true), (2, true), (3, true), (4, true), (5, true), (6, true), (7, true), (8, true), (9, true), (10, true), (11, true), (12, true), (13, false), (14, true), (15, false)] rfl (by kernel_rfl) ?_
  intro KK0 hKK0
  rw [HW0.out]
  iterate 13 (refine sched_take rfl (by rfl) (v := ?_) ?_ ?_; rotate_left; (rintro w' rfl; go_simp; with_reducible rfl); go_simp)
  refine sched_call (f := 52) (args := #[.int .u64 (N0 : Int)]) rfl (by rfl) (by go_simp; rw [HU0.out]) ?_
  refine (refCutB_any _ _ (by omega) (by omega)).mono ?_
  rintro e w' ⟨rfl, rfl⟩
  refine ⟨_, rfl, rfl, ?_⟩
  rw [HV0.out]
  go_simp
  iterate 1 (refine sched_take rfl (by rfl) (v := ?_) ?_ ?_; rotate_left; (rintro w' rfl; go_simp; with_reducible rfl); go_simp)
  refine sched_store rfl (by rfl) (w' := w1) (by rw [← Hw1.out]; go_simp) (by kernel_rfl) ?_
  go_simp
  refine sched_done hKK0 ?_
  clear hKK0 HW0 Hw1 HU0 HV0 cp0 fp0 cq0 bu0 bt0
  go_wp2
  obtain ⟨cp1, fp1⟩ := HS1.out.drew.word d hd
  obtain ⟨cq1, _⟩ := HS1.out.drew.word a ha
  obtain ⟨u1, hu1⟩ : ∃ u, at32 l1 d = u := ⟨_, rfl⟩
  obtain ⟨t1, ht1⟩ : ∃ t, at32 l1 a = t := ⟨_, rfl⟩
  rw [hu1] at cp1
  rw [ht1] at cq1
  have bu1 := u1.isLt
  have bt1 := t1.isLt
  obtain ⟨N1, hN1⟩ : ∃ N, u1 ^^^ t1 = N := ⟨_, rfl⟩
  have HU1 : Hid (bits .xor .u64 (u1.toNat : Int) (t1.toNat : Int) = (N1.toNat : Int)) := by show _ = _; rw [xor_val64, hN1]
  obtain ⟨s1, hs1⟩ : ∃ s, rotr N1 16 = s := ⟨_, rfl⟩
  have HV1 : Hid (rotr N1 16 = s1) := hs1
  obtain ⟨sg1, gr1⟩ := seg_step HS1.out d hd s1
  obtain ⟨W1, hW1⟩ : ∃ W, w1.drew = W := ⟨_, rfl⟩
  rw [hW1] at cp1 fp1 cq1 sg1 gr1
  obtain ⟨w2, hw2⟩ : ∃ w', W1.setCell ⟨g, off + d, none⟩ (wv s1) = w' := ⟨_, rfl⟩
  rw [hw2] at sg1 gr1
  have Hw2 : Hid (W1.setCell ⟨g, off + d, none⟩ (.int .u64 (s1.toNat : Int)) = w2) := hw2
  obtain ⟨l2, hl2⟩ : ∃ l', brot l1 d a 16 = l' := ⟨_, rfl⟩
  have HE2 : Hid (brot l1 d a 16 = l2) := hl2
  have HS2 : Hid (Seg w2 29 (some ⟨g, off, none⟩) n cap (l2.map wv)) := by
    rw [← hl2]
    unfold brot
    rw [hu1, ht1, hN1, hs1]
    exact sg1
  have HG2 : Hid (w0.grownBy w2 (some g)) := HG1.out.trans gr1
  have HW1 : Hid (w1.drew = W1) := hW1
  clear sg1 gr1 hW1 hw2 hl2 hs1 hu1 ht1 hN1 HS1 HG1
  refine wp_region_sched' (G := Stays) (by kernel_rfl) Stays.refl Stays.trans (by kernel_rfl) [(0, true), (1, true), (2, true), (3, true), (4, true), (5, true), (6, true), (7, true), (8, true), (9, true), (10, true), (11, false), (12, true), (13, false)] rfl (by kernel_rfl) ?_
  intro KK1 hKK1
  rw [HW1.out]
  iterate 11 (refine sched_take rfl (by rfl) (v := ?_) ?_ ?_; rotate_left; (rintro w' rfl; go_simp; with_reducible rfl); go_simp)
  refine sched_call (f := 71) (args := #[.int .u64 (N1.toNat : Int), .int .i64 16]) rfl (by rfl) (by go_simp; rw [HU1.out]) ?_
  refine (refRight_any N1 16 _ (by omega) (by omega)).mono ?_
  rintro e w' ⟨rfl, rfl⟩
  refine ⟨_, rfl, rfl, ?_⟩
  rw [HV1.out]
  go_simp
  iterate 1 (refine sched_take rfl (by rfl) (v := ?_) ?_ ?_; rotate_left; (rintro w' rfl; go_simp; with_reducible rfl); go_simp)
  refine sched_store rfl (by rfl) (w' := w2) (by rw [← Hw2.out]; go_simp) (by kernel_rfl) ?_
  go_simp
  refine sched_done hKK1 ?_
  clear hKK1 HW1 Hw2 HU1 HV1 cp1 fp1 cq1 bu1 bt1
  go_wp2
  obtain ⟨cp2, fp2⟩ := HS2.out.drew.word c hc
  obtain ⟨cq2, _⟩ := HS2.out.drew.word d hd
  obtain ⟨u2, hu2⟩ : ∃ u, at32 l2 c = u := ⟨_, rfl⟩
  obtain ⟨t2, ht2⟩ : ∃ t, at32 l2 d = t := ⟨_, rfl⟩
  rw [hu2] at cp2
  rw [ht2] at cq2
  have bu2 := u2.isLt
  have bt2 := t2.isLt
  obtain ⟨N2, hN2⟩ : ∃ N, u2.toNat + t2.toNat = N := ⟨_, rfl⟩
  have HU2 : Hid (IntKind.u64.wrap ((u2.toNat : Int) + (t2.toNat : Int)) = (N2 : Int)) := by show _ = _; rw [IntKind.wrap_u64]; omega
  obtain ⟨s2, hs2⟩ : ∃ s, u2 + t2 = s := ⟨_, rfl⟩
  have HV2 : Hid ((N2 : Int) % 4294967296 = (s2.toNat : Int)) := by show _ = _; rw [← hN2, sum2_val, hs2]
  obtain ⟨sg2, gr2⟩ := seg_step HS2.out c hc s2
  obtain ⟨W2, hW2⟩ : ∃ W, w2.drew = W := ⟨_, rfl⟩
  rw [hW2] at cp2 fp2 cq2 sg2 gr2
  obtain ⟨w3, hw3⟩ : ∃ w', W2.setCell ⟨g, off + c, none⟩ (wv s2) = w' := ⟨_, rfl⟩
  rw [hw3] at sg2 gr2
  have Hw3 : Hid (W2.setCell ⟨g, off + c, none⟩ (.int .u64 (s2.toNat : Int)) = w3) := hw3
  obtain ⟨l3, hl3⟩ : ∃ l', badd2 l2 c d = l' := ⟨_, rfl⟩
  have HE3 : Hid (badd2 l2 c d = l3) := hl3
  have HS3 : Hid (Seg w3 29 (some ⟨g, off, none⟩) n cap (l3.map wv)) := by
    rw [← hl3]
    unfold badd2
    rw [hu2, ht2, hs2]
    exact sg2
  have HG3 : Hid (w0.grownBy w3 (some g)) := HG2.out.trans gr2
  have HW2 : Hid (w2.drew = W2) := hW2
  have hNb2 : N2 < 18446744073709551616 := by omega
  clear sg2 gr2 hW2 hw3 hl3 hs2 hu2 ht2 hN2 HS2 HG2
  refine wp_region_sched' (G := Stays) (by kernel_rfl) Stays.refl Stays.trans (by kernel_rfl) [(0, true), (1, true), (2, true), (3, true), (4, true), (5, true), (6, true), (7, true), (8, true), (9, true), (10, true), (11, false), (12, true), (13, false)] rfl (by kernel_rfl) ?_
  intro KK2 hKK2
  rw [HW2.out]
  iterate 11 (refine sched_take rfl (by rfl) (v := ?_) ?_ ?_; rotate_left; (rintro w' rfl; go_simp; with_reducible rfl); go_simp)
  refine sched_call (f := 52) (args := #[.int .u64 (N2 : Int)]) rfl (by rfl) (by go_simp; rw [HU2.out]) ?_
  refine (refCutB_any _ _ (by omega) (by omega)).mono ?_
  rintro e w' ⟨rfl, rfl⟩
  refine ⟨_, rfl, rfl, ?_⟩
  rw [HV2.out]
  go_simp
  iterate 1 (refine sched_take rfl (by rfl) (v := ?_) ?_ ?_; rotate_left; (rintro w' rfl; go_simp; with_reducible rfl); go_simp)
  refine sched_store rfl (by rfl) (w' := w3) (by rw [← Hw3.out]; go_simp) (by kernel_rfl) ?_
  go_simp
  refine sched_done hKK2 ?_
  clear hKK2 HW2 Hw3 HU2 HV2 cp2 fp2 cq2 bu2 bt2
  go_wp2
  obtain ⟨cp3, fp3⟩ := HS3.out.drew.word b hb
  obtain ⟨cq3, _⟩ := HS3.out.drew.word c hc
  obtain ⟨u3, hu3⟩ : ∃ u, at32 l3 b = u := ⟨_, rfl⟩
  obtain ⟨t3, ht3⟩ : ∃ t, at32 l3 c = t := ⟨_, rfl⟩
  rw [hu3] at cp3
  rw [ht3] at cq3
  have bu3 := u3.isLt
  have bt3 := t3.isLt
  obtain ⟨N3, hN3⟩ : ∃ N, u3 ^^^ t3 = N := ⟨_, rfl⟩
  have HU3 : Hid (bits .xor .u64 (u3.toNat : Int) (t3.toNat : Int) = (N3.toNat : Int)) := by show _ = _; rw [xor_val64, hN3]
  obtain ⟨s3, hs3⟩ : ∃ s, rotr N3 12 = s := ⟨_, rfl⟩
  have HV3 : Hid (rotr N3 12 = s3) := hs3
  obtain ⟨sg3, gr3⟩ := seg_step HS3.out b hb s3
  obtain ⟨W3, hW3⟩ : ∃ W, w3.drew = W := ⟨_, rfl⟩
  rw [hW3] at cp3 fp3 cq3 sg3 gr3
  obtain ⟨w4, hw4⟩ : ∃ w', W3.setCell ⟨g, off + b, none⟩ (wv s3) = w' := ⟨_, rfl⟩
  rw [hw4] at sg3 gr3
  have Hw4 : Hid (W3.setCell ⟨g, off + b, none⟩ (.int .u64 (s3.toNat : Int)) = w4) := hw4
  obtain ⟨l4, hl4⟩ : ∃ l', brot l3 b c 12 = l' := ⟨_, rfl⟩
  have HE4 : Hid (brot l3 b c 12 = l4) := hl4
  have HS4 : Hid (Seg w4 29 (some ⟨g, off, none⟩) n cap (l4.map wv)) := by
    rw [← hl4]
    unfold brot
    rw [hu3, ht3, hN3, hs3]
    exact sg3
  have HG4 : Hid (w0.grownBy w4 (some g)) := HG3.out.trans gr3
  have HW3 : Hid (w3.drew = W3) := hW3
  clear sg3 gr3 hW3 hw4 hl4 hs3 hu3 ht3 hN3 HS3 HG3
  refine wp_region_sched' (G := Stays) (by kernel_rfl) Stays.refl Stays.trans (by kernel_rfl) [(0, true), (1, true), (2, true), (3, true), (4, true), (5, true), (6, true), (7, true), (8, true), (9, true), (10, true), (11, false), (12, true), (13, false)] rfl (by kernel_rfl) ?_
  intro KK3 hKK3
  rw [HW3.out]
  iterate 11 (refine sched_take rfl (by rfl) (v := ?_) ?_ ?_; rotate_left; (rintro w' rfl; go_simp; with_reducible rfl); go_simp)
  refine sched_call (f := 71) (args := #[.int .u64 (N3.toNat : Int), .int .i64 12]) rfl (by rfl) (by go_simp; rw [HU3.out]) ?_
  refine (refRight_any N3 12 _ (by omega) (by omega)).mono ?_
  rintro e w' ⟨rfl, rfl⟩
  refine ⟨_, rfl, rfl, ?_⟩
  rw [HV3.out]
  go_simp
  iterate 1 (refine sched_take rfl (by rfl) (v := ?_) ?_ ?_; rotate_left; (rintro w' rfl; go_simp; with_reducible rfl); go_simp)
  refine sched_store rfl (by rfl) (w' := w4) (by rw [← Hw4.out]; go_simp) (by kernel_rfl) ?_
  go_simp
  refine sched_done hKK3 ?_
  clear hKK3 HW3 Hw4 HU3 HV3 cp3 fp3 cq3 bu3 bt3
  go_wp2
  obtain ⟨cp4, fp4⟩ := HS4.out.drew.word a ha
  obtain ⟨cq4, _⟩ := HS4.out.drew.word b hb
  obtain ⟨u4, hu4⟩ : ∃ u, at32 l4 a = u := ⟨_, rfl⟩
  obtain ⟨t4, ht4⟩ : ∃ t, at32 l4 b = t := ⟨_, rfl⟩
  rw [hu4] at cp4
  rw [ht4] at cq4
  have bu4 := u4.isLt
  have bt4 := t4.isLt
  obtain ⟨N4, hN4⟩ : ∃ N, u4.toNat + t4.toNat + y.toNat = N := ⟨_, rfl⟩
  have HU4 : Hid (IntKind.u64.wrap (IntKind.u64.wrap ((u4.toNat : Int) + (t4.toNat : Int)) + (y.toNat : Int)) = (N4 : Int)) := by show _ = _; rw [IntKind.wrap_u64, IntKind.wrap_u64]; omega
  obtain ⟨s4, hs4⟩ : ∃ s, u4 + t4 + y = s := ⟨_, rfl⟩
  have HV4 : Hid ((N4 : Int) % 4294967296 = (s4.toNat : Int)) := by show _ = _; rw [← hN4, sum3_val, hs4]
  obtain ⟨sg4, gr4⟩ := seg_step HS4.out a ha s4
  obtain ⟨W4, hW4⟩ : ∃ W, w4.drew = W := ⟨_, rfl⟩
  rw [hW4] at cp4 fp4 cq4 sg4 gr4
  obtain ⟨w5, hw5⟩ : ∃ w', W4.setCell ⟨g, off + a, none⟩ (wv s4) = w' := ⟨_, rfl⟩
  rw [hw5] at sg4 gr4
  have Hw5 : Hid (W4.setCell ⟨g, off + a, none⟩ (.int .u64 (s4.toNat : Int)) = w5) := hw5
  obtain ⟨l5, hl5⟩ : ∃ l', badd3 l4 a b y = l' := ⟨_, rfl⟩
  have HE5 : Hid (badd3 l4 a b y = l5) := hl5
  have HS5 : Hid (Seg w5 29 (some ⟨g, off, none⟩) n cap (l5.map wv)) := by
    rw [← hl5]
    unfold badd3
    rw [hu4, ht4, hs4]
    exact sg4
  have HG5 : Hid (w0.grownBy w5 (some g)) := HG4.out.trans gr4
  have HW4 : Hid (w4.drew = W4) := hW4
  have hNb4 : N4 < 18446744073709551616 := by omega
  clear sg4 gr4 hW4 hw5 hl5 hs4 hu4 ht4 hN4 HS4 HG4
  refine wp_region_sched' (G := Stays) (by kernel_rfl) Stays.refl Stays.trans (by kernel_rfl) [(0, true), (1, true), (2, true), (3, true), (4, true), (5, true), (6, true), (7, true), (8, true), (9, true), (10, true), (11, true), (12, true), (13, false), (14, true), (15, false)] rfl (by kernel_rfl) ?_
  intro KK4 hKK4
  rw [HW4.out]
  iterate 13 (refine sched_take rfl (by rfl) (v := ?_) ?_ ?_; rotate_left; (rintro w' rfl; go_simp; with_reducible rfl); go_simp)
  refine sched_call (f := 52) (args := #[.int .u64 (N4 : Int)]) rfl (by rfl) (by go_simp; rw [HU4.out]) ?_
  refine (refCutB_any _ _ (by omega) (by omega)).mono ?_
  rintro e w' ⟨rfl, rfl⟩
  refine ⟨_, rfl, rfl, ?_⟩
  rw [HV4.out]
  go_simp
  iterate 1 (refine sched_take rfl (by rfl) (v := ?_) ?_ ?_; rotate_left; (rintro w' rfl; go_simp; with_reducible rfl); go_simp)
  refine sched_store rfl (by rfl) (w' := w5) (by rw [← Hw5.out]; go_simp) (by kernel_rfl) ?_
  go_simp
  refine sched_done hKK4 ?_
  clear hKK4 HW4 Hw5 HU4 HV4 cp4 fp4 cq4 bu4 bt4
  go_wp2
  obtain ⟨cp5, fp5⟩ := HS5.out.drew.word d hd
  obtain ⟨cq5, _⟩ := HS5.out.drew.word a ha
  obtain ⟨u5, hu5⟩ : ∃ u, at32 l5 d = u := ⟨_, rfl⟩
  obtain ⟨t5, ht5⟩ : ∃ t, at32 l5 a = t := ⟨_, rfl⟩
  rw [hu5] at cp5
  rw [ht5] at cq5
  have bu5 := u5.isLt
  have bt5 := t5.isLt
  obtain ⟨N5, hN5⟩ : ∃ N, u5 ^^^ t5 = N := ⟨_, rfl⟩
  have HU5 : Hid (bits .xor .u64 (u5.toNat : Int) (t5.toNat : Int) = (N5.toNat : Int)) := by show _ = _; rw [xor_val64, hN5]
  obtain ⟨s5, hs5⟩ : ∃ s, rotr N5 8 = s := ⟨_, rfl⟩
  have HV5 : Hid (rotr N5 8 = s5) := hs5
  obtain ⟨sg5, gr5⟩ := seg_step HS5.out d hd s5
  obtain ⟨W5, hW5⟩ : ∃ W, w5.drew = W := ⟨_, rfl⟩
  rw [hW5] at cp5 fp5 cq5 sg5 gr5
  obtain ⟨w6, hw6⟩ : ∃ w', W5.setCell ⟨g, off + d, none⟩ (wv s5) = w' := ⟨_, rfl⟩
  rw [hw6] at sg5 gr5
  have Hw6 : Hid (W5.setCell ⟨g, off + d, none⟩ (.int .u64 (s5.toNat : Int)) = w6) := hw6
  obtain ⟨l6, hl6⟩ : ∃ l', brot l5 d a 8 = l' := ⟨_, rfl⟩
  have HE6 : Hid (brot l5 d a 8 = l6) := hl6
  have HS6 : Hid (Seg w6 29 (some ⟨g, off, none⟩) n cap (l6.map wv)) := by
    rw [← hl6]
    unfold brot
    rw [hu5, ht5, hN5, hs5]
    exact sg5
  have HG6 : Hid (w0.grownBy w6 (some g)) := HG5.out.trans gr5
  have HW5 : Hid (w5.drew = W5) := hW5
  clear sg5 gr5 hW5 hw6 hl6 hs5 hu5 ht5 hN5 HS5 HG5
  refine wp_region_sched' (G := Stays) (by kernel_rfl) Stays.refl Stays.trans (by kernel_rfl) [(0, true), (1, true), (2, true), (3, true), (4, true), (5, true), (6, true), (7, true), (8, true), (9, true), (10, true), (11, false), (12, true), (13, false)] rfl (by kernel_rfl) ?_
  intro KK5 hKK5
  rw [HW5.out]
  iterate 11 (refine sched_take rfl (by rfl) (v := ?_) ?_ ?_; rotate_left; (rintro w' rfl; go_simp; with_reducible rfl); go_simp)
  refine sched_call (f := 71) (args := #[.int .u64 (N5.toNat : Int), .int .i64 8]) rfl (by rfl) (by go_simp; rw [HU5.out]) ?_
  refine (refRight_any N5 8 _ (by omega) (by omega)).mono ?_
  rintro e w' ⟨rfl, rfl⟩
  refine ⟨_, rfl, rfl, ?_⟩
  rw [HV5.out]
  go_simp
  iterate 1 (refine sched_take rfl (by rfl) (v := ?_) ?_ ?_; rotate_left; (rintro w' rfl; go_simp; with_reducible rfl); go_simp)
  refine sched_store rfl (by rfl) (w' := w6) (by rw [← Hw6.out]; go_simp) (by kernel_rfl) ?_
  go_simp
  refine sched_done hKK5 ?_
  clear hKK5 HW5 Hw6 HU5 HV5 cp5 fp5 cq5 bu5 bt5
  go_wp2
  obtain ⟨cp6, fp6⟩ := HS6.out.drew.word c hc
  obtain ⟨cq6, _⟩ := HS6.out.drew.word d hd
  obtain ⟨u6, hu6⟩ : ∃ u, at32 l6 c = u := ⟨_, rfl⟩
  obtain ⟨t6, ht6⟩ : ∃ t, at32 l6 d = t := ⟨_, rfl⟩
  rw [hu6] at cp6
  rw [ht6] at cq6
  have bu6 := u6.isLt
  have bt6 := t6.isLt
  obtain ⟨N6, hN6⟩ : ∃ N, u6.toNat + t6.toNat = N := ⟨_, rfl⟩
  have HU6 : Hid (IntKind.u64.wrap ((u6.toNat : Int) + (t6.toNat : Int)) = (N6 : Int)) := by show _ = _; rw [IntKind.wrap_u64]; omega
  obtain ⟨s6, hs6⟩ : ∃ s, u6 + t6 = s := ⟨_, rfl⟩
  have HV6 : Hid ((N6 : Int) % 4294967296 = (s6.toNat : Int)) := by show _ = _; rw [← hN6, sum2_val, hs6]
  obtain ⟨sg6, gr6⟩ := seg_step HS6.out c hc s6
  obtain ⟨W6, hW6⟩ : ∃ W, w6.drew = W := ⟨_, rfl⟩
  rw [hW6] at cp6 fp6 cq6 sg6 gr6
  obtain ⟨w7, hw7⟩ : ∃ w', W6.setCell ⟨g, off + c, none⟩ (wv s6) = w' := ⟨_, rfl⟩
  rw [hw7] at sg6 gr6
  have Hw7 : Hid (W6.setCell ⟨g, off + c, none⟩ (.int .u64 (s6.toNat : Int)) = w7) := hw7
  obtain ⟨l7, hl7⟩ : ∃ l', badd2 l6 c d = l' := ⟨_, rfl⟩
  have HE7 : Hid (badd2 l6 c d = l7) := hl7
  have HS7 : Hid (Seg w7 29 (some ⟨g, off, none⟩) n cap (l7.map wv)) := by
    rw [← hl7]
    unfold badd2
    rw [hu6, ht6, hs6]
    exact sg6
  have HG7 : Hid (w0.grownBy w7 (some g)) := HG6.out.trans gr6
  have HW6 : Hid (w6.drew = W6) := hW6
  have hNb6 : N6 < 18446744073709551616 := by omega
  clear sg6 gr6 hW6 hw7 hl7 hs6 hu6 ht6 hN6 HS6 HG6
  refine wp_region_sched' (G := Stays) (by kernel_rfl) Stays.refl Stays.trans (by kernel_rfl) [(0, true), (1, true), (2, true), (3, true), (4, true), (5, true), (6, true), (7, true), (8, true), (9, true), (10, true), (11, false), (12, true), (13, false)] rfl (by kernel_rfl) ?_
  intro KK6 hKK6
  rw [HW6.out]
  iterate 11 (refine sched_take rfl (by rfl) (v := ?_) ?_ ?_; rotate_left; (rintro w' rfl; go_simp; with_reducible rfl); go_simp)
  refine sched_call (f := 52) (args := #[.int .u64 (N6 : Int)]) rfl (by rfl) (by go_simp; rw [HU6.out]) ?_
  refine (refCutB_any _ _ (by omega) (by omega)).mono ?_
  rintro e w' ⟨rfl, rfl⟩
  refine ⟨_, rfl, rfl, ?_⟩
  rw [HV6.out]
  go_simp
  iterate 1 (refine sched_take rfl (by rfl) (v := ?_) ?_ ?_; rotate_left; (rintro w' rfl; go_simp; with_reducible rfl); go_simp)
  refine sched_store rfl (by rfl) (w' := w7) (by rw [← Hw7.out]; go_simp) (by kernel_rfl) ?_
  go_simp
  refine sched_done hKK6 ?_
  clear hKK6 HW6 Hw7 HU6 HV6 cp6 fp6 cq6 bu6 bt6
  go_wp2
  obtain ⟨cp7, fp7⟩ := HS7.out.drew.word b hb
  obtain ⟨cq7, _⟩ := HS7.out.drew.word c hc
  obtain ⟨u7, hu7⟩ : ∃ u, at32 l7 b = u := ⟨_, rfl⟩
  obtain ⟨t7, ht7⟩ : ∃ t, at32 l7 c = t := ⟨_, rfl⟩
  rw [hu7] at cp7
  rw [ht7] at cq7
  have bu7 := u7.isLt
  have bt7 := t7.isLt
  obtain ⟨N7, hN7⟩ : ∃ N, u7 ^^^ t7 = N := ⟨_, rfl⟩
  have HU7 : Hid (bits .xor .u64 (u7.toNat : Int) (t7.toNat : Int) = (N7.toNat : Int)) := by show _ = _; rw [xor_val64, hN7]
  obtain ⟨s7, hs7⟩ : ∃ s, rotr N7 7 = s := ⟨_, rfl⟩
  have HV7 : Hid (rotr N7 7 = s7) := hs7
  obtain ⟨sg7, gr7⟩ := seg_step HS7.out b hb s7
  obtain ⟨W7, hW7⟩ : ∃ W, w7.drew = W := ⟨_, rfl⟩
  rw [hW7] at cp7 fp7 cq7 sg7 gr7
  obtain ⟨w8, hw8⟩ : ∃ w', W7.setCell ⟨g, off + b, none⟩ (wv s7) = w' := ⟨_, rfl⟩
  rw [hw8] at sg7 gr7
  have Hw8 : Hid (W7.setCell ⟨g, off + b, none⟩ (.int .u64 (s7.toNat : Int)) = w8) := hw8
  obtain ⟨l8, hl8⟩ : ∃ l', brot l7 b c 7 = l' := ⟨_, rfl⟩
  have HE8 : Hid (brot l7 b c 7 = l8) := hl8
  have HS8 : Hid (Seg w8 29 (some ⟨g, off, none⟩) n cap (l8.map wv)) := by
    rw [← hl8]
    unfold brot
    rw [hu7, ht7, hN7, hs7]
    exact sg7
  have HG8 : Hid (w0.grownBy w8 (some g)) := HG7.out.trans gr7
  have HW7 : Hid (w7.drew = W7) := hW7
  clear sg7 gr7 hW7 hw8 hl8 hs7 hu7 ht7 hN7 HS7 HG7
  refine wp_region_sched' (G := Stays) (by kernel_rfl) Stays.refl Stays.trans (by kernel_rfl) [(0, true), (1, true), (2, true), (3, true), (4, true), (5, true), (6, true), (7, true), (8, true), (9, true), (10, true), (11, false), (12, true), (13, false)] rfl (by kernel_rfl) ?_
  intro KK7 hKK7
  rw [HW7.out]
  iterate 11 (refine sched_take rfl (by rfl) (v := ?_) ?_ ?_; rotate_left; (rintro w' rfl; go_simp; with_reducible rfl); go_simp)
  refine sched_call (f := 71) (args := #[.int .u64 (N7.toNat : Int), .int .i64 7]) rfl (by rfl) (by go_simp; rw [HU7.out]) ?_
  refine (refRight_any N7 7 _ (by omega) (by omega)).mono ?_
  rintro e w' ⟨rfl, rfl⟩
  refine ⟨_, rfl, rfl, ?_⟩
  rw [HV7.out]
  go_simp
  iterate 1 (refine sched_take rfl (by rfl) (v := ?_) ?_ ?_; rotate_left; (rintro w' rfl; go_simp; with_reducible rfl); go_simp)
  refine sched_store rfl (by rfl) (w' := w8) (by rw [← Hw8.out]; go_simp) (by kernel_rfl) ?_
  go_simp
  refine sched_done hKK7 ?_
  clear hKK7 HW7 Hw8 HU7 HV7 cp7 fp7 cq7 bu7 bt7
  go_wp2
  go_end0
  refine ⟨⟨_, rfl⟩, ?_, HG8.out⟩
  have e : bmix l0 a b c d x y = l8 := by
    unfold bmix
    rw [HE1.out, HE2.out, HE3.out, HE4.out, HE5.out, HE6.out, HE7.out, HE8.out]
  rw [e]
  exact HS8.out
end Go.Proofs.YtdancpcnjklifaaGreatDoor

/- The walks over the document's iv, rows and part (blake). -/
namespace Go.Proofs.YtdancpcnjklifaaGreatDoor
set_option linter.unusedVariables false
set_option maxRecDepth 100000
open Go.RowKit

set_option maxHeartbeats 400000 in
set_option maxRecDepth 100000 in
theorem refIv_any (w : World) : Calls Tryz.prog 35 #[] w fun e w' => e = .returned (.slice (some ⟨w.heap.size, 0, none⟩) 8 8) ∧ Below w.heap.size w w' ∧ w'.ownsRow w.heap.size 29 1 (.slice (some ⟨w.heap.size, 0, none⟩) 8 8) 8 (ivB.map wv) := by
  have own0 : (w.alloc (.cells (ivB.map wv).toArray 29)).ownsRow w.heap.size 29 1 (.slice (some ⟨w.heap.size, 0, none⟩) 8 8) 8 (ivB.map wv) := World.ownsRow_lit w _ 8 (Nat.le_refl _) (by unfold maxLen; omega) rfl
  have HO : Hid ((w.alloc (.cells (ivB.map wv).toArray 29)).ownsRow w.heap.size 29 1 (.slice (some ⟨w.heap.size, 0, none⟩) 8 8) 8 (ivB.map wv)) := own0
  clear own0
  go_enter Tryz.func35, Tryz.ntmps35
  go_wp2
  go_ret
  exact ⟨rfl, (Below.refl _ _).alloc (Nat.le_refl _) _, HO.out⟩
/-- The rows of numbers as text, a letter each. -/
def rowS (i : Nat) : ByteArray := ⟨((sigma.getD i []).map fun k => UInt8.ofNat (65 + k)).toArray⟩
def rowsV : Array Value := ((List.range 10).map fun i => Value.string (rowS i)).toArray
theorem rowS_at (i k : Nat) (hi : i < 10) (hk : k < 16) : (rowS i)[k]? = some (UInt8.ofNat (65 + sig i k)) := by
  have h : ∀ i : Fin 10, ∀ k : Fin 16, (rowS i.val)[k.val]? = some (UInt8.ofNat (65 + sig i.val k.val)) := by decide +kernel
  exact h ⟨i, hi⟩ ⟨k, hk⟩
set_option maxHeartbeats 400000 in
set_option maxRecDepth 100000 in
theorem refRows_any (w : World) : Calls Tryz.prog 53 #[] w fun e w' => e = .returned (.slice (some ⟨w.heap.size, 0, none⟩) 10 10) ∧ Below w.heap.size w w' ∧ w'.heap[w.heap.size]? = some (.cells rowsV 9 (0, 0)) := by
  have HO : Hid ((w.alloc (.cells rowsV 9)).heap[w.heap.size]? = some (.cells rowsV 9 (0, 0))) := heap_alloc_new w _
  go_enter Tryz.func53, Tryz.ntmps53
  go_wp2
  go_ret
  exact ⟨rfl, (Below.refl _ _).alloc (Nat.le_refl _) _, HO.out⟩
end Go.Proofs.YtdancpcnjklifaaGreatDoor

/- The walk over the document's part (blake). -/
namespace Go.Proofs.YtdancpcnjklifaaGreatDoor
set_option linter.unusedVariables false
set_option maxRecDepth 100000
open Go.RowKit

theorem exec_index {P : Program} {o : Oper} {a : Act} {w : World} (t : TypeId) (x y : Operand) (ho : o.op = .index t x y) (s : ByteArray) (j : Nat) (c : UInt8) (hx : a.eval x = .string s) (hy : a.eval y = .int .i64 (j : Int)) (hu : P.underlying t = some .string) (hc : s[j]? = some c) :
    (execOp a.eval o).run P w = .ok (.value (.int .u8 (c.toNat : Int))) w := by
  unfold execOp
  simp [ho, hx, hy, Instr.index, asIntOf, run_underlying hu, hc]
theorem append_word (w : World) (base : Nat) (v : Value) (n : Nat) (xs : List (BitVec 32)) (hown : w.ownsRow base 29 1 v n (xs.map wv)) (x : BitVec 32) (hb : base ≤ w.heap.size) (hsm : n ≤ 900) :
    ∃ v' w', (Builtin.append_ #[69, 69] 69 #[v, .slice (some ⟨w.heap.size, 0, none⟩) 1 1]).run Tryz.prog (w.alloc (.cells #[.int .u64 (x.toNat : Int)] 29)) = .ok v' w' ∧ w'.ownsRow base 29 1 v' (n + 1) ((xs ++ [x]).map wv) ∧ w.grownBy w' v.ownBlock := by
  have hs : Seg (w.alloc (.cells #[.int .u64 (x.toNat : Int)] 29)) 29 (some ⟨w.heap.size, 0, none⟩) 1 1 ([x].map wv) :=
    ⟨rfl, .inr ⟨w.heap.size, 0, #[.int .u64 (x.toNat : Int)], rfl, heap_alloc_new w _, by simp, Nat.le_refl _, fun i hi => by
      obtain rfl : i = 0 := by omega
      rfl⟩⟩
  obtain ⟨v', w', hr, ho, hg⟩ := append_words (w.alloc (.cells #[.int .u64 (x.toNat : Int)] 29)) base v n xs (hown.alloc _) ⟨w.heap.size, 0, none⟩ 1 1 [x] hs (by simp; omega) (by omega)
  refine ⟨v', w', hr, ho, hg.os, hg.tape, hg.output, by have := hg.size; simp at this; omega, fun k hk hne => ?_⟩
  rw [hg.block k (by simp; omega) hne]
  exact Below.heap_alloc w _ k hk
/-- What part has: H, M, V, the rows. -/
structure BS (w : World) (hx : Addr) (hc : Nat) (hl : List (BitVec 32)) (gm cm : Nat) (ml : List (BitVec 32)) (gv cv : Nat) (vl : List (BitVec 32)) (W : World) : Prop where
  hs : Seg W 29 (some hx) 8 hc (hl.map wv)
  ms : Seg W 29 (some ⟨gm, 0, none⟩) 16 cm (ml.map wv)
  vs : Seg W 29 (some ⟨gv, 0, none⟩) 16 cv (vl.map wv)
  hv : hx.block ≠ gv
  mv : gm ≠ gv
  bv_ : w.heap.size ≤ gv
  bel : Below w.heap.size w W
theorem seg_but {w w' : World} {e : TypeId} {x : Addr} {n cap : Nat} {vs : List Value} {g : Nat} (h : Seg w e (some x) n cap vs) (hg : w.grownBy w' (some g)) (hne : x.block ≠ g) : Seg w' e (some x) n cap vs :=
  h.kept fun j hj => hg.block j (h.lt j hj) (fun e => by
    have e1 : x.block = j := by simpa [blockOf] using hj
    exact hne (by rw [e1]; exact Option.some.inj e))
theorem seg_later {w w' : World} {e : TypeId} {a : Option Addr} {n cap : Nat} {vs : List Value} (h : Seg w e a n cap vs) (hb : Below w.heap.size w w') : Seg w' e a n cap vs := h.kept fun j hj => hb.block j (h.lt j hj)
theorem BS.next {w W W' : World} {hx : Addr} {hc : Nat} {hl : List (BitVec 32)} {gm cm : Nat} {ml : List (BitVec 32)} {gv cv : Nat} {vl vl' : List (BitVec 32)} (h : BS w hx hc hl gm cm ml gv cv vl W) (hs : Seg W' 29 (some ⟨gv, 0, none⟩) 16 cv (vl'.map wv)) (hg : W.grownBy W' (some gv)) : BS w hx hc hl gm cm ml gv cv vl' W' :=
  ⟨seg_but h.hs hg h.hv, seg_but h.ms hg h.mv, hs, h.hv, h.mv, h.bv_, h.bel.grown hg h.bel.size (fun k e => by cases e; exact h.bv_)⟩
theorem BS.later {w W W' : World} {hx : Addr} {hc : Nat} {hl : List (BitVec 32)} {gm cm : Nat} {ml : List (BitVec 32)} {gv cv : Nat} {vl : List (BitVec 32)} (h : BS w hx hc hl gm cm ml gv cv vl W) (hb : Below W.heap.size W W') : BS w hx hc hl gm cm ml gv cv vl W' :=
  ⟨seg_later h.hs hb, seg_later h.ms hb, seg_later h.vs hb, h.hv, h.mv, h.bv_, h.bel.trans (hb.mono h.bel.size)⟩

theorem exec_index' {P : Program} {o : Oper} {a : Act} {w : World} (t : TypeId) (x y : Operand) (ho : o.op = .index t x y) (s : ByteArray) (j : Nat) (c : UInt8) (r : Nat) (hx : a.eval x = .string s) (hy : a.eval y = .int .i64 (j : Int)) (hu : P.underlying t = some .string) (hc : s[j]? = some c) (hn : (c.toNat : Int) = (r : Int)) :
    (execOp a.eval o).run P w = .ok (.value (.int .u8 (r : Int))) w := by
  rw [← hn]; exact exec_index t x y ho s j c hx hy hu hc
def bouts (h v : List (BitVec 32)) (n : Nat) : List (BitVec 32) := (List.range n).map fun i => at32 h i ^^^ at32 v i ^^^ at32 v (8 + i)
theorem bouts_succ (h v : List (BitVec 32)) (n : Nat) : bouts h v (n + 1) = bouts h v n ++ [at32 h n ^^^ at32 v n ^^^ at32 v (8 + n)] := by simp [bouts, List.range_succ]
theorem seg_rest {w w' : World} {e e2 : TypeId} {x : Addr} {n cap : Nat} {vs : List Value} {base : Nat} {v : Value} {m : Nat} {l : List Value} (h : Seg w e (some x) n cap vs) (hO : w.ownsRow base e2 1 v m l) (hg : w.grownBy w' v.ownBlock) (hlt : x.block < base) : Seg w' e (some x) n cap vs :=
  h.kept fun j hj => hg.block j (h.lt j hj) (fun ee => by
    have e1 : x.block = j := by simpa [blockOf] using hj
    have := (hO.lt j ee.symm).1
    omega)
theorem BS.rest {w W W' : World} {hx : Addr} {hc : Nat} {hl : List (BitVec 32)} {gm cm : Nat} {ml : List (BitVec 32)} {gv cv : Nat} {vl : List (BitVec 32)} {base : Nat} {v : Value} {m : Nat} {l : List Value} (h : BS w hx hc hl gm cm ml gv cv vl W) (hO : W.ownsRow base 29 1 v m l) (hg : Rest v W W') (h1 : hx.block < base) (h2 : gm < base) (h3 : gv < base) (h4 : w.heap.size ≤ base) : BS w hx hc hl gm cm ml gv cv vl W' :=
  ⟨seg_rest h.hs hO hg h1, seg_rest h.ms hO hg h2, seg_rest h.vs hO hg h3, h.hv, h.mv, h.bv_, h.bel.grown hg h.bel.size (fun k e => Nat.le_trans h4 (hO.lt k e).1)⟩
theorem append_wordA (w : World) (base : Nat) (v : Value) (n : Nat) (xs : List (BitVec 32)) (hown : w.ownsRow base 29 1 v n (xs.map wv)) (x : BitVec 32) (hb : base ≤ w.heap.size) (hsm : n ≤ 900) :
    ∃ v' w', (Builtin.append_ #[69, 69] 69 #[v, .slice (some ⟨w.heap.size, 0, none⟩) 1 1]).run Tryz.prog (w.alloc (.cells #[.int .u64 (x.toNat : Int)] 29)) = .ok v' w' ∧ w'.ownsRow base 29 1 v' (n + 1) ((xs ++ [x]).map wv) ∧ (w.alloc (.cells #[.int .u64 (x.toNat : Int)] 29)).grownBy w' v.ownBlock := by
  have hs : Seg (w.alloc (.cells #[.int .u64 (x.toNat : Int)] 29)) 29 (some ⟨w.heap.size, 0, none⟩) 1 1 ([x].map wv) :=
    ⟨rfl, .inr ⟨w.heap.size, 0, #[.int .u64 (x.toNat : Int)], rfl, heap_alloc_new w _, by simp, Nat.le_refl _, fun i hi => by
      obtain rfl : i = 0 := by omega
      rfl⟩⟩
  exact append_words (w.alloc (.cells #[.int .u64 (x.toNat : Int)] 29)) base v n xs (hown.alloc _) ⟨w.heap.size, 0, none⟩ 1 1 [x] hs (by simp; omega) (by omega)
theorem slantB_val (q c d : Nat) (hq : q < 4) (hc : c < 4) (hd : d ≤ 12) : IntKind.i64.wrap ((d : Int) + (IntKind.i64.wrap ((q : Int) + (c : Int))).tmod 4) = ((d + (q + c) % 4 : Nat) : Int) := by
  have h1 : IntKind.i64.wrap ((q : Int) + (c : Int)) = ((q + c : Nat) : Int) := by rw [IntKind.wrap_i64]; omega
  have h2 : ((q + c : Nat) : Int).tmod 4 = (((q + c) % 4 : Nat) : Int) := by rw [Int.tmod_eq_emod_of_nonneg (by omega)]; omega
  have h3 : (q + c) % 4 < 4 := by omega
  rw [h1, h2]
  generalize (q + c) % 4 = m at h3 ⊢
  rw [IntKind.wrap_i64]
  omega
theorem xor_ofNat (u : BitVec 32) (n : Nat) (h : n < 4294967296) : bits .xor .u64 (u.toNat : Int) (n : Int) = ((u ^^^ BitVec.ofNat 32 n).toNat : Int) := by
  have e : (n : Int) = ((BitVec.ofNat 32 n).toNat : Int) := by rw [BitVec.toNat_ofNat, Nat.mod_eq_of_lt h]
  rw [e, xor_val64]
theorem rows_cell {W : World} {gr : Nat} (h : W.heap[gr]? = some (.cells rowsV 9 (0, 0))) (i : Nat) (hi : i < 10) : W.cell? ⟨gr, i, none⟩ = some (.string (rowS i)) := by
  rw [cell_of_row W gr i _ _ (0, 0) h]
  simp [rowsV, hi]
theorem bs_word {w W w' : World} {hx : Addr} {hc : Nat} {hl : List (BitVec 32)} {gm cm : Nat} {ml : List (BitVec 32)} {gv cv : Nat} {vl : List (BitVec 32)} (h : BS w hx hc hl gm cm ml gv cv vl W) (hw : But gv W w') (i : Nat) (hi : i < 16) : w'.cell? ⟨gm, i, none⟩ = some (.int .u64 ((at32 ml i).toNat : Int)) := by
  have := (h.ms.word i hi).1
  rw [Nat.zero_add] at this
  exact World.grownBy.cell hw this (fun e => h.mv (by cases e; rfl))
theorem letter (i k : Nat) (hi : i < 10) (hk : k < 16) : ∃ r s, sig i k = s ∧ s < 16 ∧ 65 + s = r ∧ (rowS i)[k]? = some (UInt8.ofNat r) ∧ ((UInt8.ofNat r).toNat : Int) = (r : Int) ∧ IntKind.u8.wrap ((r : Int) - 65) = (s : Int) := by
  have h := sig_lt i k hi hk
  refine ⟨65 + sig i k, sig i k, rfl, h, rfl, rowS_at i k hi hk, ?_, ?_⟩
  · rw [UInt8.toNat_ofNat']; omega
  · rw [IntKind.wrap_u8]; omega

set_option maxHeartbeats 4000000 in
set_option maxRecDepth 100000 in
theorem refPart_any (hx : Addr) (hc : Nat) (hl : List (BitVec 32)) (bb boff bc : Nat) (b : List UInt8) (t : Nat) (last : Bool) (w : World) (hH : Seg w 29 (some hx) 8 hc (hl.map wv)) (hB : Byt w (some ⟨bb, boff, none⟩) 64 b) (hbc : 64 ≤ bc) (ht : t < 1000000) :
    Calls Tryz.prog 36 #[.slice (some hx) 8 hc, .slice (some ⟨bb, boff, none⟩) 64 bc, .int .i64 (t : Int), .bool last] w fun e w' => ∃ v, e = .returned v ∧ Below w.heap.size w w' ∧ w'.ownsRow w.heap.size 29 1 v 8 ((bpart hl b t last).map wv) := by
  have hll : hl.length = 8 := by have := hH.1; simpa using this
  have HH : Hid (Seg w 29 (some hx) 8 hc (hl.map wv)) := hH
  have HB : Hid (Byt w (some ⟨bb, boff, none⟩) 64 b) := hB
  have hxlt : hx.block < w.heap.size := hH.lt hx.block rfl
  have hblt := hB.lt (by omega)
  clear hH hB
  go_enter Tryz.func36, Tryz.ntmps36
  go_wp2
  go_loopw [9, 10] (fun v i wr => ∃ k : Nat, k ≤ 16 ∧ i = .int .i64 ((4 * k : Nat) : Int) ∧ Hid (wr.ownsRow w.heap.size 29 1 v k ((wordsTo b k).map wv)) ∧ Hid (Below w.heap.size w wr)) (fun _ i _ => 64 - (intOf i).toNat)
  case atStart => exact ⟨0, by omega, rfl, World.ownsRow_made w #[] 0 (Nat.le_refl _) (Nat.zero_le _) rfl, (Below.refl _ _).alloc (Nat.le_refl _) _⟩
  case round =>
    obtain ⟨k, hk, rfl, hO, hW⟩ := hrel
    obtain ⟨p, hp⟩ : ∃ p, 4 * k = p := ⟨_, rfl⟩
    rw [hp]
    by_cases hlt : k < 16
    · have i1 : (p : Int) < 64 := by omega
      have HWd : Hid ((getV b false p 4 : Int) = ((wordAt b k).toNat : Int)) := by show _ = _; rw [wordAt_val, hp]
      obtain ⟨v2, w2, hap, own2, hg2⟩ := append_word wr w.heap.size _ k _ hO.out (wordAt b k) hW.out.size (by omega)
      have HA2 : Hid (_) := hap
      have HO2 : Hid (w2.ownsRow w.heap.size 29 1 v2 (k + 1) ((wordsTo b (k + 1)).map wv)) := by rw [wordsTo_succ]; exact own2
      have HW2 : Hid (Below w.heap.size w w2) := hW.out.grown hg2 hW.out.size (fun j hj => (hO.out.lt j hj).1)
      have HBr : Hid (Byt wr (some ⟨bb, boff, none⟩) 64 b) := HB.out.below hblt hW.out
      clear hap own2 hg2 hO hW
      go_wp2_with fail
      refine (refGet_len bb boff 64 bc p 4 false b wr (by unfold maxLen; omega) hbc HBr.out (by omega) (by omega) (by omega)).mono ?_
      rintro e w' ⟨rfl, rfl⟩
      rw [HWd.out]
      go_wp2_with (at_builtin; refine wpList_append_run rfl (.tmp 32) (.tmp 34) 69 rfl _ _ _ _ rfl rfl HA2.out ?_)
      exact ⟨⟨k + 1, by omega, by go_num, HO2, HW2⟩, by simp [intOf]; omega⟩
    · have i1 : ¬ (p : Int) < 64 := by omega
      have ek : k = 16 := by omega
      have hO16 := hO.out
      rw [ek] at hO16
      obtain ⟨gm, cm, rfl, hbm2, hms⟩ := own_slice hO16 (by omega)
      obtain ⟨ml, hml⟩ : ∃ ml, wordsTo b 16 = ml := ⟨_, rfl⟩
      rw [hml] at hms
      have HML : Hid (wordsTo b 16 = ml) := hml
      have hmlt : gm < wr.heap.size := hms.lt gm rfl
      -- v := append(append([]uint64{}, h...), iv()...)
      have hal : Below wr.heap.size wr (wr.alloc (.cells #[] 29)) := (Below.refl _ _).alloc (Nat.le_refl _) _
      have hHr : Seg wr 29 (some hx) 8 hc (hl.map wv) := HH.out.kept fun j hj => hW.out.block j (HH.out.lt j hj)
      obtain ⟨v2, w2, hap2, own2, hg2⟩ := append_words (wr.alloc (.cells #[] 29)) wr.heap.size (.slice (some ⟨wr.heap.size, 0, none⟩) 0 0) 0 [] (World.ownsRow_made wr #[] 0 (Nat.le_refl _) (Nat.zero_le _) rfl) hx 8 hc hl (seg_later hHr hal) (by simp) (by omega)
      have bel2 : Below wr.heap.size wr w2 := hal.grown hg2 (by simp) (fun k hk => by simp [Value.ownBlock] at hk; omega)
      rw [List.nil_append] at own2
      have HA2 : Hid ((Builtin.append_ #[69, 69] 69 #[.slice (some ⟨wr.heap.size, 0, none⟩) 0 0, .slice (some hx) 8 hc]).run Tryz.prog (wr.alloc (.cells #[] 29)) = .ok v2 w2) := hap2
      have HO2 : Hid (w2.ownsRow wr.heap.size 29 1 v2 (0 + 8) (hl.map wv)) := own2
      have HW2 : Hid (Below wr.heap.size wr w2) := bel2
      have HMs : Hid (Seg wr 29 (some ⟨gm, 0, none⟩) 16 cm (ml.map wv)) := hms
      have HHr : Hid (Seg wr 29 (some hx) 8 hc (hl.map wv)) := hHr
      clear hap2 own2 hg2 bel2 hO hO16 hal hms hHr hml ek
      go_wp2_with (at_builtin; refine wpList_append_run rfl (.tmp 36) (.tmp 37) 69 rfl _ _ _ _ rfl rfl HA2.out ?_)
      refine (refIv_any _).mono ?_
      rintro e w3 ⟨rfl, hb3, own3⟩
      have hs3 : Seg w3 29 (some ⟨w2.heap.size, 0, none⟩) 8 8 (ivB.map wv) := by
        obtain ⟨g3, c3, e3, _, h3⟩ := own_slice own3 (by omega)
        cases e3
        exact h3
      have own2' := HO2.out.kept (grown_below hb3) (by
        rcases h : Value.ownBlock v2 with _ | j
        · exact .inl rfl
        · exact .inr (by simp))
      have bel3 : Below wr.heap.size wr w3 := HW2.out.trans (hb3.mono HW2.out.size)
      obtain ⟨v4, w4, hap4, own4, hg4⟩ := append_words w3 wr.heap.size v2 _ hl own2' ⟨w2.heap.size, 0, none⟩ 8 8 ivB hs3 bel3.size (by omega)
      have bel4 : Below wr.heap.size wr w4 := bel3.grown hg4 bel3.size (fun k hk => (own2'.lt k hk).1)
      obtain ⟨gv, cv, rfl, hbv, hvs⟩ := own_slice own4 (by omega)
      have HA4 : Hid ((Builtin.append_ #[69, 69] 69 #[v2, .slice (some ⟨w2.heap.size, 0, none⟩) 8 8]).run Tryz.prog w3 = .ok (.slice (some ⟨gv, 0, none⟩) (0 + 8 + 8) cv) w4) := hap4
      have HS4 : Hid (BS w hx hc hl gm cm ml gv cv (hl ++ ivB) w4) := ⟨seg_later HHr.out bel4, seg_later HMs.out bel4, hvs, by have := hW.out.size; omega, by omega, by have := hW.out.size; omega, hW.out.trans (bel4.mono hW.out.size)⟩
      clear hap4 own4 hg4 bel4 bel3 own2' hs3 own3 hb3 HO2 HW2 HA2 HMs HHr hvs hW
      go_wp2_with (at_builtin; refine wpList_append_run rfl (.tmp 38) (.tmp 39) 69 rfl _ _ _ _ rfl rfl HA4.out ?_)
      clear HA4
      obtain ⟨l0, hl0⟩ : ∃ l0, hl ++ ivB = l0 := ⟨_, rfl⟩
      have hlen0 : l0.length = 16 := by rw [← hl0, List.length_append, hll]; rfl
      rw [hl0] at HS4
      obtain ⟨u12, hu12⟩ : ∃ u, at32 l0 12 = u := ⟨_, rfl⟩
      obtain ⟨s12, hs12⟩ : ∃ s, u12 ^^^ BitVec.ofNat 32 t = s := ⟨_, rfl⟩
      have HX12 : Hid (bits .xor .u64 (u12.toNat : Int) (t : Int) = (s12.toNat : Int)) := by show _ = _; rw [xor_ofNat _ _ (by omega), hs12]
      obtain ⟨c12, f12⟩ := HS4.out.vs.drew.word 12 (by omega)
      rw [hu12] at c12
      obtain ⟨sg5, gr5⟩ := seg_step HS4.out.vs 12 (by omega) s12
      obtain ⟨W4, hW4⟩ : ∃ W, w4.drew = W := ⟨_, rfl⟩
      rw [hW4] at c12 f12 sg5 gr5
      obtain ⟨w5, hw5⟩ : ∃ w', W4.setCell ⟨gv, 0 + 12, none⟩ (wv s12) = w' := ⟨_, rfl⟩
      rw [hw5] at sg5 gr5
      have Hw5 : Hid (W4.setCell ⟨gv, 12, none⟩ (.int .u64 (s12.toNat : Int)) = w5) := hw5
      have HS5 : Hid (BS w hx hc hl gm cm ml gv cv (l0.set 12 s12) w5) := HS4.out.next sg5 gr5
      have HW4 : Hid (w4.drew = W4) := hW4
      have htm : (t : Int) % 4294967296 = (t : Int) := by omega
      clear sg5 gr5 hW4 hw5 HS4
      refine wp_region_sched' (G := Stays) (by kernel_rfl) Stays.refl Stays.trans (by kernel_rfl) [(0, true), (1, true), (2, true), (3, true), (4, true), (5, true), (6, false), (7, true), (8, true), (9, false)] rfl (by kernel_rfl) ?_
      intro KK8 hKK8
      rw [HW4.out]
      have htw : IntKind.u64.wrap (t : Int) = (t : Int) := by rw [IntKind.wrap_u64]; omega
      iterate 6 (refine sched_take rfl (by rfl) (v := ?_) ?_ ?_; rotate_left; (rintro w' rfl; go_simp; with_reducible rfl); go_simp)
      refine sched_call (f := 52) (args := #[.int .u64 (t : Int)]) rfl (by rfl) (by go_simp) ?_
      refine (refCutB_any _ _ (by omega) (by omega)).mono ?_
      rintro e w' ⟨rfl, rfl⟩
      refine ⟨_, rfl, rfl, ?_⟩
      rw [htm]
      go_simp
      iterate 2 (refine sched_take rfl (by rfl) (v := ?_) ?_ ?_; rotate_left; (rintro w' rfl; go_simp; with_reducible rfl); go_simp)
      refine sched_store rfl (by rfl) (w' := w5) (by rw [← Hw5.out, ← HX12.out]; go_simp) (by kernel_rfl) ?_
      go_simp
      refine sched_done hKK8 ?_
      clear hKK8 HW4 Hw5 c12 f12 HX12
      obtain ⟨l1, hl1⟩ : ∃ l1, l0.set 12 s12 = l1 := ⟨_, rfl⟩
      rw [hl1] at HS5
      obtain ⟨u13, hu13⟩ : ∃ u, at32 l1 13 = u := ⟨_, rfl⟩
      obtain ⟨q, hq⟩ : ∃ q, t / 4294967296 = q := ⟨_, rfl⟩
      obtain ⟨s13, hs13⟩ : ∃ s, u13 ^^^ BitVec.ofNat 32 q = s := ⟨_, rfl⟩
      have hX13 : bits .xor .u64 (u13.toNat : Int) (q : Int) = (s13.toNat : Int) := by rw [xor_ofNat _ _ (by omega), hs13]
      have hqi : (t : Int) / 4294967296 = (q : Int) := by omega
      have hqt : (t : Int).tdiv 4294967296 = (q : Int) := by rw [Int.tdiv_eq_ediv_of_nonneg (by omega)]; omega
      obtain ⟨c13, f13⟩ := HS5.out.vs.word 13 (by omega)
      rw [hu13] at c13
      have sg6 : Seg (w5.setCell ⟨gv, 0 + 13, none⟩ (wv s13)) 29 (some ⟨gv, 0, none⟩) 16 cv ((l1.set 13 s13).map wv) := by rw [List.map_set]; exact HS5.out.vs.set 13 (by omega) _
      have gr6 : w5.grownBy (w5.setCell ⟨gv, 0 + 13, none⟩ (wv s13)) (some gv) := ⟨rfl, rfl, rfl, by simp, fun j hj hne => heap_setCell_other w5 ⟨gv, 0 + 13, none⟩ j _ (fun e => hne (by rw [e]))⟩
      have HS6 : Hid (BS w hx hc hl gm cm ml gv cv (l1.set 13 s13) (w5.setCell ⟨gv, 0 + 13, none⟩ (wv s13))) := HS5.out.next sg6 gr6
      obtain ⟨w6, hw6⟩ : ∃ w', w5.setCell ⟨gv, 13, none⟩ (.int .u64 (s13.toNat : Int)) = w' := ⟨_, rfl⟩
      have HS6' : Hid (BS w hx hc hl gm cm ml gv cv (l1.set 13 s13) w6) := by rw [← hw6]; exact HS6
      obtain ⟨l2, hl2⟩ : ∃ l2, l1.set 13 s13 = l2 := ⟨_, rfl⟩
      rw [hl2] at HS6'
      obtain ⟨u14, hu14⟩ : ∃ u, at32 l2 14 = u := ⟨_, rfl⟩
      obtain ⟨s14, hs14⟩ : ∃ s, u14 ^^^ 0xffffffff#32 = s := ⟨_, rfl⟩
      have hX14 : bits .xor .u64 (u14.toNat : Int) 4294967295 = (s14.toNat : Int) := by
        have := xor_val64 u14 0xffffffff#32
        rw [hs14] at this
        exact this
      obtain ⟨c14, f14⟩ := HS6'.out.vs.word 14 (by omega)
      rw [hu14] at c14
      have sg7 : Seg (w6.setCell ⟨gv, 0 + 14, none⟩ (wv s14)) 29 (some ⟨gv, 0, none⟩) 16 cv ((l2.set 14 s14).map wv) := by rw [List.map_set]; exact HS6'.out.vs.set 14 (by omega) _
      have gr7 : w6.grownBy (w6.setCell ⟨gv, 0 + 14, none⟩ (wv s14)) (some gv) := ⟨rfl, rfl, rfl, by simp, fun j hj hne => heap_setCell_other w6 ⟨gv, 0 + 14, none⟩ j _ (fun e => hne (by rw [e]))⟩
      have HS7 : Hid (BS w hx hc hl gm cm ml gv cv (l2.set 14 s14) (w6.setCell ⟨gv, 14, none⟩ (.int .u64 (s14.toNat : Int)))) := HS6'.out.next sg7 gr7
      have HF : Hid (bfirst hl t last = if last then l2.set 14 s14 else l2) := by
        show _ = _
        unfold bfirst
        simp only [hl0, hu12, hs12, hl1, hu13, hq, hs13, hl2, hu14, hs14]
      clear sg6 gr6 sg7 gr7 HS6 HS5 hl1 hl2 hu13 hu14 hs13 hs14 hs12 hu12 hl0 hq
      cases last with
      | false =>
        have HF2 : Hid (bfirst hl t false = l2) := by
          show _ = _
          have := HF.out
          simpa using this
        clear HF HS7
        have HF := HF2
        clear HF2
        have HSz := HS6'
        clear HS6'
        go_wp2_with fail
        refine (refRows_any _).mono ?_
        rintro e w8 ⟨rfl, hb8, hr8⟩
        have HS8 : Hid (BS w hx hc hl gm cm ml gv cv l2 w8) := HSz.out.later hb8
        obtain ⟨gr, hgr⟩ : ∃ gr, w6.heap.size = gr := ⟨_, rfl⟩
        rw [hgr] at hr8 ⊢
        have hgrv : gr ≠ gv := by have := HSz.out.vs.lt gv rfl; omega
        have HR8 : Hid (w8.heap[gr]? = some (.cells rowsV 9 (0, 0))) := hr8
        obtain ⟨vz, hvz⟩ : ∃ vz, l2 = vz := ⟨_, rfl⟩
        rw [hvz] at HS8 HF
        clear hb8 hr8 hgr hvz
        have hvl : ∀ i, (bturned ml i vz).length = 16 := fun i => by rw [bturned_length, ← HF.out, bfirst_length _ _ _ hll]
        go_wp2
        go_loopw [15] (fun iv wr => ∃ i : Nat, i ≤ 10 ∧ iv = .int .i64 i ∧ Hid (BS w hx hc hl gm cm ml gv cv (bturned ml i vz) wr) ∧ Hid (wr.heap[gr]? = some (.cells rowsV 9 (0, 0)))) (fun iv _ => 10 - (intOf iv).toNat)
        case atStart => exact ⟨0, by omega, rfl, HS8, HR8⟩
        case round =>
          clear HS8 HR8
          obtain ⟨i, hi, rfl, hS, hR⟩ := hrel
          by_cases hi10 : i < 10
          · have hii : (i : Int) < 10 := by omega
            have hrc := rows_cell hR.out i hi10
            go_wp2
            clear hrc
            go_loopw [17] (fun kv wr => ∃ k : Nat, k ≤ 4 ∧ kv = .int .i64 k ∧ Hid (BS w hx hc hl gm cm ml gv cv (bcols i ml k (bturned ml i vz)) wr) ∧ Hid (wr.heap[gr]? = some (.cells rowsV 9 (0, 0)))) (fun kv _ => 4 - (intOf kv).toNat)
            case atStart => exact ⟨0, by omega, rfl, hS, hR⟩
            case round =>
              clear hS hR
              obtain ⟨k, hk, rfl, hS, hR⟩ := hrel
              by_cases hk4 : k < 4
              · obtain ⟨p1, hp1⟩ : ∃ p, 4 + k = p := ⟨_, rfl⟩
                obtain ⟨p2, hp2⟩ : ∃ p, 8 + k = p := ⟨_, rfl⟩
                obtain ⟨p3, hp3⟩ : ∃ p, 12 + k = p := ⟨_, rfl⟩
                obtain ⟨q1, hq1⟩ : ∃ q, 2 * k = q := ⟨_, rfl⟩
                obtain ⟨q2, hq2⟩ : ∃ q, 2 * k + 1 = q := ⟨_, rfl⟩
                have e1 : IntKind.i64.wrap ((4 : Int) + (k : Int)) = (p1 : Int) := by rw [IntKind.wrap_i64]; omega
                have e2 : IntKind.i64.wrap ((8 : Int) + (k : Int)) = (p2 : Int) := by rw [IntKind.wrap_i64]; omega
                have e3 : IntKind.i64.wrap ((12 : Int) + (k : Int)) = (p3 : Int) := by rw [IntKind.wrap_i64]; omega
                have e4 : IntKind.i64.wrap ((2 : Int) * (k : Int)) = (q1 : Int) := by rw [IntKind.wrap_i64]; omega
                have e5 : IntKind.i64.wrap ((q1 : Int) + 1) = (q2 : Int) := by rw [IntKind.wrap_i64]; omega
                obtain ⟨r1, s1, hs1, hs1b, hr1, hc1, hn1, hw1⟩ := letter i q1 hi10 (by omega)
                obtain ⟨r2, s2, hs2, hs2b, hr2, hc2, hn2, hw2⟩ := letter i q2 hi10 (by omega)
                have hki : (k : Int) < 4 := by omega
                have hs1i : (s1 : Int) < 16 := by omega
                have hs2i : (s2 : Int) < 16 := by omega
                have hdr : Below wr.heap.size wr wr.drew := (Below.refl _ _).drew
                have HSd : Hid (BS w hx hc hl gm cm ml gv cv (bcols i ml k (bturned ml i vz)) wr.drew) := hS.out.later hdr
                have HRd : Hid (wr.drew.heap[gr]? = some (.cells rowsV 9 (0, 0))) := hR.out
                obtain ⟨x1, hx1⟩ : ∃ x, at32 ml s1 = x := ⟨_, rfl⟩
                obtain ⟨x2, hx2⟩ : ∃ x, at32 ml s2 = x := ⟨_, rfl⟩
                have HE : Hid (bcols i ml (k + 1) (bturned ml i vz) = bmix (bcols i ml k (bturned ml i vz)) k p1 p2 p3 x1 x2) := by
                  show _ = _
                  rw [bcols, hp1, hp2, hp3, hq2, hq1, hs1, hs2, hx1, hx2]
                clear hS hR hdr
                go_wp2
                refine wp_region_sched' (G := But gv) (by kernel_rfl) (But.refl gv) (But.trans gv) (by kernel_rfl) [(0, true), (1, true), (2, true), (3, true), (4, true), (5, true), (6, true), (7, true), (8, true), (9, true), (10, true), (11, true), (12, true), (13, true), (14, true), (15, true), (16, true), (17, true), (18, true), (19, true), (20, true), (21, true), (22, true), (23, true), (24, true), (25, false)] rfl (by kernel_rfl) ?_
                intro KK hKK
                generalize wr.drew = W at HSd HRd ⊢
                have hld1 : ∀ w', But gv W w' → w'.cell? ⟨gm, s1, none⟩ = some (.int .u64 (x1.toNat : Int)) := fun w' hw' => by rw [← hx1]; exact bs_word HSd.out hw' s1 hs1b
                have hld2 : ∀ w', But gv W w' → w'.cell? ⟨gm, s2, none⟩ = some (.int .u64 (x2.toNat : Int)) := fun w' hw' => by rw [← hx2]; exact bs_word HSd.out hw' s2 hs2b
                have HLD : Hid ((∀ w', But gv W w' → w'.cell? ⟨gm, s1, none⟩ = some (.int .u64 (x1.toNat : Int))) ∧ ∀ w', But gv W w' → w'.cell? ⟨gm, s2, none⟩ = some (.int .u64 (x2.toNat : Int))) := ⟨hld1, hld2⟩
                have HIX : Hid ((rowS i)[q1]? = some (UInt8.ofNat r1) ∧ (rowS i)[q2]? = some (UInt8.ofNat r2) ∧ ((UInt8.ofNat r1).toNat : Int) = (r1 : Int) ∧ ((UInt8.ofNat r2).toNat : Int) = (r2 : Int)) := ⟨hc1, hc2, hn1, hn2⟩
                have HB16 : Hid (p1 < 16 ∧ p2 < 16 ∧ p3 < 16) := ⟨by omega, by omega, by omega⟩
                clear hld1 hld2 hc1 hc2 hn1 hn2 hs1 hs2 hr1 hr2 hp1 hp2 hp3 hq1 hq2 hx1 hx2
                iterate 12 (refine sched_take rfl (by rfl) (v := ?_) ?_ ?_; rotate_left; (intro w' hw'; clear hw'; go_simp; with_reducible rfl); go_simp)
                refine sched_take rfl (by rfl) (v := .int .u8 (r1 : Int)) (fun w' hw' => exec_index' 9 _ _ rfl (rowS i) q1 _ _ rfl rfl Tryz.underlying9 HIX.out.1 HIX.out.2.2.1) ?_
                go_simp
                iterate 8 (refine sched_take rfl (by rfl) (v := ?_) ?_ ?_; rotate_left; (intro w' hw'; have z1 := HLD.out.1 w' hw'; clear hw'; go_simp; with_reducible rfl); go_simp)
                refine sched_take rfl (by rfl) (v := .int .u8 (r2 : Int)) (fun w' hw' => exec_index' 9 _ _ rfl (rowS i) q2 _ _ rfl rfl Tryz.underlying9 HIX.out.2.1 HIX.out.2.2.2) ?_
                go_simp
                iterate 3 (refine sched_take rfl (by rfl) (v := ?_) ?_ ?_; rotate_left; (intro w' hw'; have z1 := HLD.out.2 w' hw'; clear hw'; go_simp; with_reducible rfl); go_simp)
                refine sched_call (f := 54) (args := #[.slice (some ⟨gv, 0, none⟩) 16 cv, .int .i64 k, .int .i64 p1, .int .i64 p2, .int .i64 p3, .int .u64 (x1.toNat : Int), .int .u64 (x2.toNat : Int)]) rfl (by rfl) (by go_simp) ?_
                refine (refMix_any gv 0 cv 16 _ k p1 p2 p3 x1 x2 _ HSd.out.vs (by omega) HB16.out.1 HB16.out.2.1 HB16.out.2.2).mono ?_
                rintro e w9 ⟨⟨v9, rfl⟩, hs9, hg9⟩
                refine ⟨_, rfl, hg9, ?_⟩
                have HS9 : Hid (BS w hx hc hl gm cm ml gv cv (bcols i ml (k + 1) (bturned ml i vz)) w9) := by rw [HE.out]; exact HSd.out.next hs9 hg9
                have HR9 : Hid (w9.heap[gr]? = some (.cells rowsV 9 (0, 0))) := by
                  show _ = _
                  rw [hg9.block gr (Array.getElem?_eq_some_iff.1 HRd.out).1 (fun e => hgrv (Option.some.inj e))]; exact HRd.out
                clear hs9 hg9 HSd HRd HLD HIX HE HB16
                go_simp
                refine sched_done hKK ?_
                go_wp2
                exact ⟨⟨k + 1, by omega, by go_num, HS9, HR9⟩, by simp [intOf]; omega⟩
              · have hki : ¬ (k : Int) < 4 := by omega
                have ek : k = 4 := by omega
                have HS4 : Hid (BS w hx hc hl gm cm ml gv cv (bcols i ml 4 (bturned ml i vz)) wr) := by have := hS.out; rw [ek] at this; exact this
                clear hS ek
                go_wp2
                obtain ⟨vc, hvc⟩ : ∃ x, bcols i ml 4 (bturned ml i vz) = x := ⟨_, rfl⟩
                rw [hvc] at HS4
                have HVC : Hid (bcols i ml 4 (bturned ml i vz) = vc) := hvc
                clear hvc
                go_loopw [18] (fun kv wr => ∃ k : Nat, k ≤ 4 ∧ kv = .int .i64 k ∧ Hid (BS w hx hc hl gm cm ml gv cv (bslants i ml k vc) wr) ∧ Hid (wr.heap[gr]? = some (.cells rowsV 9 (0, 0)))) (fun kv _ => 4 - (intOf kv).toNat)
                case atStart => exact ⟨0, by omega, rfl, HS4, hR⟩
                case round =>
                  clear HS4 hR
                  obtain ⟨k, hk, rfl, hS, hR⟩ := hrel
                  by_cases hk4 : k < 4
                  · obtain ⟨p1, hp1⟩ : ∃ p, 4 + (k + 1) % 4 = p := ⟨_, rfl⟩
                    obtain ⟨p2, hp2⟩ : ∃ p, 8 + (k + 2) % 4 = p := ⟨_, rfl⟩
                    obtain ⟨p3, hp3⟩ : ∃ p, 12 + (k + 3) % 4 = p := ⟨_, rfl⟩
                    obtain ⟨q0, hq0⟩ : ∃ q, 2 * k = q := ⟨_, rfl⟩
                    obtain ⟨q1, hq1⟩ : ∃ q, 8 + q0 = q := ⟨_, rfl⟩
                    obtain ⟨q2, hq2⟩ : ∃ q, 9 + q0 = q := ⟨_, rfl⟩
                    have e1 : IntKind.i64.wrap ((4 : Int) + (IntKind.i64.wrap ((k : Int) + 1)).tmod 4) = (p1 : Int) := by rw [← hp1]; exact slantB_val k 1 4 hk4 (by omega) (by omega)
                    have e2 : IntKind.i64.wrap ((8 : Int) + (IntKind.i64.wrap ((k : Int) + 2)).tmod 4) = (p2 : Int) := by rw [← hp2]; exact slantB_val k 2 8 hk4 (by omega) (by omega)
                    have e3 : IntKind.i64.wrap ((12 : Int) + (IntKind.i64.wrap ((k : Int) + 3)).tmod 4) = (p3 : Int) := by rw [← hp3]; exact slantB_val k 3 12 hk4 (by omega) (by omega)
                    have e4 : IntKind.i64.wrap ((2 : Int) * (k : Int)) = (q0 : Int) := by rw [IntKind.wrap_i64]; omega
                    have e5 : IntKind.i64.wrap ((8 : Int) + (q0 : Int)) = (q1 : Int) := by rw [IntKind.wrap_i64]; omega
                    have e6 : IntKind.i64.wrap ((9 : Int) + (q0 : Int)) = (q2 : Int) := by rw [IntKind.wrap_i64]; omega
                    obtain ⟨r1, s1, hs1, hs1b, hr1, hc1, hn1, hw1⟩ := letter i q1 hi10 (by omega)
                    obtain ⟨r2, s2, hs2, hs2b, hr2, hc2, hn2, hw2⟩ := letter i q2 hi10 (by omega)
                    have hki : (k : Int) < 4 := by omega
                    have hs1i : (s1 : Int) < 16 := by omega
                    have hs2i : (s2 : Int) < 16 := by omega
                    have hdr : Below wr.heap.size wr wr.drew := (Below.refl _ _).drew
                    have HSd : Hid (BS w hx hc hl gm cm ml gv cv (bslants i ml k vc) wr.drew) := hS.out.later hdr
                    have HRd : Hid (wr.drew.heap[gr]? = some (.cells rowsV 9 (0, 0))) := hR.out
                    obtain ⟨x1, hx1⟩ : ∃ x, at32 ml s1 = x := ⟨_, rfl⟩
                    obtain ⟨x2, hx2⟩ : ∃ x, at32 ml s2 = x := ⟨_, rfl⟩
                    have HE : Hid (bslants i ml (k + 1) vc = bmix (bslants i ml k vc) k p1 p2 p3 x1 x2) := by
                      show _ = _
                      rw [bslants, hp1, hp2, hp3, hq0, hq2, hq1, hs1, hs2, hx1, hx2]
                    clear hS hR hdr
                    go_wp2
                    refine wp_region_sched' (G := But gv) (by kernel_rfl) (But.refl gv) (But.trans gv) (by kernel_rfl) [(0, true), (1, true), (2, true), (3, true), (4, true), (5, true), (6, true), (7, true), (8, true), (9, true), (10, true), (11, true), (12, true), (13, true), (14, true), (15, true), (16, true), (17, true), (18, true), (19, true), (20, true), (21, true), (22, true), (23, true), (24, true), (25, true), (26, true), (27, true), (28, true), (29, true), (30, true), (31, true), (32, false)] rfl (by kernel_rfl) ?_
                    intro KK hKK
                    generalize wr.drew = W at HSd HRd ⊢
                    have hld1 : ∀ w', But gv W w' → w'.cell? ⟨gm, s1, none⟩ = some (.int .u64 (x1.toNat : Int)) := fun w' hw' => by rw [← hx1]; exact bs_word HSd.out hw' s1 hs1b
                    have hld2 : ∀ w', But gv W w' → w'.cell? ⟨gm, s2, none⟩ = some (.int .u64 (x2.toNat : Int)) := fun w' hw' => by rw [← hx2]; exact bs_word HSd.out hw' s2 hs2b
                    have HLD : Hid ((∀ w', But gv W w' → w'.cell? ⟨gm, s1, none⟩ = some (.int .u64 (x1.toNat : Int))) ∧ ∀ w', But gv W w' → w'.cell? ⟨gm, s2, none⟩ = some (.int .u64 (x2.toNat : Int))) := ⟨hld1, hld2⟩
                    have HIX : Hid ((rowS i)[q1]? = some (UInt8.ofNat r1) ∧ (rowS i)[q2]? = some (UInt8.ofNat r2) ∧ ((UInt8.ofNat r1).toNat : Int) = (r1 : Int) ∧ ((UInt8.ofNat r2).toNat : Int) = (r2 : Int)) := ⟨hc1, hc2, hn1, hn2⟩
                    have HB16 : Hid (p1 < 16 ∧ p2 < 16 ∧ p3 < 16) := ⟨by omega, by omega, by omega⟩
                    clear hld1 hld2 hc1 hc2 hn1 hn2 hs1 hs2 hr1 hr2 hp1 hp2 hp3 hq0 hq1 hq2 hx1 hx2
                    iterate 19 (refine sched_take rfl (by rfl) (v := ?_) ?_ ?_; rotate_left; (intro w' hw'; clear hw'; go_simp; with_reducible rfl); go_simp)
                    refine sched_take rfl (by rfl) (v := .int .u8 (r1 : Int)) (fun w' hw' => exec_index' 9 _ _ rfl (rowS i) q1 _ _ rfl rfl Tryz.underlying9 HIX.out.1 HIX.out.2.2.1) ?_
                    go_simp
                    iterate 8 (refine sched_take rfl (by rfl) (v := ?_) ?_ ?_; rotate_left; (intro w' hw'; have z1 := HLD.out.1 w' hw'; clear hw'; go_simp; with_reducible rfl); go_simp)
                    refine sched_take rfl (by rfl) (v := .int .u8 (r2 : Int)) (fun w' hw' => exec_index' 9 _ _ rfl (rowS i) q2 _ _ rfl rfl Tryz.underlying9 HIX.out.2.1 HIX.out.2.2.2) ?_
                    go_simp
                    iterate 3 (refine sched_take rfl (by rfl) (v := ?_) ?_ ?_; rotate_left; (intro w' hw'; have z1 := HLD.out.2 w' hw'; clear hw'; go_simp; with_reducible rfl); go_simp)
                    refine sched_call (f := 54) (args := #[.slice (some ⟨gv, 0, none⟩) 16 cv, .int .i64 k, .int .i64 p1, .int .i64 p2, .int .i64 p3, .int .u64 (x1.toNat : Int), .int .u64 (x2.toNat : Int)]) rfl (by rfl) (by go_simp) ?_
                    refine (refMix_any gv 0 cv 16 _ k p1 p2 p3 x1 x2 _ HSd.out.vs (by omega) HB16.out.1 HB16.out.2.1 HB16.out.2.2).mono ?_
                    rintro e w9 ⟨⟨v9, rfl⟩, hs9, hg9⟩
                    refine ⟨_, rfl, hg9, ?_⟩
                    have HS9 : Hid (BS w hx hc hl gm cm ml gv cv (bslants i ml (k + 1) vc) w9) := by rw [HE.out]; exact HSd.out.next hs9 hg9
                    have HR9 : Hid (w9.heap[gr]? = some (.cells rowsV 9 (0, 0))) := by
                      show _ = _
                      rw [hg9.block gr (Array.getElem?_eq_some_iff.1 HRd.out).1 (fun e => hgrv (Option.some.inj e))]; exact HRd.out
                    clear hs9 hg9 HSd HRd HLD HIX HE HB16
                    go_simp
                    refine sched_done hKK ?_
                    go_wp2
                    exact ⟨⟨k + 1, by omega, by go_num, HS9, HR9⟩, by simp [intOf]; omega⟩
                  · have hki : ¬ (k : Int) < 4 := by omega
                    have ek : k = 4 := by omega
                    have HS9 : Hid (BS w hx hc hl gm cm ml gv cv (bturned ml (i + 1) vz) wr) := by have := hS.out; rw [ek, ← HVC.out] at this; exact this
                    clear hS ek HVC
                    go_wp2
                    exact ⟨⟨i + 1, by omega, by go_num, HS9, hR⟩, by simp [intOf]; omega⟩
          · have hii : ¬ (i : Int) < 10 := by omega
            have ei : i = 10 := by omega
            have HT : Hid (BS w hx hc hl gm cm ml gv cv (bturned ml 10 vz) wr) := by have := hS.out; rw [ei] at this; exact this
            clear hS hR ei
            go_wp2
            obtain ⟨vt, hvt⟩ : ∃ x, bturned ml 10 vz = x := ⟨_, rfl⟩
            rw [hvt] at HT
            have HVT : Hid (bturned ml 10 vz = vt) := hvt
            obtain ⟨hxb, hxo, rfl⟩ : ∃ b o, hx = ⟨b, o, none⟩ := by
              rcases HT.out.hs.2 with h0 | ⟨g, o, _, e0, _⟩
              · omega
              · exact ⟨g, o, Option.some.inj e0⟩
            obtain ⟨B0, hB0⟩ : ∃ B, wr.heap.size = B := ⟨_, rfl⟩
            have hb1 : hxb < B0 := by rw [← hB0]; exact HT.out.hs.lt hxb rfl
            have hb2 : gm < B0 := by rw [← hB0]; exact HT.out.ms.lt gm rfl
            have hb3 : gv < B0 := by rw [← hB0]; exact HT.out.vs.lt gv rfl
            have hb4 : w.heap.size ≤ B0 := by rw [← hB0]; exact HT.out.bel.size
            have HO0 : Hid ((wr.alloc (.cells #[] 29)).ownsRow B0 29 1 (.slice (some ⟨wr.heap.size, 0, none⟩) 0 0) 0 ((bouts hl vt 0).map wv)) := World.ownsRow_made wr #[] 0 (Nat.le_of_eq hB0.symm) (Nat.zero_le _) rfl
            have HT0 : Hid (BS w ⟨hxb, hxo, none⟩ hc hl gm cm ml gv cv vt (wr.alloc (.cells #[] 29))) := HT.out.later ((Below.refl _ _).alloc (Nat.le_refl _) _)
            have hsz0 : B0 ≤ (wr.alloc (.cells #[] 29)).heap.size := by simp; omega
            clear hvt HT hB0
            go_loopw [19, 20] (fun v iv wr => ∃ j : Nat, j ≤ 8 ∧ iv = .int .i64 j ∧ Hid (wr.ownsRow B0 29 1 v j ((bouts hl vt j).map wv)) ∧ Hid (BS w ⟨hxb, hxo, none⟩ hc hl gm cm ml gv cv vt wr) ∧ B0 ≤ wr.heap.size) (fun _ iv _ => 8 - (intOf iv).toNat)
            case atStart => exact ⟨0, by omega, rfl, HO0, HT0, hsz0⟩
            case round =>
              clear HO0 HT0
              obtain ⟨j, hj, rfl, hO, hS, hszB⟩ := hrel
              by_cases hj8 : j < 8
              · have hji : (j : Int) < 8 := by omega
                have hj16 : (j : Int) < 16 := by omega
                obtain ⟨pj, hpj⟩ : ∃ x, 8 + j = x := ⟨_, rfl⟩
                have hpj16 : (pj : Int) < 16 := by omega
                have ej1 : IntKind.i64.wrap ((8 : Int) + (j : Int)) = (pj : Int) := by rw [IntKind.wrap_i64]; omega
                obtain ⟨a0, ha0⟩ : ∃ x, at32 hl j = x := ⟨_, rfl⟩
                obtain ⟨a1, ha1⟩ : ∃ x, at32 vt j = x := ⟨_, rfl⟩
                obtain ⟨a2, ha2⟩ : ∃ x, at32 vt pj = x := ⟨_, rfl⟩
                obtain ⟨y1, hy1⟩ : ∃ x, a0 ^^^ a1 = x := ⟨_, rfl⟩
                obtain ⟨y2, hy2⟩ : ∃ x, y1 ^^^ a2 = x := ⟨_, rfl⟩
                have hX1 : bits .xor .u64 (a0.toNat : Int) (a1.toNat : Int) = (y1.toNat : Int) := by rw [xor_val64, hy1]
                have hX2 : bits .xor .u64 (y1.toNat : Int) (a2.toNat : Int) = (y2.toNat : Int) := by rw [xor_val64, hy2]
                have HOd : Hid (wr.drew.ownsRow B0 29 1 u19 j ((bouts hl vt j).map wv)) := hO.out
                have HSd : Hid (BS w ⟨hxb, hxo, none⟩ hc hl gm cm ml gv cv vt wr.drew) := hS.out.later (Below.refl _ _).drew
                have hszd : B0 ≤ wr.drew.heap.size := hszB
                have HE : Hid (bouts hl vt (j + 1) = bouts hl vt j ++ [y2]) := by
                  show _ = _
                  rw [bouts_succ, hpj, ha0, ha1, ha2, hy1, hy2]
                clear hO hS
                go_wp2
                refine wp_region_sched' (G := Rest u19) (by kernel_rfl) (Rest.refl _) (Rest.trans _) (by kernel_rfl) [(0, true), (1, true), (2, true), (3, true), (4, true), (5, true), (6, true), (7, true), (8, true), (9, true), (10, true), (11, true), (12, true), (13, true), (14, true), (15, true), (16, false), (17, false), (18, true)] rfl (by kernel_rfl) ?_
                intro KK hKK
                generalize wr.drew = W at HSd HOd hszd ⊢
                have HLD : Hid (∀ w', Rest u19 W w' → w'.cell? ⟨hxb, hxo + j, none⟩ = some (.int .u64 (a0.toNat : Int)) ∧ w'.cell? ⟨gv, j, none⟩ = some (.int .u64 (a1.toNat : Int)) ∧ w'.cell? ⟨gv, pj, none⟩ = some (.int .u64 (a2.toNat : Int))) := fun w' hw' => by
                  have hB := HSd.out.rest HOd.out hw' hb1 hb2 hb3 hb4
                  have k1 := (hB.hs.word j hj8).1
                  have k2 := (hB.vs.word j (by omega)).1
                  have k3 := (hB.vs.word pj (by omega)).1
                  rw [Nat.zero_add] at k2 k3
                  rw [ha0] at k1
                  rw [ha1] at k2
                  rw [ha2] at k3
                  exact ⟨k1, k2, k3⟩
                obtain ⟨v3, w3, hap3, own3, hg3⟩ := append_wordA W B0 u19 j _ HOd.out y2 hszd (by omega)
                rw [← HE.out] at own3
                have hR1 : Rest u19 W (W.alloc (.cells #[.int .u64 (y2.toNat : Int)] 29)) := Rest.below _ ((Below.refl _ _).alloc (Nat.le_refl _) _)
                have HR1 : Hid (Rest u19 W (W.alloc (.cells #[.int .u64 (y2.toNat : Int)] 29))) := hR1
                have HR2 : Hid (Rest u19 (W.alloc (.cells #[.int .u64 (y2.toNat : Int)] 29)) w3) := hg3
                have HS3 : Hid (BS w ⟨hxb, hxo, none⟩ hc hl gm cm ml gv cv vt w3) := HSd.out.rest HOd.out (Rest.trans _ _ _ _ hR1 hg3) hb1 hb2 hb3 hb4
                have HO3 : Hid (w3.ownsRow B0 29 1 v3 (j + 1) ((bouts hl vt (j + 1)).map wv)) := own3
                have HA3 : Hid ((Builtin.append_ #[69, 69] 69 #[u19, .slice (some ⟨W.heap.size, 0, none⟩) 1 1]).run Tryz.prog (W.alloc (.cells #[.int .u64 (y2.toNat : Int)] 29)) = .ok v3 w3) := hap3
                have hsz3 : B0 ≤ w3.heap.size := Nat.le_trans hszd (Nat.le_trans hR1.size hg3.size)
                clear hap3 own3 hg3 hR1 hszd HE ha0 ha1 ha2 hy1 hy2 hpj
                iterate 16 (refine sched_take rfl (by rfl) (v := ?_) ?_ ?_; rotate_left; (intro w' hw'; obtain ⟨z1, z2, z3⟩ := HLD.out w' hw'; clear hw'; go_simp; with_reducible rfl); go_simp)
                refine sched_val rfl (by rfl) (v := .slice (some ⟨W.heap.size, 0, none⟩) 1 1) (w' := W.alloc (.cells #[.int .u64 (y2.toNat : Int)] 29)) (by go_simp) HR1.out ?_
                go_simp
                refine sched_append (s := .tmp 147) (x := .tmp 163) (t := 69) rfl (by rfl) rfl rfl rfl HA3.out HR2.out ?_
                clear HA3 HR2 HR1 HLD HOd HSd
                go_simp
                iterate 1 (refine sched_take rfl (by rfl) (v := ?_) ?_ ?_; rotate_left; (intro w' hw'; clear hw'; go_simp; with_reducible rfl); go_simp)
                refine sched_done hKK ?_
                go_wp2
                exact ⟨⟨j + 1, by omega, by go_num, HO3, HS3, hsz3⟩, by simp [intOf]; omega⟩
              · have hji : ¬ (j : Int) < 8 := by omega
                have ej : j = 8 := by omega
                have HOz : Hid (wr.ownsRow B0 29 1 u19 8 ((bpart hl b t false).map wv)) := by
                  have := hO.out
                  rw [ej, ← HVT.out, ← HF.out, ← HML.out] at this
                  exact this
                clear hO ej
                go_wp2
                go_ret
                exact ⟨_, rfl, hS.out.bel, own_lower HOz.out hb4⟩
      | true =>
        have HF2 : Hid (bfirst hl t true = l2.set 14 s14) := by
          show _ = _
          have := HF.out
          simpa using this
        clear HF HS6'
        have HF := HF2
        clear HF2
        have HSz := HS7
        clear HS7
        go_wp2_with fail
        refine (refRows_any _).mono ?_
        rintro e w8 ⟨rfl, hb8, hr8⟩
        have HS8 : Hid (BS w hx hc hl gm cm ml gv cv (l2.set 14 s14) w8) := HSz.out.later hb8
        obtain ⟨gr, hgr⟩ : ∃ gr, (w6.setCell ⟨gv, 14, none⟩ (.int .u64 (s14.toNat : Int))).heap.size = gr := ⟨_, rfl⟩
        rw [hgr] at hr8 ⊢
        have hgrv : gr ≠ gv := by have := HSz.out.vs.lt gv rfl; omega
        have HR8 : Hid (w8.heap[gr]? = some (.cells rowsV 9 (0, 0))) := hr8
        obtain ⟨vz, hvz⟩ : ∃ vz, (l2.set 14 s14) = vz := ⟨_, rfl⟩
        rw [hvz] at HS8 HF
        clear hb8 hr8 hgr hvz
        have hvl : ∀ i, (bturned ml i vz).length = 16 := fun i => by rw [bturned_length, ← HF.out, bfirst_length _ _ _ hll]
        go_wp2
        go_loopw [15] (fun iv wr => ∃ i : Nat, i ≤ 10 ∧ iv = .int .i64 i ∧ Hid (BS w hx hc hl gm cm ml gv cv (bturned ml i vz) wr) ∧ Hid (wr.heap[gr]? = some (.cells rowsV 9 (0, 0)))) (fun iv _ => 10 - (intOf iv).toNat)
        case atStart => exact ⟨0, by omega, rfl, HS8, HR8⟩
        case round =>
          clear HS8 HR8
          obtain ⟨i, hi, rfl, hS, hR⟩ := hrel
          by_cases hi10 : i < 10
          · have hii : (i : Int) < 10 := by omega
            have hrc := rows_cell hR.out i hi10
            go_wp2
            clear hrc
            go_loopw [17] (fun kv wr => ∃ k : Nat, k ≤ 4 ∧ kv = .int .i64 k ∧ Hid (BS w hx hc hl gm cm ml gv cv (bcols i ml k (bturned ml i vz)) wr) ∧ Hid (wr.heap[gr]? = some (.cells rowsV 9 (0, 0)))) (fun kv _ => 4 - (intOf kv).toNat)
            case atStart => exact ⟨0, by omega, rfl, hS, hR⟩
            case round =>
              clear hS hR
              obtain ⟨k, hk, rfl, hS, hR⟩ := hrel
              by_cases hk4 : k < 4
              · obtain ⟨p1, hp1⟩ : ∃ p, 4 + k = p := ⟨_, rfl⟩
                obtain ⟨p2, hp2⟩ : ∃ p, 8 + k = p := ⟨_, rfl⟩
                obtain ⟨p3, hp3⟩ : ∃ p, 12 + k = p := ⟨_, rfl⟩
                obtain ⟨q1, hq1⟩ : ∃ q, 2 * k = q := ⟨_, rfl⟩
                obtain ⟨q2, hq2⟩ : ∃ q, 2 * k + 1 = q := ⟨_, rfl⟩
                have e1 : IntKind.i64.wrap ((4 : Int) + (k : Int)) = (p1 : Int) := by rw [IntKind.wrap_i64]; omega
                have e2 : IntKind.i64.wrap ((8 : Int) + (k : Int)) = (p2 : Int) := by rw [IntKind.wrap_i64]; omega
                have e3 : IntKind.i64.wrap ((12 : Int) + (k : Int)) = (p3 : Int) := by rw [IntKind.wrap_i64]; omega
                have e4 : IntKind.i64.wrap ((2 : Int) * (k : Int)) = (q1 : Int) := by rw [IntKind.wrap_i64]; omega
                have e5 : IntKind.i64.wrap ((q1 : Int) + 1) = (q2 : Int) := by rw [IntKind.wrap_i64]; omega
                obtain ⟨r1, s1, hs1, hs1b, hr1, hc1, hn1, hw1⟩ := letter i q1 hi10 (by omega)
                obtain ⟨r2, s2, hs2, hs2b, hr2, hc2, hn2, hw2⟩ := letter i q2 hi10 (by omega)
                have hki : (k : Int) < 4 := by omega
                have hs1i : (s1 : Int) < 16 := by omega
                have hs2i : (s2 : Int) < 16 := by omega
                have hdr : Below wr.heap.size wr wr.drew := (Below.refl _ _).drew
                have HSd : Hid (BS w hx hc hl gm cm ml gv cv (bcols i ml k (bturned ml i vz)) wr.drew) := hS.out.later hdr
                have HRd : Hid (wr.drew.heap[gr]? = some (.cells rowsV 9 (0, 0))) := hR.out
                obtain ⟨x1, hx1⟩ : ∃ x, at32 ml s1 = x := ⟨_, rfl⟩
                obtain ⟨x2, hx2⟩ : ∃ x, at32 ml s2 = x := ⟨_, rfl⟩
                have HE : Hid (bcols i ml (k + 1) (bturned ml i vz) = bmix (bcols i ml k (bturned ml i vz)) k p1 p2 p3 x1 x2) := by
                  show _ = _
                  rw [bcols, hp1, hp2, hp3, hq2, hq1, hs1, hs2, hx1, hx2]
                clear hS hR hdr
                go_wp2
                refine wp_region_sched' (G := But gv) (by kernel_rfl) (But.refl gv) (But.trans gv) (by kernel_rfl) [(0, true), (1, true), (2, true), (3, true), (4, true), (5, true), (6, true), (7, true), (8, true), (9, true), (10, true), (11, true), (12, true), (13, true), (14, true), (15, true), (16, true), (17, true), (18, true), (19, true), (20, true), (21, true), (22, true), (23, true), (24, true), (25, false)] rfl (by kernel_rfl) ?_
                intro KK hKK
                generalize wr.drew = W at HSd HRd ⊢
                have hld1 : ∀ w', But gv W w' → w'.cell? ⟨gm, s1, none⟩ = some (.int .u64 (x1.toNat : Int)) := fun w' hw' => by rw [← hx1]; exact bs_word HSd.out hw' s1 hs1b
                have hld2 : ∀ w', But gv W w' → w'.cell? ⟨gm, s2, none⟩ = some (.int .u64 (x2.toNat : Int)) := fun w' hw' => by rw [← hx2]; exact bs_word HSd.out hw' s2 hs2b
                have HLD : Hid ((∀ w', But gv W w' → w'.cell? ⟨gm, s1, none⟩ = some (.int .u64 (x1.toNat : Int))) ∧ ∀ w', But gv W w' → w'.cell? ⟨gm, s2, none⟩ = some (.int .u64 (x2.toNat : Int))) := ⟨hld1, hld2⟩
                have HIX : Hid ((rowS i)[q1]? = some (UInt8.ofNat r1) ∧ (rowS i)[q2]? = some (UInt8.ofNat r2) ∧ ((UInt8.ofNat r1).toNat : Int) = (r1 : Int) ∧ ((UInt8.ofNat r2).toNat : Int) = (r2 : Int)) := ⟨hc1, hc2, hn1, hn2⟩
                have HB16 : Hid (p1 < 16 ∧ p2 < 16 ∧ p3 < 16) := ⟨by omega, by omega, by omega⟩
                clear hld1 hld2 hc1 hc2 hn1 hn2 hs1 hs2 hr1 hr2 hp1 hp2 hp3 hq1 hq2 hx1 hx2
                iterate 12 (refine sched_take rfl (by rfl) (v := ?_) ?_ ?_; rotate_left; (intro w' hw'; clear hw'; go_simp; with_reducible rfl); go_simp)
                refine sched_take rfl (by rfl) (v := .int .u8 (r1 : Int)) (fun w' hw' => exec_index' 9 _ _ rfl (rowS i) q1 _ _ rfl rfl Tryz.underlying9 HIX.out.1 HIX.out.2.2.1) ?_
                go_simp
                iterate 8 (refine sched_take rfl (by rfl) (v := ?_) ?_ ?_; rotate_left; (intro w' hw'; have z1 := HLD.out.1 w' hw'; clear hw'; go_simp; with_reducible rfl); go_simp)
                refine sched_take rfl (by rfl) (v := .int .u8 (r2 : Int)) (fun w' hw' => exec_index' 9 _ _ rfl (rowS i) q2 _ _ rfl rfl Tryz.underlying9 HIX.out.2.1 HIX.out.2.2.2) ?_
                go_simp
                iterate 3 (refine sched_take rfl (by rfl) (v := ?_) ?_ ?_; rotate_left; (intro w' hw'; have z1 := HLD.out.2 w' hw'; clear hw'; go_simp; with_reducible rfl); go_simp)
                refine sched_call (f := 54) (args := #[.slice (some ⟨gv, 0, none⟩) 16 cv, .int .i64 k, .int .i64 p1, .int .i64 p2, .int .i64 p3, .int .u64 (x1.toNat : Int), .int .u64 (x2.toNat : Int)]) rfl (by rfl) (by go_simp) ?_
                refine (refMix_any gv 0 cv 16 _ k p1 p2 p3 x1 x2 _ HSd.out.vs (by omega) HB16.out.1 HB16.out.2.1 HB16.out.2.2).mono ?_
                rintro e w9 ⟨⟨v9, rfl⟩, hs9, hg9⟩
                refine ⟨_, rfl, hg9, ?_⟩
                have HS9 : Hid (BS w hx hc hl gm cm ml gv cv (bcols i ml (k + 1) (bturned ml i vz)) w9) := by rw [HE.out]; exact HSd.out.next hs9 hg9
                have HR9 : Hid (w9.heap[gr]? = some (.cells rowsV 9 (0, 0))) := by
                  show _ = _
                  rw [hg9.block gr (Array.getElem?_eq_some_iff.1 HRd.out).1 (fun e => hgrv (Option.some.inj e))]; exact HRd.out
                clear hs9 hg9 HSd HRd HLD HIX HE HB16
                go_simp
                refine sched_done hKK ?_
                go_wp2
                exact ⟨⟨k + 1, by omega, by go_num, HS9, HR9⟩, by simp [intOf]; omega⟩
              · have hki : ¬ (k : Int) < 4 := by omega
                have ek : k = 4 := by omega
                have HS4 : Hid (BS w hx hc hl gm cm ml gv cv (bcols i ml 4 (bturned ml i vz)) wr) := by have := hS.out; rw [ek] at this; exact this
                clear hS ek
                go_wp2
                obtain ⟨vc, hvc⟩ : ∃ x, bcols i ml 4 (bturned ml i vz) = x := ⟨_, rfl⟩
                rw [hvc] at HS4
                have HVC : Hid (bcols i ml 4 (bturned ml i vz) = vc) := hvc
                clear hvc
                go_loopw [18] (fun kv wr => ∃ k : Nat, k ≤ 4 ∧ kv = .int .i64 k ∧ Hid (BS w hx hc hl gm cm ml gv cv (bslants i ml k vc) wr) ∧ Hid (wr.heap[gr]? = some (.cells rowsV 9 (0, 0)))) (fun kv _ => 4 - (intOf kv).toNat)
                case atStart => exact ⟨0, by omega, rfl, HS4, hR⟩
                case round =>
                  clear HS4 hR
                  obtain ⟨k, hk, rfl, hS, hR⟩ := hrel
                  by_cases hk4 : k < 4
                  · obtain ⟨p1, hp1⟩ : ∃ p, 4 + (k + 1) % 4 = p := ⟨_, rfl⟩
                    obtain ⟨p2, hp2⟩ : ∃ p, 8 + (k + 2) % 4 = p := ⟨_, rfl⟩
                    obtain ⟨p3, hp3⟩ : ∃ p, 12 + (k + 3) % 4 = p := ⟨_, rfl⟩
                    obtain ⟨q0, hq0⟩ : ∃ q, 2 * k = q := ⟨_, rfl⟩
                    obtain ⟨q1, hq1⟩ : ∃ q, 8 + q0 = q := ⟨_, rfl⟩
                    obtain ⟨q2, hq2⟩ : ∃ q, 9 + q0 = q := ⟨_, rfl⟩
                    have e1 : IntKind.i64.wrap ((4 : Int) + (IntKind.i64.wrap ((k : Int) + 1)).tmod 4) = (p1 : Int) := by rw [← hp1]; exact slantB_val k 1 4 hk4 (by omega) (by omega)
                    have e2 : IntKind.i64.wrap ((8 : Int) + (IntKind.i64.wrap ((k : Int) + 2)).tmod 4) = (p2 : Int) := by rw [← hp2]; exact slantB_val k 2 8 hk4 (by omega) (by omega)
                    have e3 : IntKind.i64.wrap ((12 : Int) + (IntKind.i64.wrap ((k : Int) + 3)).tmod 4) = (p3 : Int) := by rw [← hp3]; exact slantB_val k 3 12 hk4 (by omega) (by omega)
                    have e4 : IntKind.i64.wrap ((2 : Int) * (k : Int)) = (q0 : Int) := by rw [IntKind.wrap_i64]; omega
                    have e5 : IntKind.i64.wrap ((8 : Int) + (q0 : Int)) = (q1 : Int) := by rw [IntKind.wrap_i64]; omega
                    have e6 : IntKind.i64.wrap ((9 : Int) + (q0 : Int)) = (q2 : Int) := by rw [IntKind.wrap_i64]; omega
                    obtain ⟨r1, s1, hs1, hs1b, hr1, hc1, hn1, hw1⟩ := letter i q1 hi10 (by omega)
                    obtain ⟨r2, s2, hs2, hs2b, hr2, hc2, hn2, hw2⟩ := letter i q2 hi10 (by omega)
                    have hki : (k : Int) < 4 := by omega
                    have hs1i : (s1 : Int) < 16 := by omega
                    have hs2i : (s2 : Int) < 16 := by omega
                    have hdr : Below wr.heap.size wr wr.drew := (Below.refl _ _).drew
                    have HSd : Hid (BS w hx hc hl gm cm ml gv cv (bslants i ml k vc) wr.drew) := hS.out.later hdr
                    have HRd : Hid (wr.drew.heap[gr]? = some (.cells rowsV 9 (0, 0))) := hR.out
                    obtain ⟨x1, hx1⟩ : ∃ x, at32 ml s1 = x := ⟨_, rfl⟩
                    obtain ⟨x2, hx2⟩ : ∃ x, at32 ml s2 = x := ⟨_, rfl⟩
                    have HE : Hid (bslants i ml (k + 1) vc = bmix (bslants i ml k vc) k p1 p2 p3 x1 x2) := by
                      show _ = _
                      rw [bslants, hp1, hp2, hp3, hq0, hq2, hq1, hs1, hs2, hx1, hx2]
                    clear hS hR hdr
                    go_wp2
                    refine wp_region_sched' (G := But gv) (by kernel_rfl) (But.refl gv) (But.trans gv) (by kernel_rfl) [(0, true), (1, true), (2, true), (3, true), (4, true), (5, true), (6, true), (7, true), (8, true), (9, true), (10, true), (11, true), (12, true), (13, true), (14, true), (15, true), (16, true), (17, true), (18, true), (19, true), (20, true), (21, true), (22, true), (23, true), (24, true), (25, true), (26, true), (27, true), (28, true), (29, true), (30, true), (31, true), (32, false)] rfl (by kernel_rfl) ?_
                    intro KK hKK
                    generalize wr.drew = W at HSd HRd ⊢
                    have hld1 : ∀ w', But gv W w' → w'.cell? ⟨gm, s1, none⟩ = some (.int .u64 (x1.toNat : Int)) := fun w' hw' => by rw [← hx1]; exact bs_word HSd.out hw' s1 hs1b
                    have hld2 : ∀ w', But gv W w' → w'.cell? ⟨gm, s2, none⟩ = some (.int .u64 (x2.toNat : Int)) := fun w' hw' => by rw [← hx2]; exact bs_word HSd.out hw' s2 hs2b
                    have HLD : Hid ((∀ w', But gv W w' → w'.cell? ⟨gm, s1, none⟩ = some (.int .u64 (x1.toNat : Int))) ∧ ∀ w', But gv W w' → w'.cell? ⟨gm, s2, none⟩ = some (.int .u64 (x2.toNat : Int))) := ⟨hld1, hld2⟩
                    have HIX : Hid ((rowS i)[q1]? = some (UInt8.ofNat r1) ∧ (rowS i)[q2]? = some (UInt8.ofNat r2) ∧ ((UInt8.ofNat r1).toNat : Int) = (r1 : Int) ∧ ((UInt8.ofNat r2).toNat : Int) = (r2 : Int)) := ⟨hc1, hc2, hn1, hn2⟩
                    have HB16 : Hid (p1 < 16 ∧ p2 < 16 ∧ p3 < 16) := ⟨by omega, by omega, by omega⟩
                    clear hld1 hld2 hc1 hc2 hn1 hn2 hs1 hs2 hr1 hr2 hp1 hp2 hp3 hq0 hq1 hq2 hx1 hx2
                    iterate 19 (refine sched_take rfl (by rfl) (v := ?_) ?_ ?_; rotate_left; (intro w' hw'; clear hw'; go_simp; with_reducible rfl); go_simp)
                    refine sched_take rfl (by rfl) (v := .int .u8 (r1 : Int)) (fun w' hw' => exec_index' 9 _ _ rfl (rowS i) q1 _ _ rfl rfl Tryz.underlying9 HIX.out.1 HIX.out.2.2.1) ?_
                    go_simp
                    iterate 8 (refine sched_take rfl (by rfl) (v := ?_) ?_ ?_; rotate_left; (intro w' hw'; have z1 := HLD.out.1 w' hw'; clear hw'; go_simp; with_reducible rfl); go_simp)
                    refine sched_take rfl (by rfl) (v := .int .u8 (r2 : Int)) (fun w' hw' => exec_index' 9 _ _ rfl (rowS i) q2 _ _ rfl rfl Tryz.underlying9 HIX.out.2.1 HIX.out.2.2.2) ?_
                    go_simp
                    iterate 3 (refine sched_take rfl (by rfl) (v := ?_) ?_ ?_; rotate_left; (intro w' hw'; have z1 := HLD.out.2 w' hw'; clear hw'; go_simp; with_reducible rfl); go_simp)
                    refine sched_call (f := 54) (args := #[.slice (some ⟨gv, 0, none⟩) 16 cv, .int .i64 k, .int .i64 p1, .int .i64 p2, .int .i64 p3, .int .u64 (x1.toNat : Int), .int .u64 (x2.toNat : Int)]) rfl (by rfl) (by go_simp) ?_
                    refine (refMix_any gv 0 cv 16 _ k p1 p2 p3 x1 x2 _ HSd.out.vs (by omega) HB16.out.1 HB16.out.2.1 HB16.out.2.2).mono ?_
                    rintro e w9 ⟨⟨v9, rfl⟩, hs9, hg9⟩
                    refine ⟨_, rfl, hg9, ?_⟩
                    have HS9 : Hid (BS w hx hc hl gm cm ml gv cv (bslants i ml (k + 1) vc) w9) := by rw [HE.out]; exact HSd.out.next hs9 hg9
                    have HR9 : Hid (w9.heap[gr]? = some (.cells rowsV 9 (0, 0))) := by
                      show _ = _
                      rw [hg9.block gr (Array.getElem?_eq_some_iff.1 HRd.out).1 (fun e => hgrv (Option.some.inj e))]; exact HRd.out
                    clear hs9 hg9 HSd HRd HLD HIX HE HB16
                    go_simp
                    refine sched_done hKK ?_
                    go_wp2
                    exact ⟨⟨k + 1, by omega, by go_num, HS9, HR9⟩, by simp [intOf]; omega⟩
                  · have hki : ¬ (k : Int) < 4 := by omega
                    have ek : k = 4 := by omega
                    have HS9 : Hid (BS w hx hc hl gm cm ml gv cv (bturned ml (i + 1) vz) wr) := by have := hS.out; rw [ek, ← HVC.out] at this; exact this
                    clear hS ek HVC
                    go_wp2
                    exact ⟨⟨i + 1, by omega, by go_num, HS9, hR⟩, by simp [intOf]; omega⟩
          · have hii : ¬ (i : Int) < 10 := by omega
            have ei : i = 10 := by omega
            have HT : Hid (BS w hx hc hl gm cm ml gv cv (bturned ml 10 vz) wr) := by have := hS.out; rw [ei] at this; exact this
            clear hS hR ei
            go_wp2
            obtain ⟨vt, hvt⟩ : ∃ x, bturned ml 10 vz = x := ⟨_, rfl⟩
            rw [hvt] at HT
            have HVT : Hid (bturned ml 10 vz = vt) := hvt
            obtain ⟨hxb, hxo, rfl⟩ : ∃ b o, hx = ⟨b, o, none⟩ := by
              rcases HT.out.hs.2 with h0 | ⟨g, o, _, e0, _⟩
              · omega
              · exact ⟨g, o, Option.some.inj e0⟩
            obtain ⟨B0, hB0⟩ : ∃ B, wr.heap.size = B := ⟨_, rfl⟩
            have hb1 : hxb < B0 := by rw [← hB0]; exact HT.out.hs.lt hxb rfl
            have hb2 : gm < B0 := by rw [← hB0]; exact HT.out.ms.lt gm rfl
            have hb3 : gv < B0 := by rw [← hB0]; exact HT.out.vs.lt gv rfl
            have hb4 : w.heap.size ≤ B0 := by rw [← hB0]; exact HT.out.bel.size
            have HO0 : Hid ((wr.alloc (.cells #[] 29)).ownsRow B0 29 1 (.slice (some ⟨wr.heap.size, 0, none⟩) 0 0) 0 ((bouts hl vt 0).map wv)) := World.ownsRow_made wr #[] 0 (Nat.le_of_eq hB0.symm) (Nat.zero_le _) rfl
            have HT0 : Hid (BS w ⟨hxb, hxo, none⟩ hc hl gm cm ml gv cv vt (wr.alloc (.cells #[] 29))) := HT.out.later ((Below.refl _ _).alloc (Nat.le_refl _) _)
            have hsz0 : B0 ≤ (wr.alloc (.cells #[] 29)).heap.size := by simp; omega
            clear hvt HT hB0
            go_loopw [19, 20] (fun v iv wr => ∃ j : Nat, j ≤ 8 ∧ iv = .int .i64 j ∧ Hid (wr.ownsRow B0 29 1 v j ((bouts hl vt j).map wv)) ∧ Hid (BS w ⟨hxb, hxo, none⟩ hc hl gm cm ml gv cv vt wr) ∧ B0 ≤ wr.heap.size) (fun _ iv _ => 8 - (intOf iv).toNat)
            case atStart => exact ⟨0, by omega, rfl, HO0, HT0, hsz0⟩
            case round =>
              clear HO0 HT0
              obtain ⟨j, hj, rfl, hO, hS, hszB⟩ := hrel
              by_cases hj8 : j < 8
              · have hji : (j : Int) < 8 := by omega
                have hj16 : (j : Int) < 16 := by omega
                obtain ⟨pj, hpj⟩ : ∃ x, 8 + j = x := ⟨_, rfl⟩
                have hpj16 : (pj : Int) < 16 := by omega
                have ej1 : IntKind.i64.wrap ((8 : Int) + (j : Int)) = (pj : Int) := by rw [IntKind.wrap_i64]; omega
                obtain ⟨a0, ha0⟩ : ∃ x, at32 hl j = x := ⟨_, rfl⟩
                obtain ⟨a1, ha1⟩ : ∃ x, at32 vt j = x := ⟨_, rfl⟩
                obtain ⟨a2, ha2⟩ : ∃ x, at32 vt pj = x := ⟨_, rfl⟩
                obtain ⟨y1, hy1⟩ : ∃ x, a0 ^^^ a1 = x := ⟨_, rfl⟩
                obtain ⟨y2, hy2⟩ : ∃ x, y1 ^^^ a2 = x := ⟨_, rfl⟩
                have hX1 : bits .xor .u64 (a0.toNat : Int) (a1.toNat : Int) = (y1.toNat : Int) := by rw [xor_val64, hy1]
                have hX2 : bits .xor .u64 (y1.toNat : Int) (a2.toNat : Int) = (y2.toNat : Int) := by rw [xor_val64, hy2]
                have HOd : Hid (wr.drew.ownsRow B0 29 1 u19 j ((bouts hl vt j).map wv)) := hO.out
                have HSd : Hid (BS w ⟨hxb, hxo, none⟩ hc hl gm cm ml gv cv vt wr.drew) := hS.out.later (Below.refl _ _).drew
                have hszd : B0 ≤ wr.drew.heap.size := hszB
                have HE : Hid (bouts hl vt (j + 1) = bouts hl vt j ++ [y2]) := by
                  show _ = _
                  rw [bouts_succ, hpj, ha0, ha1, ha2, hy1, hy2]
                clear hO hS
                go_wp2
                refine wp_region_sched' (G := Rest u19) (by kernel_rfl) (Rest.refl _) (Rest.trans _) (by kernel_rfl) [(0, true), (1, true), (2, true), (3, true), (4, true), (5, true), (6, true), (7, true), (8, true), (9, true), (10, true), (11, true), (12, true), (13, true), (14, true), (15, true), (16, false), (17, false), (18, true)] rfl (by kernel_rfl) ?_
                intro KK hKK
                generalize wr.drew = W at HSd HOd hszd ⊢
                have HLD : Hid (∀ w', Rest u19 W w' → w'.cell? ⟨hxb, hxo + j, none⟩ = some (.int .u64 (a0.toNat : Int)) ∧ w'.cell? ⟨gv, j, none⟩ = some (.int .u64 (a1.toNat : Int)) ∧ w'.cell? ⟨gv, pj, none⟩ = some (.int .u64 (a2.toNat : Int))) := fun w' hw' => by
                  have hB := HSd.out.rest HOd.out hw' hb1 hb2 hb3 hb4
                  have k1 := (hB.hs.word j hj8).1
                  have k2 := (hB.vs.word j (by omega)).1
                  have k3 := (hB.vs.word pj (by omega)).1
                  rw [Nat.zero_add] at k2 k3
                  rw [ha0] at k1
                  rw [ha1] at k2
                  rw [ha2] at k3
                  exact ⟨k1, k2, k3⟩
                obtain ⟨v3, w3, hap3, own3, hg3⟩ := append_wordA W B0 u19 j _ HOd.out y2 hszd (by omega)
                rw [← HE.out] at own3
                have hR1 : Rest u19 W (W.alloc (.cells #[.int .u64 (y2.toNat : Int)] 29)) := Rest.below _ ((Below.refl _ _).alloc (Nat.le_refl _) _)
                have HR1 : Hid (Rest u19 W (W.alloc (.cells #[.int .u64 (y2.toNat : Int)] 29))) := hR1
                have HR2 : Hid (Rest u19 (W.alloc (.cells #[.int .u64 (y2.toNat : Int)] 29)) w3) := hg3
                have HS3 : Hid (BS w ⟨hxb, hxo, none⟩ hc hl gm cm ml gv cv vt w3) := HSd.out.rest HOd.out (Rest.trans _ _ _ _ hR1 hg3) hb1 hb2 hb3 hb4
                have HO3 : Hid (w3.ownsRow B0 29 1 v3 (j + 1) ((bouts hl vt (j + 1)).map wv)) := own3
                have HA3 : Hid ((Builtin.append_ #[69, 69] 69 #[u19, .slice (some ⟨W.heap.size, 0, none⟩) 1 1]).run Tryz.prog (W.alloc (.cells #[.int .u64 (y2.toNat : Int)] 29)) = .ok v3 w3) := hap3
                have hsz3 : B0 ≤ w3.heap.size := Nat.le_trans hszd (Nat.le_trans hR1.size hg3.size)
                clear hap3 own3 hg3 hR1 hszd HE ha0 ha1 ha2 hy1 hy2 hpj
                iterate 16 (refine sched_take rfl (by rfl) (v := ?_) ?_ ?_; rotate_left; (intro w' hw'; obtain ⟨z1, z2, z3⟩ := HLD.out w' hw'; clear hw'; go_simp; with_reducible rfl); go_simp)
                refine sched_val rfl (by rfl) (v := .slice (some ⟨W.heap.size, 0, none⟩) 1 1) (w' := W.alloc (.cells #[.int .u64 (y2.toNat : Int)] 29)) (by go_simp) HR1.out ?_
                go_simp
                refine sched_append (s := .tmp 147) (x := .tmp 163) (t := 69) rfl (by rfl) rfl rfl rfl HA3.out HR2.out ?_
                clear HA3 HR2 HR1 HLD HOd HSd
                go_simp
                iterate 1 (refine sched_take rfl (by rfl) (v := ?_) ?_ ?_; rotate_left; (intro w' hw'; clear hw'; go_simp; with_reducible rfl); go_simp)
                refine sched_done hKK ?_
                go_wp2
                exact ⟨⟨j + 1, by omega, by go_num, HO3, HS3, hsz3⟩, by simp [intOf]; omega⟩
              · have hji : ¬ (j : Int) < 8 := by omega
                have ej : j = 8 := by omega
                have HOz : Hid (wr.ownsRow B0 29 1 u19 8 ((bpart hl b t true).map wv)) := by
                  have := hO.out
                  rw [ej, ← HVT.out, ← HF.out, ← HML.out] at this
                  exact this
                clear hO ej
                go_wp2
                go_ret
                exact ⟨_, rfl, hS.out.bel, own_lower HOz.out hb4⟩
end Go.Proofs.YtdancpcnjklifaaGreatDoor

/- The walk over the document's Sum (blake). -/
namespace Go.Proofs.YtdancpcnjklifaaGreatDoor
set_option linter.unusedVariables false
set_option maxRecDepth 100000
open Go.RowKit

theorem Seg.later {w w' : World} {e : TypeId} {a : Option Addr} {n cap : Nat} {vs : List Value} (h : Seg w e a n cap vs) (hb : Below w.heap.size w w') : Seg w' e a n cap vs :=
  h.kept fun g hg => hb.block g (h.lt g hg)
theorem Byt.all {w w' : World} {a : Option Addr} {n : Nat} {l : List UInt8} (h : Byt w a n l) (hb : Below w.heap.size w w') : Byt w' a n l := h.later hb
/-- What is left from a place on. -/
theorem Byt.from {w : World} {a : Option Addr} {len : Nat} {l : List UInt8} (h : Byt w a len l) (p cap : Nat) (hp : p ≤ len) (hlc : len ≤ cap) (hlt : p < len ∨ p = 0) :
    ∃ a', (∀ b off, a = some ⟨b, off, none⟩ → (if cap = p then some ⟨b, off, none⟩ else some ⟨b, off + p, none⟩) = a') ∧ (a = none → a' = none) ∧ Byt w a' (len - p) (l.drop p) := by
  have hl := h.1
  rcases h.2 with h0 | ⟨b, off, rfl, hc⟩
  · subst h0
    have hp0 : p = 0 := by omega
    subst hp0
    have hl0 : l = [] := List.eq_nil_of_length_eq_zero hl
    subst hl0
    cases a with
    | none => exact ⟨none, fun b off e => (by cases e), fun _ => rfl, rfl, .inl rfl⟩
    | some x => 
      obtain ⟨b, off, s⟩ := x
      by_cases hs : s = none
      · subst hs
        exact ⟨_, fun b' off' e => (by cases e; rfl), fun e => (by cases e), rfl, .inl rfl⟩
      · exact ⟨none, fun b' off' e => (by cases e; exact absurd rfl hs), fun e => (by cases e), rfl, .inl rfl⟩
  · by_cases hcp : cap = p
    · have hlp : len = p := by omega
      have hp0 : p = 0 := by omega
      exact ⟨some ⟨b, off, none⟩, fun b' off' e => (by cases e; rw [if_pos hcp]), fun e => (by cases e), by simp; omega, .inl (by omega)⟩
    · refine ⟨some ⟨b, off + p, none⟩, fun b' off' e => (by cases e; rw [if_neg hcp]), fun e => (by cases e), by simp; omega, .inr ⟨b, off + p, rfl, fun i hi => ?_⟩⟩
      rw [Nat.add_assoc, hc (p + i) (by omega)]
      simp [at8]
theorem bahead_eq (k len : Nat) (h1 : k = 0 ∨ 64 * k < len) (h2 : ¬ 64 * k + 64 < len) : k = bahead len := by unfold bahead; omega
theorem wordsB_take (H : List (BitVec 32)) (k : Nat) (hk : k < H.length) : wordsB (H.take (k + 1)) = wordsB (H.take k) ++ putB 4 (at32 H k).toNat false := by
  rw [List.take_succ_eq_append_getElem hk, wordsB_append, at32_get H k hk]
  simp [wordsB, putB]
/-- While the parts are taken: H. -/
structure BH (w : World) (l : List UInt8) (hx : Addr) (hc k : Nat) (W : World) : Prop where
  h : Seg W 29 (some hx) 8 hc ((bparts l k).map wv)
  bel : Below w.heap.size w W
def lenOf (v : Value) : Nat := match v with | .slice _ n _ => n | _ => 0
theorem grownBy_alloc (w : World) (o : Obj) : Below w.heap.size w (w.alloc o) := (Below.refl _ _).alloc (Nat.le_refl _) _
theorem grown_alloc {w w' : World} {o : Obj} {b : Option Nat} (hg : (w.alloc o).grownBy w' b) (hb : ∀ k, b = some k → w.heap.size ≤ k) : Below w.heap.size w w' := (grownBy_alloc w o).grown hg (by simp) hb
/-- The last part, while it is filled; H. -/
structure BL (w : World) (B : Nat) (hx : Addr) (hc : Nat) (H : List (BitVec 32)) (v : Value) (n : Nat) (R : List UInt8) (W : World) : Prop where
  own : W.ownsRow B 5 1 v n (R.map bv)
  h : Seg W 29 (some hx) 8 hc (H.map wv)
  hlt : hx.block < B
  bs : B ≤ W.heap.size
  wB : w.heap.size ≤ B
  bel : Below w.heap.size w W
theorem BL.new {w wr W : World} {hx : Addr} {hc : Nat} {H : List (BitVec 32)} {v : Value} {n : Nat} {R : List UInt8} (hh : Seg wr 29 (some hx) 8 hc (H.map wv)) (hb : Below w.heap.size w wr) (ho : W.ownsRow wr.heap.size 5 1 v n (R.map bv)) (hw : Below wr.heap.size wr W) : BL w wr.heap.size hx hc H v n R W :=
  ⟨ho, hh.later hw, hh.lt _ rfl, hw.size, hb.size, hb.trans (hw.mono hb.size)⟩
theorem BL.app {w W w4 : World} {B : Nat} {hx : Addr} {hc : Nat} {H : List (BitVec 32)} {v v4 : Value} {n m : Nat} {R R' : List UInt8} {o : Obj} (t : BL w B hx hc H v n R W) (ho : w4.ownsRow B 5 1 v4 m (R'.map bv)) (hg : (W.alloc o).grownBy w4 v.ownBlock) : BL w B hx hc H v4 m R' w4 := by
  have hbs := t.bs
  have hwB := t.wB
  have hlt := t.hlt
  have hsz := hg.size
  have hown := t.own.lt
  refine ⟨ho, ?_, t.hlt, by simp at hsz; omega, t.wB, ?_⟩
  · refine t.h.kept fun g hgb => ?_
    have hgx : g = hx.block := by simpa [blockOf] using hgb.symm
    rw [hg.block g (by simp; omega) (fun e => by have := (hown g e.symm).1; omega)]
    exact Below.heap_alloc W o g (by omega)
  · exact (t.bel.alloc (by omega) o).grown hg (by simp; omega) (fun k hk => by have := (hown k hk).1; omega)
/-- The bytes of H's words, as they are laid. -/
structure BO5 (w : World) (g c : Nat) (H : List (BitVec 32)) (a' : Option Addr) (c' j : Nat) (W : World) : Prop where
  h : Seg W 29 (some ⟨g, 0, none⟩) 8 c (H.map wv)
  out : Byt W a' (4 * j) (wordsB (H.take j))
  seg : 0 < j → Seg W 5 a' (4 * j) c' ((wordsB (H.take j)).map bv)
  nil : a' = none → c' = 0
  isnew : ∀ k, blockOf a' = some k → w.heap.size ≤ k
  bel : Below w.heap.size w W
theorem BO5.new {w W : World} {g c : Nat} {H : List (BitVec 32)} (hs : Seg W 29 (some ⟨g, 0, none⟩) 8 c (H.map wv)) (hb : Below w.heap.size w W) : BO5 w g c H (some ⟨W.heap.size, 0, none⟩) 0 0 (W.alloc (.cells #[] 5)) :=
  ⟨hs.later (grownBy_alloc W _), ⟨rfl, .inl rfl⟩, fun h => (by omega), fun e => (by cases e), fun k hk => (by have := hb.size; simp [blockOf] at hk; omega), hb.alloc hb.size _⟩
theorem BO5.put {w W W' : World} {g c : Nat} {H : List (BitVec 32)} {a' a8 : Option Addr} {c' c8 j : Nat} (t : BO5 w g c H a' c' j W) (hb : Below W.heap.size W W') (hs : Seg W' 5 a8 (4 * (j + 1)) c8 ((wordsB (H.take (j + 1))).map bv)) (hk : ∀ k, blockOf a8 = some k → W.heap.size ≤ k) : BO5 w g c H a8 c8 (j + 1) W' := by
  refine ⟨t.h.later hb, Byt.ofSeg hs, fun _ => hs, ?_, fun k h => Nat.le_trans t.bel.size (hk k h), t.bel.trans (hb.mono t.bel.size)⟩
  intro e
  rcases hs.2 with ⟨_, h0, _⟩ | ⟨_, _, _, e2, _⟩
  · omega
  · rw [e] at e2; cases e2

set_option maxHeartbeats 1000000 in
set_option maxRecDepth 100000 in
theorem refSumB_any (a : Option Addr) (len cap : Nat) (l : List UInt8) (w : World) (hB : Byt w a len l) (hnil : a = none → cap = 0) (hlm : len ≤ 10000) (hlc : len ≤ cap) :
    Calls Tryz.prog 20 #[.slice a len cap] w fun e w' => ∃ a' cap', e = .returned (.slice a' 32 cap') ∧ Below w.heap.size w w' ∧ Seg w' 5 a' 32 cap' ((blakeB l).map bv) ∧ ∀ j, blockOf a' = some j → w.heap.size ≤ j := by
  have hl := hB.1
  have HB : Hid (Byt w a len l) := hB
  clear hB
  go_enter Tryz.func20, Tryz.ntmps20
  go_wp2_with fail
  refine (refIv_any w).mono ?_
  rintro e w1 ⟨rfl, hb1, ho1⟩
  obtain ⟨_, _, e1, _, hs1⟩ := Seg.ofOwn ho1 (by omega)
  cases e1
  obtain ⟨cc, fr⟩ := hs1.word 0 (by omega)
  have hs2 := hs1.set 0 (by omega) (wv 0x6b08e647#32)
  rw [← List.map_set] at hs2
  have HH0 : Hid (BH w l ⟨w.heap.size, 0, none⟩ 8 0 (w1.setCell ⟨w.heap.size, 0, none⟩ (.int .u64 1795745351))) := ⟨hs2, hb1.setCell (Nat.le_refl _) _⟩
  clear hs1 hs2 ho1 hb1
  go_wp2
  clear cc fr
  go_loopw [3, 4] (fun v i wr => ∃ (k : Nat) (hx : Addr) (hc : Nat), (k = 0 ∨ 64 * k < len) ∧ i = .int .i64 ((64 * k : Nat) : Int) ∧ v = .slice (some hx) 8 hc ∧ Hid (BH w l hx hc k wr)) (fun _ i _ => len + 64 - (intOf i).toNat)
  case atStart => exact ⟨0, _, _, .inl rfl, rfl, rfl, HH0⟩
  case round =>
    clear HH0
    obtain ⟨k, hx, hc, hk, rfl, rfl, hH⟩ := hrel
    obtain ⟨p, hp⟩ : ∃ p, 64 * k = p := ⟨_, rfl⟩
    rw [hp] at hk ⊢
    by_cases hlt : p + 64 < len
    · have i1 : (p : Int) + 64 < (len : Int) := by omega
      obtain ⟨ba, offa, rfl⟩ : ∃ ba offa, a = some ⟨ba, offa, none⟩ := by
        rcases HB.out.2 with h0 | ⟨b', off', e, _⟩
        · omega
        · exact ⟨b', off', e⟩
      have hba := HB.out.lt (by omega)
      have hcn : ¬ cap = p := by omega
      have hpc : (p : Int) ≤ (cap : Int) := by omega
      have hqc : (p : Int) + 64 ≤ (cap : Int) := by omega
      have hBw := (HB.out.below hba hH.out.bel).sub (n := p) (q := p + 64) (by omega) (by omega)
      have e64 : p + 64 - p = 64 := by omega
      rw [e64] at hBw
      have HBw : Hid (Byt wr (some ⟨ba, offa + p, none⟩) 64 (cutB l (64 * k) 64)) := by rw [hp]; exact hBw
      clear hBw
      go_wp2_with fail
      refine (refPart_any hx hc (bparts l k) ba (offa + p) (cap - p) _ (p + 64) false wr hH.out.h HBw.out (by omega) (by omega)).mono ?_
      rintro e w2 ⟨v, rfl, hb2, ho2⟩
      obtain ⟨g2, c2, rfl, hg2, hs2⟩ := Seg.ofOwn ho2 (by omega)
      have HH2 : Hid (BH w l ⟨g2, 0, none⟩ c2 (k + 1) w2) := by
        refine ⟨?_, hH.out.bel.trans (hb2.mono hH.out.bel.size)⟩
        rw [bparts, show 64 * (k + 1) = p + 64 by omega]
        exact hs2
      clear hb2 ho2 hs2 hH HBw
      go_wp2
      exact ⟨⟨k + 1, ⟨g2, 0, none⟩, c2, .inr (by omega), by go_num, rfl, HH2⟩, by simp [intOf]; omega⟩
    · have i1 : ¬ (p : Int) + 64 < (len : Int) := by omega
      have hkb : k = bahead len := bahead_eq k len (by omega) (by omega)
      have hxb := hH.out.h.lt hx.block rfl
      have hsz := hH.out.bel.size
      obtain ⟨B, hBe⟩ : ∃ B, wr.heap.size = B := ⟨_, rfl⟩
      by_cases h0 : len = 0
      · subst h0
        have hp0 : p = 0 := by omega
        subst hp0
        have HL0 : Hid (BL w B hx hc (bparts l k) (.slice (some ⟨wr.heap.size, 0, none⟩) 0 0) 0 (l.drop 0) (wr.alloc (.cells #[] 5))) := by
          have hl0 : l.drop 0 = [] := by rw [List.eq_nil_of_length_eq_zero hl]; rfl
          rw [hl0, ← hBe]
          exact BL.new (hH.out.h) hH.out.bel (World.ownsRow_made wr #[] 0 (Nat.le_refl _) (Nat.zero_le _) rfl) (grownBy_alloc wr _)
        clear hBe
        cases a with
        | none =>
          have hc0 := hnil rfl
          subst hc0
          clear hH
          go_wp2
          go_loopw [5] (fun v wr => ∃ n : Nat, 0 - 0 ≤ n ∧ n ≤ 64 ∧ Hid (BL w B hx hc (bparts l k) v n (l.drop 0 ++ List.replicate (n - (0 - 0)) 0) wr)) (fun v _ => 64 - lenOf v)
          case atStart => exact ⟨0 - 0, Nat.le_refl _, by omega, by rw [Nat.sub_self, List.replicate_zero, List.append_nil]; exact HL0⟩
          case round =>
            clear HL0
            obtain ⟨n, hn1, hn2, hL⟩ := hrel
            obtain ⟨a5, c5, rfl, hB5, hnc5, hcm5, hnil5⟩ := own_parts hL.out.own
            by_cases hn : n < 64
            · have hni : (n : Int) < 64 := by omega
              have hone : Byt (wr.alloc (.cells #[.int .u8 0] 5)) (some ⟨wr.heap.size, 0, none⟩) 1 [0] := byt_lit _ [0] wr.heap.size _ _ _ (heap_alloc_new wr _) rfl
              obtain ⟨v4, w4, hap4, own4, hg4⟩ := append_bytes (wr.alloc (.cells #[.int .u8 0] 5)) B _ n _ (hL.out.own.alloc _) ⟨wr.heap.size, 0, none⟩ 1 1 [0] hone (by have := hL.out.bs; simp; omega) (by omega)
              have HL4 : Hid (BL w B hx hc (bparts l k) v4 (n + 1) (l.drop 0 ++ List.replicate (n + 1 - (0 - 0)) 0) w4) := by
                have e : l.drop 0 ++ List.replicate (n + 1 - (0 - 0)) 0 = l.drop 0 ++ List.replicate (n - (0 - 0)) 0 ++ [0] := by
                  rw [show n + 1 - (0 - 0) = (n - (0 - 0)) + 1 by omega, List.replicate_succ', List.append_assoc]
                rw [e]
                exact hL.out.app own4 hg4
              have HA4 : Hid ((Builtin.append_ #[28, 28] 28 #[.slice a5 n c5, .slice (some ⟨wr.heap.size, 0, none⟩) 1 1]).run Tryz.prog (wr.alloc (.cells #[.int .u8 0] 5)) = .ok v4 w4) := hap4
              have hl4 : lenOf v4 = n + 1 := by
                obtain ⟨a', c', e', _⟩ := own_parts own4
                rw [e']; rfl
              clear hap4 own4 hg4 hone hL hB5
              go_wp2_with (at_builtin; refine wpList_append_run rfl (.tmp 35) (.tmp 36) 28 rfl _ _ _ _ rfl rfl HA4.out ?_)
              clear HA4
              exact ⟨⟨n + 1, by omega, by omega, HL4⟩, by rw [hl4]; show _ < 64 - n; omega⟩
            · have e64 : n = 64 := by omega
              have hni : ¬ (n : Int) < 64 := by omega
              have HLast : Hid (l.drop 0 ++ List.replicate (n - (0 - 0)) 0 = blast l) := by
                show _ = _
                rw [blast, hl, ← hkb, hp, e64]
              subst e64
              obtain ⟨ga5, rfl⟩ : ∃ g, a5 = some ⟨g, 0, none⟩ := by
                obtain ⟨g, c, e, _, _⟩ := Seg.ofOwn hL.out.own (by omega)
                cases e
                exact ⟨g, rfl⟩
              rw [HLast.out] at hB5
              have HB5 : Hid (Byt wr (some ⟨ga5, 0, none⟩) 64 (blast l)) := hB5
              have HW5 : Hid (Below w.heap.size w wr) := hL.out.bel
              have HS5 : Hid (Seg wr 29 (some hx) 8 hc ((bparts l k).map wv)) := hL.out.h
              clear hB5 hL HLast
              go_wp2_with fail
              refine (refPart_any hx hc (bparts l k) ga5 0 c5 (blast l) 0 true wr HS5.out HB5.out (by omega) (by omega)).mono ?_
              rintro e w6 ⟨v6, rfl, hb6, ho6⟩
              obtain ⟨g6, c6, rfl, hg6, hs6⟩ := Seg.ofOwn ho6 (by omega)
              obtain ⟨H, hH⟩ : ∃ H, bpart (bparts l k) (blast l) 0 true = H := ⟨_, rfl⟩
              have hHl : H.length = 8 := by rw [← hH, bpart_length]
              have HBL : Hid (blakeB l = wordsB H) := by
                show _ = _
                rw [blakeB, hl, ← hkb, hH]
              rw [hH] at hs6
              have hbel6 : Below w.heap.size w w6 := HW5.out.trans (hb6.mono HW5.out.size)
              have HO0 : Hid (BO5 w g6 c6 H (some ⟨w6.heap.size, 0, none⟩) 0 0 (w6.alloc (.cells #[] 5))) := BO5.new hs6 hbel6
              clear hb6 ho6 hs6 hH hbel6 HS5 HB5 HW5
              go_wp2
              go_loopw [6, 7] (fun v i wr => ∃ (j : Nat) (a' : Option Addr) (c' : Nat), j ≤ 8 ∧ i = .int .i64 j ∧ v = .slice a' (4 * j : Nat) c' ∧ Hid (BO5 w g6 c6 H a' c' j wr)) (fun _ i _ => 8 - (intOf i).toNat)
              case atStart => exact ⟨0, _, _, by omega, rfl, rfl, HO0⟩
              case round =>
                clear HO0
                obtain ⟨j, a', c', hj, rfl, rfl, hO⟩ := hrel
                by_cases hj8 : j < 8
                · have hji : (j : Int) < 8 := by omega
                  obtain ⟨cc, _⟩ := hO.out.h.word j (by omega)
                  obtain ⟨y, hy⟩ : ∃ y, at32 H j = y := ⟨_, rfl⟩
                  rw [hy, Nat.zero_add] at cc
                  obtain ⟨q, hq⟩ : ∃ q, 4 * j = q := ⟨_, rfl⟩
                  rw [hq]
                  have HSo : Hid (Byt wr a' q (wordsB (H.take j))) := by rw [← hq]; exact hO.out.out
                  have hyb := y.isLt
                  go_wp2_with fail
                  refine (refPut_seg a' q c' 4 y.toNat (by omega) false _ wr (by omega) HSo.out hO.out.nil 4 (by decide)).mono ?_
                  rintro e w8 ⟨a8, c8, rfl, hb8, hs8, hbk8⟩
                  have HO8 : Hid (BO5 w g6 c6 H a8 c8 (j + 1) w8) := by
                    have e := wordsB_take H j (by omega)
                    rw [hy] at e
                    exact hO.out.put hb8 (by rw [e, show 4 * (j + 1) = q + 4 by omega]; exact hs8) hbk8
                  clear hb8 hs8 hbk8 hO
                  go_wp2
                  exact ⟨⟨j + 1, a8, c8, by omega, by go_num, by rw [show 4 * (j + 1) = q + 4 by omega], HO8⟩, by simp [intOf]; omega⟩
                · have ej : j = 8 := by omega
                  subst ej
                  have hji : ¬ ((8 : Nat) : Int) < 8 := by omega
                  have HF : Hid (Seg wr 5 a' 32 c' ((blakeB l).map bv)) := by
                    rw [HBL.out]
                    have := hO.out.seg (by omega)
                    rw [List.take_of_length_le (by omega)] at this
                    exact this
                  have HFb : Hid (∀ j, blockOf a' = some j → w.heap.size ≤ j) := hO.out.isnew
                  have HW8 : Hid (Below w.heap.size w wr) := hO.out.bel
                  clear hO
                  go_wp2
                  go_ret
                  exact ⟨a', c', rfl, HW8.out, HF.out, HFb.out⟩
        | some x =>
          clear hH
          go_wp2
          go_loopw [5] (fun v wr => ∃ n : Nat, 0 - 0 ≤ n ∧ n ≤ 64 ∧ Hid (BL w B hx hc (bparts l k) v n (l.drop 0 ++ List.replicate (n - (0 - 0)) 0) wr)) (fun v _ => 64 - lenOf v)
          case atStart => exact ⟨0 - 0, Nat.le_refl _, by omega, by rw [Nat.sub_self, List.replicate_zero, List.append_nil]; exact HL0⟩
          case round =>
            clear HL0
            obtain ⟨n, hn1, hn2, hL⟩ := hrel
            obtain ⟨a5, c5, rfl, hB5, hnc5, hcm5, hnil5⟩ := own_parts hL.out.own
            by_cases hn : n < 64
            · have hni : (n : Int) < 64 := by omega
              have hone : Byt (wr.alloc (.cells #[.int .u8 0] 5)) (some ⟨wr.heap.size, 0, none⟩) 1 [0] := byt_lit _ [0] wr.heap.size _ _ _ (heap_alloc_new wr _) rfl
              obtain ⟨v4, w4, hap4, own4, hg4⟩ := append_bytes (wr.alloc (.cells #[.int .u8 0] 5)) B _ n _ (hL.out.own.alloc _) ⟨wr.heap.size, 0, none⟩ 1 1 [0] hone (by have := hL.out.bs; simp; omega) (by omega)
              have HL4 : Hid (BL w B hx hc (bparts l k) v4 (n + 1) (l.drop 0 ++ List.replicate (n + 1 - (0 - 0)) 0) w4) := by
                have e : l.drop 0 ++ List.replicate (n + 1 - (0 - 0)) 0 = l.drop 0 ++ List.replicate (n - (0 - 0)) 0 ++ [0] := by
                  rw [show n + 1 - (0 - 0) = (n - (0 - 0)) + 1 by omega, List.replicate_succ', List.append_assoc]
                rw [e]
                exact hL.out.app own4 hg4
              have HA4 : Hid ((Builtin.append_ #[28, 28] 28 #[.slice a5 n c5, .slice (some ⟨wr.heap.size, 0, none⟩) 1 1]).run Tryz.prog (wr.alloc (.cells #[.int .u8 0] 5)) = .ok v4 w4) := hap4
              have hl4 : lenOf v4 = n + 1 := by
                obtain ⟨a', c', e', _⟩ := own_parts own4
                rw [e']; rfl
              clear hap4 own4 hg4 hone hL hB5
              go_wp2_with (at_builtin; refine wpList_append_run rfl (.tmp 35) (.tmp 36) 28 rfl _ _ _ _ rfl rfl HA4.out ?_)
              clear HA4
              exact ⟨⟨n + 1, by omega, by omega, HL4⟩, by rw [hl4]; show _ < 64 - n; omega⟩
            · have e64 : n = 64 := by omega
              have hni : ¬ (n : Int) < 64 := by omega
              have HLast : Hid (l.drop 0 ++ List.replicate (n - (0 - 0)) 0 = blast l) := by
                show _ = _
                rw [blast, hl, ← hkb, hp, e64]
              subst e64
              obtain ⟨ga5, rfl⟩ : ∃ g, a5 = some ⟨g, 0, none⟩ := by
                obtain ⟨g, c, e, _, _⟩ := Seg.ofOwn hL.out.own (by omega)
                cases e
                exact ⟨g, rfl⟩
              rw [HLast.out] at hB5
              have HB5 : Hid (Byt wr (some ⟨ga5, 0, none⟩) 64 (blast l)) := hB5
              have HW5 : Hid (Below w.heap.size w wr) := hL.out.bel
              have HS5 : Hid (Seg wr 29 (some hx) 8 hc ((bparts l k).map wv)) := hL.out.h
              clear hB5 hL HLast
              go_wp2_with fail
              refine (refPart_any hx hc (bparts l k) ga5 0 c5 (blast l) 0 true wr HS5.out HB5.out (by omega) (by omega)).mono ?_
              rintro e w6 ⟨v6, rfl, hb6, ho6⟩
              obtain ⟨g6, c6, rfl, hg6, hs6⟩ := Seg.ofOwn ho6 (by omega)
              obtain ⟨H, hH⟩ : ∃ H, bpart (bparts l k) (blast l) 0 true = H := ⟨_, rfl⟩
              have hHl : H.length = 8 := by rw [← hH, bpart_length]
              have HBL : Hid (blakeB l = wordsB H) := by
                show _ = _
                rw [blakeB, hl, ← hkb, hH]
              rw [hH] at hs6
              have hbel6 : Below w.heap.size w w6 := HW5.out.trans (hb6.mono HW5.out.size)
              have HO0 : Hid (BO5 w g6 c6 H (some ⟨w6.heap.size, 0, none⟩) 0 0 (w6.alloc (.cells #[] 5))) := BO5.new hs6 hbel6
              clear hb6 ho6 hs6 hH hbel6 HS5 HB5 HW5
              go_wp2
              go_loopw [6, 7] (fun v i wr => ∃ (j : Nat) (a' : Option Addr) (c' : Nat), j ≤ 8 ∧ i = .int .i64 j ∧ v = .slice a' (4 * j : Nat) c' ∧ Hid (BO5 w g6 c6 H a' c' j wr)) (fun _ i _ => 8 - (intOf i).toNat)
              case atStart => exact ⟨0, _, _, by omega, rfl, rfl, HO0⟩
              case round =>
                clear HO0
                obtain ⟨j, a', c', hj, rfl, rfl, hO⟩ := hrel
                by_cases hj8 : j < 8
                · have hji : (j : Int) < 8 := by omega
                  obtain ⟨cc, _⟩ := hO.out.h.word j (by omega)
                  obtain ⟨y, hy⟩ : ∃ y, at32 H j = y := ⟨_, rfl⟩
                  rw [hy, Nat.zero_add] at cc
                  obtain ⟨q, hq⟩ : ∃ q, 4 * j = q := ⟨_, rfl⟩
                  rw [hq]
                  have HSo : Hid (Byt wr a' q (wordsB (H.take j))) := by rw [← hq]; exact hO.out.out
                  have hyb := y.isLt
                  go_wp2_with fail
                  refine (refPut_seg a' q c' 4 y.toNat (by omega) false _ wr (by omega) HSo.out hO.out.nil 4 (by decide)).mono ?_
                  rintro e w8 ⟨a8, c8, rfl, hb8, hs8, hbk8⟩
                  have HO8 : Hid (BO5 w g6 c6 H a8 c8 (j + 1) w8) := by
                    have e := wordsB_take H j (by omega)
                    rw [hy] at e
                    exact hO.out.put hb8 (by rw [e, show 4 * (j + 1) = q + 4 by omega]; exact hs8) hbk8
                  clear hb8 hs8 hbk8 hO
                  go_wp2
                  exact ⟨⟨j + 1, a8, c8, by omega, by go_num, by rw [show 4 * (j + 1) = q + 4 by omega], HO8⟩, by simp [intOf]; omega⟩
                · have ej : j = 8 := by omega
                  subst ej
                  have hji : ¬ ((8 : Nat) : Int) < 8 := by omega
                  have HF : Hid (Seg wr 5 a' 32 c' ((blakeB l).map bv)) := by
                    rw [HBL.out]
                    have := hO.out.seg (by omega)
                    rw [List.take_of_length_le (by omega)] at this
                    exact this
                  have HFb : Hid (∀ j, blockOf a' = some j → w.heap.size ≤ j) := hO.out.isnew
                  have HW8 : Hid (Below w.heap.size w wr) := hO.out.bel
                  clear hO
                  go_wp2
                  go_ret
                  exact ⟨a', c', rfl, HW8.out, HF.out, HFb.out⟩
      · obtain ⟨ba, offa, rfl⟩ : ∃ ba offa, a = some ⟨ba, offa, none⟩ := by
          rcases HB.out.2 with h1 | ⟨b', off', e, _⟩
          · omega
          · exact ⟨b', off', e⟩
        have hba := HB.out.lt (by omega)
        have hpl : p < len := by omega
        have hcn : ¬ cap = p := by omega
        have hpc : (p : Int) ≤ (cap : Int) := by omega
        have hpl' : (p : Int) ≤ (len : Int) := by omega
        have hBw := (HB.out.below hba hH.out.bel).sub (n := p) (q := len) (by omega) (by omega)
        have ed : (l.drop p).take (len - p) = l.drop p := List.take_of_length_le (by simp; omega)
        rw [ed] at hBw
        obtain ⟨v3, w3, hap3, own3, hg3⟩ := append_bytes (wr.alloc (.cells #[] 5)) wr.heap.size (.slice (some ⟨wr.heap.size, 0, none⟩) 0 0) 0 [] (World.ownsRow_made wr #[] 0 (Nat.le_refl _) (Nat.zero_le _) rfl) ⟨ba, offa + p, none⟩ (len - p) (cap - p) _ (hBw.later ((Below.refl _ _).alloc (Nat.le_refl _) _)) (by simp) (by omega)
        rw [Nat.zero_add, List.nil_append] at own3
        have HL0 : Hid (BL w B hx hc (bparts l k) v3 (len - p) (l.drop p) w3) := by
          rw [← hBe]
          exact BL.new hH.out.h hH.out.bel own3 (grown_alloc hg3 (fun k hk => by simp [Value.ownBlock] at hk; omega))
        have HA3 : Hid ((Builtin.append_ #[28, 28] 28 #[.slice (some ⟨wr.heap.size, 0, none⟩) 0 0, .slice (some ⟨ba, offa + p, none⟩) (len - p) (cap - p)]).run Tryz.prog (wr.alloc (.cells #[] 5)) = .ok v3 w3) := hap3
        clear hap3 own3 hg3 hBw hH hBe
        go_wp2_with (at_builtin; refine wpList_append_run rfl (.tmp 27) (.tmp 30) 28 rfl _ _ _ _ rfl rfl HA3.out ?_)
        clear HA3
        go_loopw [5] (fun v wr => ∃ n : Nat, len - p ≤ n ∧ n ≤ 64 ∧ Hid (BL w B hx hc (bparts l k) v n (l.drop p ++ List.replicate (n - (len - p)) 0) wr)) (fun v _ => 64 - lenOf v)
        case atStart => exact ⟨len - p, Nat.le_refl _, by omega, by rw [Nat.sub_self, List.replicate_zero, List.append_nil]; exact HL0⟩
        case round =>
          clear HL0
          obtain ⟨n, hn1, hn2, hL⟩ := hrel
          obtain ⟨a5, c5, rfl, hB5, hnc5, hcm5, hnil5⟩ := own_parts hL.out.own
          by_cases hn : n < 64
          · have hni : (n : Int) < 64 := by omega
            have hone : Byt (wr.alloc (.cells #[.int .u8 0] 5)) (some ⟨wr.heap.size, 0, none⟩) 1 [0] := byt_lit _ [0] wr.heap.size _ _ _ (heap_alloc_new wr _) rfl
            obtain ⟨v4, w4, hap4, own4, hg4⟩ := append_bytes (wr.alloc (.cells #[.int .u8 0] 5)) B _ n _ (hL.out.own.alloc _) ⟨wr.heap.size, 0, none⟩ 1 1 [0] hone (by have := hL.out.bs; simp; omega) (by omega)
            have HL4 : Hid (BL w B hx hc (bparts l k) v4 (n + 1) (l.drop p ++ List.replicate (n + 1 - (len - p)) 0) w4) := by
              have e : l.drop p ++ List.replicate (n + 1 - (len - p)) 0 = l.drop p ++ List.replicate (n - (len - p)) 0 ++ [0] := by
                rw [show n + 1 - (len - p) = (n - (len - p)) + 1 by omega, List.replicate_succ', List.append_assoc]
              rw [e]
              exact hL.out.app own4 hg4
            have HA4 : Hid ((Builtin.append_ #[28, 28] 28 #[.slice a5 n c5, .slice (some ⟨wr.heap.size, 0, none⟩) 1 1]).run Tryz.prog (wr.alloc (.cells #[.int .u8 0] 5)) = .ok v4 w4) := hap4
            have hl4 : lenOf v4 = n + 1 := by
              obtain ⟨a', c', e', _⟩ := own_parts own4
              rw [e']; rfl
            clear hap4 own4 hg4 hone hL hB5
            go_wp2_with (at_builtin; refine wpList_append_run rfl (.tmp 35) (.tmp 36) 28 rfl _ _ _ _ rfl rfl HA4.out ?_)
            clear HA4
            exact ⟨⟨n + 1, by omega, by omega, HL4⟩, by rw [hl4]; show _ < 64 - n; omega⟩
          · have e64 : n = 64 := by omega
            have hni : ¬ (n : Int) < 64 := by omega
            have HLast : Hid (l.drop p ++ List.replicate (n - (len - p)) 0 = blast l) := by
              show _ = _
              rw [blast, hl, ← hkb, hp, e64]
            subst e64
            obtain ⟨ga5, rfl⟩ : ∃ g, a5 = some ⟨g, 0, none⟩ := by
              obtain ⟨g, c, e, _, _⟩ := Seg.ofOwn hL.out.own (by omega)
              cases e
              exact ⟨g, rfl⟩
            rw [HLast.out] at hB5
            have HB5 : Hid (Byt wr (some ⟨ga5, 0, none⟩) 64 (blast l)) := hB5
            have HW5 : Hid (Below w.heap.size w wr) := hL.out.bel
            have HS5 : Hid (Seg wr 29 (some hx) 8 hc ((bparts l k).map wv)) := hL.out.h
            clear hB5 hL HLast
            go_wp2_with fail
            refine (refPart_any hx hc (bparts l k) ga5 0 c5 (blast l) len true wr HS5.out HB5.out (by omega) (by omega)).mono ?_
            rintro e w6 ⟨v6, rfl, hb6, ho6⟩
            obtain ⟨g6, c6, rfl, hg6, hs6⟩ := Seg.ofOwn ho6 (by omega)
            obtain ⟨H, hH⟩ : ∃ H, bpart (bparts l k) (blast l) len true = H := ⟨_, rfl⟩
            have hHl : H.length = 8 := by rw [← hH, bpart_length]
            have HBL : Hid (blakeB l = wordsB H) := by
              show _ = _
              rw [blakeB, hl, ← hkb, hH]
            rw [hH] at hs6
            have hbel6 : Below w.heap.size w w6 := HW5.out.trans (hb6.mono HW5.out.size)
            have HO0 : Hid (BO5 w g6 c6 H (some ⟨w6.heap.size, 0, none⟩) 0 0 (w6.alloc (.cells #[] 5))) := BO5.new hs6 hbel6
            clear hb6 ho6 hs6 hH hbel6 HS5 HB5 HW5
            go_wp2
            go_loopw [6, 7] (fun v i wr => ∃ (j : Nat) (a' : Option Addr) (c' : Nat), j ≤ 8 ∧ i = .int .i64 j ∧ v = .slice a' (4 * j : Nat) c' ∧ Hid (BO5 w g6 c6 H a' c' j wr)) (fun _ i _ => 8 - (intOf i).toNat)
            case atStart => exact ⟨0, _, _, by omega, rfl, rfl, HO0⟩
            case round =>
              clear HO0
              obtain ⟨j, a', c', hj, rfl, rfl, hO⟩ := hrel
              by_cases hj8 : j < 8
              · have hji : (j : Int) < 8 := by omega
                obtain ⟨cc, _⟩ := hO.out.h.word j (by omega)
                obtain ⟨y, hy⟩ : ∃ y, at32 H j = y := ⟨_, rfl⟩
                rw [hy, Nat.zero_add] at cc
                obtain ⟨q, hq⟩ : ∃ q, 4 * j = q := ⟨_, rfl⟩
                rw [hq]
                have HSo : Hid (Byt wr a' q (wordsB (H.take j))) := by rw [← hq]; exact hO.out.out
                have hyb := y.isLt
                go_wp2_with fail
                refine (refPut_seg a' q c' 4 y.toNat (by omega) false _ wr (by omega) HSo.out hO.out.nil 4 (by decide)).mono ?_
                rintro e w8 ⟨a8, c8, rfl, hb8, hs8, hbk8⟩
                have HO8 : Hid (BO5 w g6 c6 H a8 c8 (j + 1) w8) := by
                  have e := wordsB_take H j (by omega)
                  rw [hy] at e
                  exact hO.out.put hb8 (by rw [e, show 4 * (j + 1) = q + 4 by omega]; exact hs8) hbk8
                clear hb8 hs8 hbk8 hO
                go_wp2
                exact ⟨⟨j + 1, a8, c8, by omega, by go_num, by rw [show 4 * (j + 1) = q + 4 by omega], HO8⟩, by simp [intOf]; omega⟩
              · have ej : j = 8 := by omega
                subst ej
                have hji : ¬ ((8 : Nat) : Int) < 8 := by omega
                have HF : Hid (Seg wr 5 a' 32 c' ((blakeB l).map bv)) := by
                  rw [HBL.out]
                  have := hO.out.seg (by omega)
                  rw [List.take_of_length_le (by omega)] at this
                  exact this
                have HFb : Hid (∀ j, blockOf a' = some j → w.heap.size ≤ j) := hO.out.isnew
                have HW8 : Hid (Below w.heap.size w wr) := hO.out.bel
                clear hO
                go_wp2
                go_ret
                exact ⟨a', c', rfl, HW8.out, HF.out, HFb.out⟩
end Go.Proofs.YtdancpcnjklifaaGreatDoor
