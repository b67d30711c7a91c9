/- The walks over the document's cut, right and mix (blake). -/
import Derived.Test.YthjkjfoelekeeaaDoorRefE
import Derived.Test.YthjkjfoelekeeaaDoorMathBlake
namespace Go.Proofs.YthjkjfoelekeeaaDoor
set_option linter.unusedVariables false
open Go.RowKit

set_option maxHeartbeats 400000 in
theorem refCutB_any (x : Int) (w : World) (h0 : 0 ≤ x) (h1 : x < 18446744073709551616) :
    Calls Tryd.prog 29 #[.int .u64 x] w fun e w' => e = .returned (.int .u64 (x % 4294967296)) ∧ w' = w := by
  go_enter Tryd.func29, Tryd.ntmps29
  go_wp2
  go_ret
  exact ⟨rfl, rfl⟩
set_option maxHeartbeats 400000 in
theorem refRight_any (x : BitVec 32) (n : Int) (w : World) (h0 : 0 ≤ n) (h1 : n ≤ 32) :
    Calls Tryd.prog 36 #[.int .u64 (x.toNat : Int), .int .i64 n] w fun e w' => e = .returned (.int .u64 ((rotr x n).toNat : Int)) ∧ w' = w := by
  have hx := x.isLt
  go_enter Tryd.func36, Tryd.ntmps36
  go_wp2_with (go_at_call 40; refine (refRot_any x (32 - n) _).mono ?_; rintro e w' ⟨rfl, rfl⟩)
  go_ret
  exact ⟨rfl, rfl⟩
/-- One word stored: the row, and what else there is. -/
theorem seg_step {w : World} {g off n cap : Nat} {l : List (BitVec 32)} (h : Seg w 47 (some ⟨g, off, none⟩) n cap (l.map wv)) (p : Nat) (hp : p < n) (s : BitVec 32) :
    Seg (w.drew.setCell ⟨g, off + p, none⟩ (wv s)) 47 (some ⟨g, off, none⟩) n cap ((l.set p s).map wv) ∧ w.grownBy (w.drew.setCell ⟨g, off + p, none⟩ (wv s)) (some g) := by
  refine ⟨by rw [List.map_set]; exact h.drew.set p hp _, rfl, rfl, rfl, by simp, fun j hj hne => ?_⟩
  rw [heap_setCell_other w.drew ⟨g, off + p, none⟩ j _ (fun e => hne (by rw [e]))]
  rfl
theorem sum3_val (x y z : BitVec 32) : ((x.toNat + y.toNat + z.toNat : Nat) : Int) % 4294967296 = ((x + y + z).toNat : Int) := by
  rw [BitVec.toNat_add, BitVec.toNat_add]; omega
theorem sum2_val (x y : BitVec 32) : ((x.toNat + y.toNat : Nat) : Int) % 4294967296 = ((x + y).toNat : Int) := by
  rw [BitVec.toNat_add]; omega

set_option maxHeartbeats 4000000 in
set_option maxRecDepth 100000 in
theorem refMix_any (g off cap n : Nat) (l0 : List (BitVec 32)) (a b c d : Nat) (x y : BitVec 32) (w0 : World) (hS : Seg w0 47 (some ⟨g, off, none⟩) n cap (l0.map wv)) (ha : a < n) (hb : b < n) (hc : c < n) (hd : d < n) :
    Calls Tryd.prog 31 #[.slice (some ⟨g, off, none⟩) n cap, .int .i64 a, .int .i64 b, .int .i64 c, .int .i64 d, .int .u64 (x.toNat : Int), .int .u64 (y.toNat : Int)] w0 fun e w' => (∃ v, e = .returned v) ∧ Seg w' 47 (some ⟨g, off, none⟩) n cap ((bmix l0 a b c d x y).map wv) ∧ w0.grownBy w' (some g) := by
  have hxl := x.isLt
  have hyl := y.isLt
  have ia : (a : Int) < (n : Int) := by omega
  have ib : (b : Int) < (n : Int) := by omega
  have ic : (c : Int) < (n : Int) := by omega
  have id : (d : Int) < (n : Int) := by omega
  have HS0 : Hid (Seg w0 47 (some ⟨g, off, none⟩) n cap (l0.map wv)) := hS
  have HG0 : Hid (w0.grownBy w0 (some g)) := grownBy_refl w0 _
  clear hS
  go_enter Tryd.func31, Tryd.ntmps31
  go_wp2
  obtain ⟨cp0, fp0⟩ := HS0.out.drew.word a ha
  obtain ⟨cq0, _⟩ := HS0.out.drew.word b hb
  obtain ⟨u0, hu0⟩ : ∃ u, at32 l0 a = u := ⟨_, rfl⟩
  obtain ⟨t0, ht0⟩ : ∃ t, at32 l0 b = t := ⟨_, rfl⟩
  rw [hu0] at cp0
  rw [ht0] at cq0
  have bu0 := u0.isLt
  have bt0 := t0.isLt
  obtain ⟨N0, hN0⟩ : ∃ N, u0.toNat + t0.toNat + x.toNat = N := ⟨_, rfl⟩
  have HU0 : Hid (IntKind.u64.wrap (IntKind.u64.wrap ((u0.toNat : Int) + (t0.toNat : Int)) + (x.toNat : Int)) = (N0 : Int)) := by show _ = _; rw [IntKind.wrap_u64, IntKind.wrap_u64]; omega
  obtain ⟨s0, hs0⟩ : ∃ s, u0 + t0 + x = s := ⟨_, rfl⟩
  have HV0 : Hid ((N0 : Int) % 4294967296 = (s0.toNat : Int)) := by show _ = _; rw [← hN0, sum3_val, hs0]
  obtain ⟨sg0, gr0⟩ := seg_step HS0.out a ha s0
  obtain ⟨W0, hW0⟩ : ∃ W, w0.drew = W := ⟨_, rfl⟩
  rw [hW0] at cp0 fp0 cq0 sg0 gr0
  obtain ⟨w1, hw1⟩ : ∃ w', W0.setCell ⟨g, off + a, none⟩ (wv s0) = w' := ⟨_, rfl⟩
  rw [hw1] at sg0 gr0
  have Hw1 : Hid (W0.setCell ⟨g, off + a, none⟩ (.int .u64 (s0.toNat : Int)) = w1) := hw1
  obtain ⟨l1, hl1⟩ : ∃ l', badd3 l0 a b x = l' := ⟨_, rfl⟩
  have HE1 : Hid (badd3 l0 a b x = l1) := hl1
  have HS1 : Hid (Seg w1 47 (some ⟨g, off, none⟩) n cap (l1.map wv)) := by
    rw [← hl1]
    unfold badd3
    rw [hu0, ht0, hs0]
    exact sg0
  have HG1 : Hid (w0.grownBy w1 (some g)) := HG0.out.trans gr0
  have HW0 : Hid (w0.drew = W0) := hW0
  have hNb0 : N0 < 18446744073709551616 := by omega
  clear sg0 gr0 hW0 hw1 hl1 hs0 hu0 ht0 hN0 HS0 HG0
  refine wp_region_sched' (G := Stays) (by kernel_rfl) Stays.refl Stays.trans (by kernel_rfl) [(0, true), (1, true), (2, true), (3, true), (4, true), (5, true), (6, true), (7, true), (8, true), (9, true), (10, true), (11, true), (12, true), (13, false), (14, true), (15, false)] rfl (by kernel_rfl) ?_
  intro KK0 hKK0
  rw [HW0.out]
  iterate 13 (refine sched_take rfl (by rfl) (v := ?_) ?_ ?_; rotate_left; (rintro w' rfl; go_simp; with_reducible rfl); go_simp)
  refine sched_call (f := 29) (args := #[.int .u64 (N0 : Int)]) rfl (by rfl) (by go_simp; rw [HU0.out]) ?_
  refine (refCutB_any _ _ (by omega) (by omega)).mono ?_
  rintro e w' ⟨rfl, rfl⟩
  refine ⟨_, rfl, rfl, ?_⟩
  rw [HV0.out]
  go_simp
  iterate 1 (refine sched_take rfl (by rfl) (v := ?_) ?_ ?_; rotate_left; (rintro w' rfl; go_simp; with_reducible rfl); go_simp)
  refine sched_store rfl (by rfl) (w' := w1) (by rw [← Hw1.out]; go_simp) (by kernel_rfl) ?_
  go_simp
  refine sched_done hKK0 ?_
  clear hKK0 HW0 Hw1 HU0 HV0 cp0 fp0 cq0 bu0 bt0
  go_wp2
  obtain ⟨cp1, fp1⟩ := HS1.out.drew.word d hd
  obtain ⟨cq1, _⟩ := HS1.out.drew.word a ha
  obtain ⟨u1, hu1⟩ : ∃ u, at32 l1 d = u := ⟨_, rfl⟩
  obtain ⟨t1, ht1⟩ : ∃ t, at32 l1 a = t := ⟨_, rfl⟩
  rw [hu1] at cp1
  rw [ht1] at cq1
  have bu1 := u1.isLt
  have bt1 := t1.isLt
  obtain ⟨N1, hN1⟩ : ∃ N, u1 ^^^ t1 = N := ⟨_, rfl⟩
  have HU1 : Hid (bits .xor .u64 (u1.toNat : Int) (t1.toNat : Int) = (N1.toNat : Int)) := by show _ = _; rw [xor_val64, hN1]
  obtain ⟨s1, hs1⟩ : ∃ s, rotr N1 16 = s := ⟨_, rfl⟩
  have HV1 : Hid (rotr N1 16 = s1) := hs1
  obtain ⟨sg1, gr1⟩ := seg_step HS1.out d hd s1
  obtain ⟨W1, hW1⟩ : ∃ W, w1.drew = W := ⟨_, rfl⟩
  rw [hW1] at cp1 fp1 cq1 sg1 gr1
  obtain ⟨w2, hw2⟩ : ∃ w', W1.setCell ⟨g, off + d, none⟩ (wv s1) = w' := ⟨_, rfl⟩
  rw [hw2] at sg1 gr1
  have Hw2 : Hid (W1.setCell ⟨g, off + d, none⟩ (.int .u64 (s1.toNat : Int)) = w2) := hw2
  obtain ⟨l2, hl2⟩ : ∃ l', brot l1 d a 16 = l' := ⟨_, rfl⟩
  have HE2 : Hid (brot l1 d a 16 = l2) := hl2
  have HS2 : Hid (Seg w2 47 (some ⟨g, off, none⟩) n cap (l2.map wv)) := by
    rw [← hl2]
    unfold brot
    rw [hu1, ht1, hN1, hs1]
    exact sg1
  have HG2 : Hid (w0.grownBy w2 (some g)) := HG1.out.trans gr1
  have HW1 : Hid (w1.drew = W1) := hW1
  clear sg1 gr1 hW1 hw2 hl2 hs1 hu1 ht1 hN1 HS1 HG1
  refine wp_region_sched' (G := Stays) (by kernel_rfl) Stays.refl Stays.trans (by kernel_rfl) [(0, true), (1, true), (2, true), (3, true), (4, true), (5, true), (6, true), (7, true), (8, true), (9, true), (10, true), (11, false), (12, true), (13, false)] rfl (by kernel_rfl) ?_
  intro KK1 hKK1
  rw [HW1.out]
  iterate 11 (refine sched_take rfl (by rfl) (v := ?_) ?_ ?_; rotate_left; (rintro w' rfl; go_simp; with_reducible rfl); go_simp)
  refine sched_call (f := 36) (args := #[.int .u64 (N1.toNat : Int), .int .i64 16]) rfl (by rfl) (by go_simp; rw [HU1.out]) ?_
  refine (refRight_any N1 16 _ (by omega) (by omega)).mono ?_
  rintro e w' ⟨rfl, rfl⟩
  refine ⟨_, rfl, rfl, ?_⟩
  rw [HV1.out]
  go_simp
  iterate 1 (refine sched_take rfl (by rfl) (v := ?_) ?_ ?_; rotate_left; (rintro w' rfl; go_simp; with_reducible rfl); go_simp)
  refine sched_store rfl (by rfl) (w' := w2) (by rw [← Hw2.out]; go_simp) (by kernel_rfl) ?_
  go_simp
  refine sched_done hKK1 ?_
  clear hKK1 HW1 Hw2 HU1 HV1 cp1 fp1 cq1 bu1 bt1
  go_wp2
  obtain ⟨cp2, fp2⟩ := HS2.out.drew.word c hc
  obtain ⟨cq2, _⟩ := HS2.out.drew.word d hd
  obtain ⟨u2, hu2⟩ : ∃ u, at32 l2 c = u := ⟨_, rfl⟩
  obtain ⟨t2, ht2⟩ : ∃ t, at32 l2 d = t := ⟨_, rfl⟩
  rw [hu2] at cp2
  rw [ht2] at cq2
  have bu2 := u2.isLt
  have bt2 := t2.isLt
  obtain ⟨N2, hN2⟩ : ∃ N, u2.toNat + t2.toNat = N := ⟨_, rfl⟩
  have HU2 : Hid (IntKind.u64.wrap ((u2.toNat : Int) + (t2.toNat : Int)) = (N2 : Int)) := by show _ = _; rw [IntKind.wrap_u64]; omega
  obtain ⟨s2, hs2⟩ : ∃ s, u2 + t2 = s := ⟨_, rfl⟩
  have HV2 : Hid ((N2 : Int) % 4294967296 = (s2.toNat : Int)) := by show _ = _; rw [← hN2, sum2_val, hs2]
  obtain ⟨sg2, gr2⟩ := seg_step HS2.out c hc s2
  obtain ⟨W2, hW2⟩ : ∃ W, w2.drew = W := ⟨_, rfl⟩
  rw [hW2] at cp2 fp2 cq2 sg2 gr2
  obtain ⟨w3, hw3⟩ : ∃ w', W2.setCell ⟨g, off + c, none⟩ (wv s2) = w' := ⟨_, rfl⟩
  rw [hw3] at sg2 gr2
  have Hw3 : Hid (W2.setCell ⟨g, off + c, none⟩ (.int .u64 (s2.toNat : Int)) = w3) := hw3
  obtain ⟨l3, hl3⟩ : ∃ l', badd2 l2 c d = l' := ⟨_, rfl⟩
  have HE3 : Hid (badd2 l2 c d = l3) := hl3
  have HS3 : Hid (Seg w3 47 (some ⟨g, off, none⟩) n cap (l3.map wv)) := by
    rw [← hl3]
    unfold badd2
    rw [hu2, ht2, hs2]
    exact sg2
  have HG3 : Hid (w0.grownBy w3 (some g)) := HG2.out.trans gr2
  have HW2 : Hid (w2.drew = W2) := hW2
  have hNb2 : N2 < 18446744073709551616 := by omega
  clear sg2 gr2 hW2 hw3 hl3 hs2 hu2 ht2 hN2 HS2 HG2
  refine wp_region_sched' (G := Stays) (by kernel_rfl) Stays.refl Stays.trans (by kernel_rfl) [(0, true), (1, true), (2, true), (3, true), (4, true), (5, true), (6, true), (7, true), (8, true), (9, true), (10, true), (11, false), (12, true), (13, false)] rfl (by kernel_rfl) ?_
  intro KK2 hKK2
  rw [HW2.out]
  iterate 11 (refine sched_take rfl (by rfl) (v := ?_) ?_ ?_; rotate_left; (rintro w' rfl; go_simp; with_reducible rfl); go_simp)
  refine sched_call (f := 29) (args := #[.int .u64 (N2 : Int)]) rfl (by rfl) (by go_simp; rw [HU2.out]) ?_
  refine (refCutB_any _ _ (by omega) (by omega)).mono ?_
  rintro e w' ⟨rfl, rfl⟩
  refine ⟨_, rfl, rfl, ?_⟩
  rw [HV2.out]
  go_simp
  iterate 1 (refine sched_take rfl (by rfl) (v := ?_) ?_ ?_; rotate_left; (rintro w' rfl; go_simp; with_reducible rfl); go_simp)
  refine sched_store rfl (by rfl) (w' := w3) (by rw [← Hw3.out]; go_simp) (by kernel_rfl) ?_
  go_simp
  refine sched_done hKK2 ?_
  clear hKK2 HW2 Hw3 HU2 HV2 cp2 fp2 cq2 bu2 bt2
  go_wp2
  obtain ⟨cp3, fp3⟩ := HS3.out.drew.word b hb
  obtain ⟨cq3, _⟩ := HS3.out.drew.word c hc
  obtain ⟨u3, hu3⟩ : ∃ u, at32 l3 b = u := ⟨_, rfl⟩
  obtain ⟨t3, ht3⟩ : ∃ t, at32 l3 c = t := ⟨_, rfl⟩
  rw [hu3] at cp3
  rw [ht3] at cq3
  have bu3 := u3.isLt
  have bt3 := t3.isLt
  obtain ⟨N3, hN3⟩ : ∃ N, u3 ^^^ t3 = N := ⟨_, rfl⟩
  have HU3 : Hid (bits .xor .u64 (u3.toNat : Int) (t3.toNat : Int) = (N3.toNat : Int)) := by show _ = _; rw [xor_val64, hN3]
  obtain ⟨s3, hs3⟩ : ∃ s, rotr N3 12 = s := ⟨_, rfl⟩
  have HV3 : Hid (rotr N3 12 = s3) := hs3
  obtain ⟨sg3, gr3⟩ := seg_step HS3.out b hb s3
  obtain ⟨W3, hW3⟩ : ∃ W, w3.drew = W := ⟨_, rfl⟩
  rw [hW3] at cp3 fp3 cq3 sg3 gr3
  obtain ⟨w4, hw4⟩ : ∃ w', W3.setCell ⟨g, off + b, none⟩ (wv s3) = w' := ⟨_, rfl⟩
  rw [hw4] at sg3 gr3
  have Hw4 : Hid (W3.setCell ⟨g, off + b, none⟩ (.int .u64 (s3.toNat : Int)) = w4) := hw4
  obtain ⟨l4, hl4⟩ : ∃ l', brot l3 b c 12 = l' := ⟨_, rfl⟩
  have HE4 : Hid (brot l3 b c 12 = l4) := hl4
  have HS4 : Hid (Seg w4 47 (some ⟨g, off, none⟩) n cap (l4.map wv)) := by
    rw [← hl4]
    unfold brot
    rw [hu3, ht3, hN3, hs3]
    exact sg3
  have HG4 : Hid (w0.grownBy w4 (some g)) := HG3.out.trans gr3
  have HW3 : Hid (w3.drew = W3) := hW3
  clear sg3 gr3 hW3 hw4 hl4 hs3 hu3 ht3 hN3 HS3 HG3
  refine wp_region_sched' (G := Stays) (by kernel_rfl) Stays.refl Stays.trans (by kernel_rfl) [(0, true), (1, true), (2, true), (3, true), (4, true), (5, true), (6, true), (7, true), (8, true), (9, true), (10, true), (11, false), (12, true), (13, false)] rfl (by kernel_rfl) ?_
  intro KK3 hKK3
  rw [HW3.out]
  iterate 11 (refine sched_take rfl (by rfl) (v := ?_) ?_ ?_; rotate_left; (rintro w' rfl; go_simp; with_reducible rfl); go_simp)
  refine sched_call (f := 36) (args := #[.int .u64 (N3.toNat : Int), .int .i64 12]) rfl (by rfl) (by go_simp; rw [HU3.out]) ?_
  refine (refRight_any N3 12 _ (by omega) (by omega)).mono ?_
  rintro e w' ⟨rfl, rfl⟩
  refine ⟨_, rfl, rfl, ?_⟩
  rw [HV3.out]
  go_simp
  iterate 1 (refine sched_take rfl (by rfl) (v := ?_) ?_ ?_; rotate_left; (rintro w' rfl; go_simp; with_reducible rfl); go_simp)
  refine sched_store rfl (by rfl) (w' := w4) (by rw [← Hw4.out]; go_simp) (by kernel_rfl) ?_
  go_simp
  refine sched_done hKK3 ?_
  clear hKK3 HW3 Hw4 HU3 HV3 cp3 fp3 cq3 bu3 bt3
  go_wp2
  obtain ⟨cp4, fp4⟩ := HS4.out.drew.word a ha
  obtain ⟨cq4, _⟩ := HS4.out.drew.word b hb
  obtain ⟨u4, hu4⟩ : ∃ u, at32 l4 a = u := ⟨_, rfl⟩
  obtain ⟨t4, ht4⟩ : ∃ t, at32 l4 b = t := ⟨_, rfl⟩
  rw [hu4] at cp4
  rw [ht4] at cq4
  have bu4 := u4.isLt
  have bt4 := t4.isLt
  obtain ⟨N4, hN4⟩ : ∃ N, u4.toNat + t4.toNat + y.toNat = N := ⟨_, rfl⟩
  have HU4 : Hid (IntKind.u64.wrap (IntKind.u64.wrap ((u4.toNat : Int) + (t4.toNat : Int)) + (y.toNat : Int)) = (N4 : Int)) := by show _ = _; rw [IntKind.wrap_u64, IntKind.wrap_u64]; omega
  obtain ⟨s4, hs4⟩ : ∃ s, u4 + t4 + y = s := ⟨_, rfl⟩
  have HV4 : Hid ((N4 : Int) % 4294967296 = (s4.toNat : Int)) := by show _ = _; rw [← hN4, sum3_val, hs4]
  obtain ⟨sg4, gr4⟩ := seg_step HS4.out a ha s4
  obtain ⟨W4, hW4⟩ : ∃ W, w4.drew = W := ⟨_, rfl⟩
  rw [hW4] at cp4 fp4 cq4 sg4 gr4
  obtain ⟨w5, hw5⟩ : ∃ w', W4.setCell ⟨g, off + a, none⟩ (wv s4) = w' := ⟨_, rfl⟩
  rw [hw5] at sg4 gr4
  have Hw5 : Hid (W4.setCell ⟨g, off + a, none⟩ (.int .u64 (s4.toNat : Int)) = w5) := hw5
  obtain ⟨l5, hl5⟩ : ∃ l', badd3 l4 a b y = l' := ⟨_, rfl⟩
  have HE5 : Hid (badd3 l4 a b y = l5) := hl5
  have HS5 : Hid (Seg w5 47 (some ⟨g, off, none⟩) n cap (l5.map wv)) := by
    rw [← hl5]
    unfold badd3
    rw [hu4, ht4, hs4]
    exact sg4
  have HG5 : Hid (w0.grownBy w5 (some g)) := HG4.out.trans gr4
  have HW4 : Hid (w4.drew = W4) := hW4
  have hNb4 : N4 < 18446744073709551616 := by omega
  clear sg4 gr4 hW4 hw5 hl5 hs4 hu4 ht4 hN4 HS4 HG4
  refine wp_region_sched' (G := Stays) (by kernel_rfl) Stays.refl Stays.trans (by kernel_rfl) [(0, true), (1, true), (2, true), (3, true), (4, true), (5, true), (6, true), (7, true), (8, true), (9, true), (10, true), (11, true), (12, true), (13, false), (14, true), (15, false)] rfl (by kernel_rfl) ?_
  intro KK4 hKK4
  rw [HW4.out]
  iterate 13 (refine sched_take rfl (by rfl) (v := ?_) ?_ ?_; rotate_left; (rintro w' rfl; go_simp; with_reducible rfl); go_simp)
  refine sched_call (f := 29) (args := #[.int .u64 (N4 : Int)]) rfl (by rfl) (by go_simp; rw [HU4.out]) ?_
  refine (refCutB_any _ _ (by omega) (by omega)).mono ?_
  rintro e w' ⟨rfl, rfl⟩
  refine ⟨_, rfl, rfl, ?_⟩
  rw [HV4.out]
  go_simp
  iterate 1 (refine sched_take rfl (by rfl) (v := ?_) ?_ ?_; rotate_left; (rintro w' rfl; go_simp; with_reducible rfl); go_simp)
  refine sched_store rfl (by rfl) (w' := w5) (by rw [← Hw5.out]; go_simp) (by kernel_rfl) ?_
  go_simp
  refine sched_done hKK4 ?_
  clear hKK4 HW4 Hw5 HU4 HV4 cp4 fp4 cq4 bu4 bt4
  go_wp2
  obtain ⟨cp5, fp5⟩ := HS5.out.drew.word d hd
  obtain ⟨cq5, _⟩ := HS5.out.drew.word a ha
  obtain ⟨u5, hu5⟩ : ∃ u, at32 l5 d = u := ⟨_, rfl⟩
  obtain ⟨t5, ht5⟩ : ∃ t, at32 l5 a = t := ⟨_, rfl⟩
  rw [hu5] at cp5
  rw [ht5] at cq5
  have bu5 := u5.isLt
  have bt5 := t5.isLt
  obtain ⟨N5, hN5⟩ : ∃ N, u5 ^^^ t5 = N := ⟨_, rfl⟩
  have HU5 : Hid (bits .xor .u64 (u5.toNat : Int) (t5.toNat : Int) = (N5.toNat : Int)) := by show _ = _; rw [xor_val64, hN5]
  obtain ⟨s5, hs5⟩ : ∃ s, rotr N5 8 = s := ⟨_, rfl⟩
  have HV5 : Hid (rotr N5 8 = s5) := hs5
  obtain ⟨sg5, gr5⟩ := seg_step HS5.out d hd s5
  obtain ⟨W5, hW5⟩ : ∃ W, w5.drew = W := ⟨_, rfl⟩
  rw [hW5] at cp5 fp5 cq5 sg5 gr5
  obtain ⟨w6, hw6⟩ : ∃ w', W5.setCell ⟨g, off + d, none⟩ (wv s5) = w' := ⟨_, rfl⟩
  rw [hw6] at sg5 gr5
  have Hw6 : Hid (W5.setCell ⟨g, off + d, none⟩ (.int .u64 (s5.toNat : Int)) = w6) := hw6
  obtain ⟨l6, hl6⟩ : ∃ l', brot l5 d a 8 = l' := ⟨_, rfl⟩
  have HE6 : Hid (brot l5 d a 8 = l6) := hl6
  have HS6 : Hid (Seg w6 47 (some ⟨g, off, none⟩) n cap (l6.map wv)) := by
    rw [← hl6]
    unfold brot
    rw [hu5, ht5, hN5, hs5]
    exact sg5
  have HG6 : Hid (w0.grownBy w6 (some g)) := HG5.out.trans gr5
  have HW5 : Hid (w5.drew = W5) := hW5
  clear sg5 gr5 hW5 hw6 hl6 hs5 hu5 ht5 hN5 HS5 HG5
  refine wp_region_sched' (G := Stays) (by kernel_rfl) Stays.refl Stays.trans (by kernel_rfl) [(0, true), (1, true), (2, true), (3, true), (4, true), (5, true), (6, true), (7, true), (8, true), (9, true), (10, true), (11, false), (12, true), (13, false)] rfl (by kernel_rfl) ?_
  intro KK5 hKK5
  rw [HW5.out]
  iterate 11 (refine sched_take rfl (by rfl) (v := ?_) ?_ ?_; rotate_left; (rintro w' rfl; go_simp; with_reducible rfl); go_simp)
  refine sched_call (f := 36) (args := #[.int .u64 (N5.toNat : Int), .int .i64 8]) rfl (by rfl) (by go_simp; rw [HU5.out]) ?_
  refine (refRight_any N5 8 _ (by omega) (by omega)).mono ?_
  rintro e w' ⟨rfl, rfl⟩
  refine ⟨_, rfl, rfl, ?_⟩
  rw [HV5.out]
  go_simp
  iterate 1 (refine sched_take rfl (by rfl) (v := ?_) ?_ ?_; rotate_left; (rintro w' rfl; go_simp; with_reducible rfl); go_simp)
  refine sched_store rfl (by rfl) (w' := w6) (by rw [← Hw6.out]; go_simp) (by kernel_rfl) ?_
  go_simp
  refine sched_done hKK5 ?_
  clear hKK5 HW5 Hw6 HU5 HV5 cp5 fp5 cq5 bu5 bt5
  go_wp2
  obtain ⟨cp6, fp6⟩ := HS6.out.drew.word c hc
  obtain ⟨cq6, _⟩ := HS6.out.drew.word d hd
  obtain ⟨u6, hu6⟩ : ∃ u, at32 l6 c = u := ⟨_, rfl⟩
  obtain ⟨t6, ht6⟩ : ∃ t, at32 l6 d = t := ⟨_, rfl⟩
  rw [hu6] at cp6
  rw [ht6] at cq6
  have bu6 := u6.isLt
  have bt6 := t6.isLt
  obtain ⟨N6, hN6⟩ : ∃ N, u6.toNat + t6.toNat = N := ⟨_, rfl⟩
  have HU6 : Hid (IntKind.u64.wrap ((u6.toNat : Int) + (t6.toNat : Int)) = (N6 : Int)) := by show _ = _; rw [IntKind.wrap_u64]; omega
  obtain ⟨s6, hs6⟩ : ∃ s, u6 + t6 = s := ⟨_, rfl⟩
  have HV6 : Hid ((N6 : Int) % 4294967296 = (s6.toNat : Int)) := by show _ = _; rw [← hN6, sum2_val, hs6]
  obtain ⟨sg6, gr6⟩ := seg_step HS6.out c hc s6
  obtain ⟨W6, hW6⟩ : ∃ W, w6.drew = W := ⟨_, rfl⟩
  rw [hW6] at cp6 fp6 cq6 sg6 gr6
  obtain ⟨w7, hw7⟩ : ∃ w', W6.setCell ⟨g, off + c, none⟩ (wv s6) = w' := ⟨_, rfl⟩
  rw [hw7] at sg6 gr6
  have Hw7 : Hid (W6.setCell ⟨g, off + c, none⟩ (.int .u64 (s6.toNat : Int)) = w7) := hw7
  obtain ⟨l7, hl7⟩ : ∃ l', badd2 l6 c d = l' := ⟨_, rfl⟩
  have HE7 : Hid (badd2 l6 c d = l7) := hl7
  have HS7 : Hid (Seg w7 47 (some ⟨g, off, none⟩) n cap (l7.map wv)) := by
    rw [← hl7]
    unfold badd2
    rw [hu6, ht6, hs6]
    exact sg6
  have HG7 : Hid (w0.grownBy w7 (some g)) := HG6.out.trans gr6
  have HW6 : Hid (w6.drew = W6) := hW6
  have hNb6 : N6 < 18446744073709551616 := by omega
  clear sg6 gr6 hW6 hw7 hl7 hs6 hu6 ht6 hN6 HS6 HG6
  refine wp_region_sched' (G := Stays) (by kernel_rfl) Stays.refl Stays.trans (by kernel_rfl) [(0, true), (1, true), (2, true), (3, true), (4, true), (5, true), (6, true), (7, true), (8, true), (9, true), (10, true), (11, false), (12, true), (13, false)] rfl (by kernel_rfl) ?_
  intro KK6 hKK6
  rw [HW6.out]
  iterate 11 (refine sched_take rfl (by rfl) (v := ?_) ?_ ?_; rotate_left; (rintro w' rfl; go_simp; with_reducible rfl); go_simp)
  refine sched_call (f := 29) (args := #[.int .u64 (N6 : Int)]) rfl (by rfl) (by go_simp; rw [HU6.out]) ?_
  refine (refCutB_any _ _ (by omega) (by omega)).mono ?_
  rintro e w' ⟨rfl, rfl⟩
  refine ⟨_, rfl, rfl, ?_⟩
  rw [HV6.out]
  go_simp
  iterate 1 (refine sched_take rfl (by rfl) (v := ?_) ?_ ?_; rotate_left; (rintro w' rfl; go_simp; with_reducible rfl); go_simp)
  refine sched_store rfl (by rfl) (w' := w7) (by rw [← Hw7.out]; go_simp) (by kernel_rfl) ?_
  go_simp
  refine sched_done hKK6 ?_
  clear hKK6 HW6 Hw7 HU6 HV6 cp6 fp6 cq6 bu6 bt6
  go_wp2
  obtain ⟨cp7, fp7⟩ := HS7.out.drew.word b hb
  obtain ⟨cq7, _⟩ := HS7.out.drew.word c hc
  obtain ⟨u7, hu7⟩ : ∃ u, at32 l7 b = u := ⟨_, rfl⟩
  obtain ⟨t7, ht7⟩ : ∃ t, at32 l7 c = t := ⟨_, rfl⟩
  rw [hu7] at cp7
  rw [ht7] at cq7
  have bu7 := u7.isLt
  have bt7 := t7.isLt
  obtain ⟨N7, hN7⟩ : ∃ N, u7 ^^^ t7 = N := ⟨_, rfl⟩
  have HU7 : Hid (bits .xor .u64 (u7.toNat : Int) (t7.toNat : Int) = (N7.toNat : Int)) := by show _ = _; rw [xor_val64, hN7]
  obtain ⟨s7, hs7⟩ : ∃ s, rotr N7 7 = s := ⟨_, rfl⟩
  have HV7 : Hid (rotr N7 7 = s7) := hs7
  obtain ⟨sg7, gr7⟩ := seg_step HS7.out b hb s7
  obtain ⟨W7, hW7⟩ : ∃ W, w7.drew = W := ⟨_, rfl⟩
  rw [hW7] at cp7 fp7 cq7 sg7 gr7
  obtain ⟨w8, hw8⟩ : ∃ w', W7.setCell ⟨g, off + b, none⟩ (wv s7) = w' := ⟨_, rfl⟩
  rw [hw8] at sg7 gr7
  have Hw8 : Hid (W7.setCell ⟨g, off + b, none⟩ (.int .u64 (s7.toNat : Int)) = w8) := hw8
  obtain ⟨l8, hl8⟩ : ∃ l', brot l7 b c 7 = l' := ⟨_, rfl⟩
  have HE8 : Hid (brot l7 b c 7 = l8) := hl8
  have HS8 : Hid (Seg w8 47 (some ⟨g, off, none⟩) n cap (l8.map wv)) := by
    rw [← hl8]
    unfold brot
    rw [hu7, ht7, hN7, hs7]
    exact sg7
  have HG8 : Hid (w0.grownBy w8 (some g)) := HG7.out.trans gr7
  have HW7 : Hid (w7.drew = W7) := hW7
  clear sg7 gr7 hW7 hw8 hl8 hs7 hu7 ht7 hN7 HS7 HG7
  refine wp_region_sched' (G := Stays) (by kernel_rfl) Stays.refl Stays.trans (by kernel_rfl) [(0, true), (1, true), (2, true), (3, true), (4, true), (5, true), (6, true), (7, true), (8, true), (9, true), (10, true), (11, false), (12, true), (13, false)] rfl (by kernel_rfl) ?_
  intro KK7 hKK7
  rw [HW7.out]
  iterate 11 (refine sched_take rfl (by rfl) (v := ?_) ?_ ?_; rotate_left; (rintro w' rfl; go_simp; with_reducible rfl); go_simp)
  refine sched_call (f := 36) (args := #[.int .u64 (N7.toNat : Int), .int .i64 7]) rfl (by rfl) (by go_simp; rw [HU7.out]) ?_
  refine (refRight_any N7 7 _ (by omega) (by omega)).mono ?_
  rintro e w' ⟨rfl, rfl⟩
  refine ⟨_, rfl, rfl, ?_⟩
  rw [HV7.out]
  go_simp
  iterate 1 (refine sched_take rfl (by rfl) (v := ?_) ?_ ?_; rotate_left; (rintro w' rfl; go_simp; with_reducible rfl); go_simp)
  refine sched_store rfl (by rfl) (w' := w8) (by rw [← Hw8.out]; go_simp) (by kernel_rfl) ?_
  go_simp
  refine sched_done hKK7 ?_
  clear hKK7 HW7 Hw8 HU7 HV7 cp7 fp7 cq7 bu7 bt7
  go_wp2
  go_end0
  refine ⟨⟨_, rfl⟩, ?_, HG8.out⟩
  have e : bmix l0 a b c d x y = l8 := by
    unfold bmix
    rw [HE1.out, HE2.out, HE3.out, HE4.out, HE5.out, HE6.out, HE7.out, HE8.out]
  rw [e]
  exact HS8.out
end Go.Proofs.YthjkjfoelekeeaaDoor
