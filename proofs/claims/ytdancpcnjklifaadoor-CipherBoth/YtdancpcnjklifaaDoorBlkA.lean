/- The walks over the program's right and mix (blake). -/
import Derived.Test.YtdancpcnjklifaaDoorBase
import Derived.Test.YtdancpcnjklifaaDoorArrW
import Derived.Test.YtdancpcnjklifaaDoorMathX
namespace Go.Proofs.YtdancpcnjklifaaDoor
set_option linter.unusedVariables false
set_option maxRecDepth 100000
open Go.RowKit

theorem rotl_neg (x : BitVec 32) (n : Int) : rotl x (-n) = rotr x n := by
  unfold rotr rotl
  have : (32 - n) % 32 = (-n) % 32 := by omega
  rw [this]
set_option maxHeartbeats 400000 in
set_option maxRecDepth 100000 in
theorem bright_any (x : BitVec 32) (n : Int) (w : World) (h0 : 0 ≤ n) (h1 : n ≤ 32) :
    Calls Tryd.prog 95 #[.int .u32 (x.toNat : Int), .int .i64 n] w fun e w' => e = .returned (.int .u32 ((rotr x n).toNat : Int)) ∧ w' = w := by
  go_enter Tryd.func95, Tryd.ntmps95
  go_wp2_with (go_at_call 99; refine (rot_any x (-n) _).mono ?_; rintro e w' ⟨rfl, rfl⟩)
  go_ret
  refine ⟨?_, rfl⟩
  rw [rotl_neg]
  rfl
theorem add3_val (x y z : BitVec 32) : (((x.toNat : Int) + ((y.toNat : Int) + (z.toNat : Int)) % 4294967296)) % 4294967296 = ((x + y + z).toNat : Int) := by
  rw [BitVec.toNat_add, BitVec.toNat_add]; omega
theorem add2_val (x y : BitVec 32) : ((x.toNat : Int) + (y.toNat : Int)) % 4294967296 = ((x + y).toNat : Int) := by
  rw [BitVec.toNat_add]; omega

set_option maxHeartbeats 4000000 in
set_option maxRecDepth 100000 in
theorem bmix_any (g : Nat) (t : TypeId) (l0 : List (BitVec 32)) (a b c d : Nat) (x y : BitVec 32) (w0 : World) (hS : Wd w0 g t l0) (ha : a < l0.length) (hb : b < l0.length) (hc : c < l0.length) (hd : d < l0.length) :
    Calls Tryd.prog 87 #[.pointer (some ⟨g, a, none⟩), .pointer (some ⟨g, b, none⟩), .pointer (some ⟨g, c, none⟩), .pointer (some ⟨g, d, none⟩), .int .u32 (x.toNat : Int), .int .u32 (y.toNat : Int)] w0 fun e w' => (∃ v, e = .returned v) ∧ Wd w' g t (bmix l0 a b c d x y) ∧ w0.grownBy w' (some g) := by
  have HS0 : Hid (Wd w0 g t l0) := hS
  have HG0 : Hid (w0.grownBy w0 (some g)) := grownBy_refl w0 _
  obtain ⟨n, hn0⟩ : ∃ n, l0.length = n := ⟨_, rfl⟩
  rw [hn0] at ha hb hc hd
  clear hS
  go_enter Tryd.func87, Tryd.ntmps87
  go_wp2
  obtain ⟨cp0, fp0⟩ := HS0.out.drew.word a (by rw [hn0]; exact ha)
  obtain ⟨cq0, _⟩ := HS0.out.drew.word b (by rw [hn0]; exact hb)
  obtain ⟨u0, hu0⟩ : ∃ u, at32 l0 a = u := ⟨_, rfl⟩
  obtain ⟨t0, ht0⟩ : ∃ t, at32 l0 b = t := ⟨_, rfl⟩
  rw [hu0] at cp0
  rw [ht0] at cq0
  obtain ⟨s0, hs0⟩ : ∃ s, u0 + t0 + x = s := ⟨_, rfl⟩
  have HU0 : Hid (IntKind.u32.wrap ((u0.toNat : Int) + IntKind.u32.wrap ((t0.toNat : Int) + (x.toNat : Int))) = (s0.toNat : Int)) := by show _ = _; rw [IntKind.wrap_u32, IntKind.wrap_u32, add3_val, hs0]
  obtain ⟨sg0, gr0⟩ := wd_step HS0.out a s0
  obtain ⟨W0, hW0⟩ : ∃ W, w0.drew = W := ⟨_, rfl⟩
  rw [hW0] at cp0 fp0 cq0 sg0 gr0
  obtain ⟨w1, hw1⟩ : ∃ w', W0.setCell ⟨g, a, none⟩ (uv s0) = w' := ⟨_, rfl⟩
  rw [hw1] at sg0 gr0
  have Hw1 : Hid (W0.setCell ⟨g, a, none⟩ (.int .u32 (s0.toNat : Int)) = w1) := hw1
  obtain ⟨l1, hl1⟩ : ∃ l', badd3 l0 a b x = l' := ⟨_, rfl⟩
  have HE1 : Hid (badd3 l0 a b x = l1) := hl1
  have HS1 : Hid (Wd w1 g t l1) := by
    rw [← hl1]
    unfold badd3
    rw [hu0, ht0, hs0]
    exact sg0
  have hn1 : l1.length = n := by rw [← hl1]; unfold badd3; rw [List.length_set]; exact hn0
  have HG1 : Hid (w0.grownBy w1 (some g)) := HG0.out.trans gr0
  have HW0 : Hid (w0.drew = W0) := hW0
  clear sg0 gr0 hW0 hw1 hl1 hs0 hu0 ht0 HS0 HG0 hn0
  refine wp_region_sched' (G := Stays) (by kernel_rfl) Stays.refl Stays.trans (by kernel_rfl) [(0, true), (1, true), (2, true), (3, true), (4, true), (5, true), (6, true), (7, true), (8, true), (9, true), (10, false)] rfl (by kernel_rfl) ?_
  intro KK0 hKK0
  rw [HW0.out]
  iterate 10 (refine sched_take rfl (by rfl) (v := ?_) ?_ ?_; rotate_left; (rintro w' rfl; go_simp; with_reducible rfl); go_simp)
  refine sched_store rfl (by rfl) (w' := w1) (by rw [← Hw1.out]; go_simp; rw [HU0.out]) (by kernel_rfl) ?_
  go_simp
  refine sched_done hKK0 ?_
  clear hKK0 HW0 Hw1 HU0  cp0 fp0 cq0
  go_wp2
  obtain ⟨cp1, fp1⟩ := HS1.out.drew.word d (by rw [hn1]; exact hd)
  obtain ⟨cq1, _⟩ := HS1.out.drew.word a (by rw [hn1]; exact ha)
  obtain ⟨u1, hu1⟩ : ∃ u, at32 l1 d = u := ⟨_, rfl⟩
  obtain ⟨t1, ht1⟩ : ∃ t, at32 l1 a = t := ⟨_, rfl⟩
  rw [hu1] at cp1
  rw [ht1] at cq1
  obtain ⟨N1, hN1⟩ : ∃ N, u1 ^^^ t1 = N := ⟨_, rfl⟩
  have HU1 : Hid (bits .xor .u32 (u1.toNat : Int) (t1.toNat : Int) = (N1.toNat : Int)) := by show _ = _; rw [xor_uv, hN1]
  obtain ⟨s1, hs1⟩ : ∃ s, rotr N1 16 = s := ⟨_, rfl⟩
  have HV1 : Hid (rotr N1 16 = s1) := hs1
  obtain ⟨sg1, gr1⟩ := wd_step HS1.out d s1
  obtain ⟨W1, hW1⟩ : ∃ W, w1.drew = W := ⟨_, rfl⟩
  rw [hW1] at cp1 fp1 cq1 sg1 gr1
  obtain ⟨w2, hw2⟩ : ∃ w', W1.setCell ⟨g, d, none⟩ (uv s1) = w' := ⟨_, rfl⟩
  rw [hw2] at sg1 gr1
  have Hw2 : Hid (W1.setCell ⟨g, d, none⟩ (.int .u32 (s1.toNat : Int)) = w2) := hw2
  obtain ⟨l2, hl2⟩ : ∃ l', brot l1 d a 16 = l' := ⟨_, rfl⟩
  have HE2 : Hid (brot l1 d a 16 = l2) := hl2
  have HS2 : Hid (Wd w2 g t l2) := by
    rw [← hl2]
    unfold brot
    rw [hu1, ht1, hN1, hs1]
    exact sg1
  have hn2 : l2.length = n := by rw [← hl2]; unfold brot; rw [List.length_set]; exact hn1
  have HG2 : Hid (w0.grownBy w2 (some g)) := HG1.out.trans gr1
  have HW1 : Hid (w1.drew = W1) := hW1
  clear sg1 gr1 hW1 hw2 hl2 hs1 hu1 ht1 hN1 HS1 HG1 hn1
  refine wp_region_sched' (G := Stays) (by kernel_rfl) Stays.refl Stays.trans (by kernel_rfl) [(0, true), (1, true), (2, true), (3, true), (4, true), (5, true), (6, true), (7, true), (8, false), (9, true), (10, false)] rfl (by kernel_rfl) ?_
  intro KK1 hKK1
  rw [HW1.out]
  iterate 8 (refine sched_take rfl (by rfl) (v := ?_) ?_ ?_; rotate_left; (rintro w' rfl; go_simp; with_reducible rfl); go_simp)
  refine sched_call (f := 95) (args := #[.int .u32 (N1.toNat : Int), .int .i64 16]) rfl (by rfl) (by go_simp; rw [HU1.out]) ?_
  refine (bright_any N1 16 _ (by omega) (by omega)).mono ?_
  rintro e w' ⟨rfl, rfl⟩
  refine ⟨_, rfl, rfl, ?_⟩
  rw [HV1.out]
  go_simp
  iterate 1 (refine sched_take rfl (by rfl) (v := ?_) ?_ ?_; rotate_left; (rintro w' rfl; go_simp; with_reducible rfl); go_simp)
  refine sched_store rfl (by rfl) (w' := w2) (by rw [← Hw2.out]; go_simp) (by kernel_rfl) ?_
  go_simp
  refine sched_done hKK1 ?_
  clear hKK1 HW1 Hw2 HU1 HV1 cp1 fp1 cq1
  go_wp2
  obtain ⟨cp2, fp2⟩ := HS2.out.drew.word c (by rw [hn2]; exact hc)
  obtain ⟨cq2, _⟩ := HS2.out.drew.word d (by rw [hn2]; exact hd)
  obtain ⟨u2, hu2⟩ : ∃ u, at32 l2 c = u := ⟨_, rfl⟩
  obtain ⟨t2, ht2⟩ : ∃ t, at32 l2 d = t := ⟨_, rfl⟩
  rw [hu2] at cp2
  rw [ht2] at cq2
  obtain ⟨s2, hs2⟩ : ∃ s, u2 + t2 = s := ⟨_, rfl⟩
  have HU2 : Hid (IntKind.u32.wrap ((u2.toNat : Int) + (t2.toNat : Int)) = (s2.toNat : Int)) := by show _ = _; rw [IntKind.wrap_u32, add2_val, hs2]
  obtain ⟨sg2, gr2⟩ := wd_step HS2.out c s2
  obtain ⟨W2, hW2⟩ : ∃ W, w2.drew = W := ⟨_, rfl⟩
  rw [hW2] at cp2 fp2 cq2 sg2 gr2
  obtain ⟨w3, hw3⟩ : ∃ w', W2.setCell ⟨g, c, none⟩ (uv s2) = w' := ⟨_, rfl⟩
  rw [hw3] at sg2 gr2
  have Hw3 : Hid (W2.setCell ⟨g, c, none⟩ (.int .u32 (s2.toNat : Int)) = w3) := hw3
  obtain ⟨l3, hl3⟩ : ∃ l', badd2 l2 c d = l' := ⟨_, rfl⟩
  have HE3 : Hid (badd2 l2 c d = l3) := hl3
  have HS3 : Hid (Wd w3 g t l3) := by
    rw [← hl3]
    unfold badd2
    rw [hu2, ht2, hs2]
    exact sg2
  have hn3 : l3.length = n := by rw [← hl3]; unfold badd2; rw [List.length_set]; exact hn2
  have HG3 : Hid (w0.grownBy w3 (some g)) := HG2.out.trans gr2
  have HW2 : Hid (w2.drew = W2) := hW2
  clear sg2 gr2 hW2 hw3 hl3 hs2 hu2 ht2 HS2 HG2 hn2
  refine wp_region_sched' (G := Stays) (by kernel_rfl) Stays.refl Stays.trans (by kernel_rfl) [(0, true), (1, true), (2, true), (3, true), (4, true), (5, true), (6, true), (7, true), (8, false)] rfl (by kernel_rfl) ?_
  intro KK2 hKK2
  rw [HW2.out]
  iterate 8 (refine sched_take rfl (by rfl) (v := ?_) ?_ ?_; rotate_left; (rintro w' rfl; go_simp; with_reducible rfl); go_simp)
  refine sched_store rfl (by rfl) (w' := w3) (by rw [← Hw3.out]; go_simp; rw [HU2.out]) (by kernel_rfl) ?_
  go_simp
  refine sched_done hKK2 ?_
  clear hKK2 HW2 Hw3 HU2  cp2 fp2 cq2
  go_wp2
  obtain ⟨cp3, fp3⟩ := HS3.out.drew.word b (by rw [hn3]; exact hb)
  obtain ⟨cq3, _⟩ := HS3.out.drew.word c (by rw [hn3]; exact hc)
  obtain ⟨u3, hu3⟩ : ∃ u, at32 l3 b = u := ⟨_, rfl⟩
  obtain ⟨t3, ht3⟩ : ∃ t, at32 l3 c = t := ⟨_, rfl⟩
  rw [hu3] at cp3
  rw [ht3] at cq3
  obtain ⟨N3, hN3⟩ : ∃ N, u3 ^^^ t3 = N := ⟨_, rfl⟩
  have HU3 : Hid (bits .xor .u32 (u3.toNat : Int) (t3.toNat : Int) = (N3.toNat : Int)) := by show _ = _; rw [xor_uv, hN3]
  obtain ⟨s3, hs3⟩ : ∃ s, rotr N3 12 = s := ⟨_, rfl⟩
  have HV3 : Hid (rotr N3 12 = s3) := hs3
  obtain ⟨sg3, gr3⟩ := wd_step HS3.out b s3
  obtain ⟨W3, hW3⟩ : ∃ W, w3.drew = W := ⟨_, rfl⟩
  rw [hW3] at cp3 fp3 cq3 sg3 gr3
  obtain ⟨w4, hw4⟩ : ∃ w', W3.setCell ⟨g, b, none⟩ (uv s3) = w' := ⟨_, rfl⟩
  rw [hw4] at sg3 gr3
  have Hw4 : Hid (W3.setCell ⟨g, b, none⟩ (.int .u32 (s3.toNat : Int)) = w4) := hw4
  obtain ⟨l4, hl4⟩ : ∃ l', brot l3 b c 12 = l' := ⟨_, rfl⟩
  have HE4 : Hid (brot l3 b c 12 = l4) := hl4
  have HS4 : Hid (Wd w4 g t l4) := by
    rw [← hl4]
    unfold brot
    rw [hu3, ht3, hN3, hs3]
    exact sg3
  have hn4 : l4.length = n := by rw [← hl4]; unfold brot; rw [List.length_set]; exact hn3
  have HG4 : Hid (w0.grownBy w4 (some g)) := HG3.out.trans gr3
  have HW3 : Hid (w3.drew = W3) := hW3
  clear sg3 gr3 hW3 hw4 hl4 hs3 hu3 ht3 hN3 HS3 HG3 hn3
  refine wp_region_sched' (G := Stays) (by kernel_rfl) Stays.refl Stays.trans (by kernel_rfl) [(0, true), (1, true), (2, true), (3, true), (4, true), (5, true), (6, true), (7, true), (8, false), (9, true), (10, false)] rfl (by kernel_rfl) ?_
  intro KK3 hKK3
  rw [HW3.out]
  iterate 8 (refine sched_take rfl (by rfl) (v := ?_) ?_ ?_; rotate_left; (rintro w' rfl; go_simp; with_reducible rfl); go_simp)
  refine sched_call (f := 95) (args := #[.int .u32 (N3.toNat : Int), .int .i64 12]) rfl (by rfl) (by go_simp; rw [HU3.out]) ?_
  refine (bright_any N3 12 _ (by omega) (by omega)).mono ?_
  rintro e w' ⟨rfl, rfl⟩
  refine ⟨_, rfl, rfl, ?_⟩
  rw [HV3.out]
  go_simp
  iterate 1 (refine sched_take rfl (by rfl) (v := ?_) ?_ ?_; rotate_left; (rintro w' rfl; go_simp; with_reducible rfl); go_simp)
  refine sched_store rfl (by rfl) (w' := w4) (by rw [← Hw4.out]; go_simp) (by kernel_rfl) ?_
  go_simp
  refine sched_done hKK3 ?_
  clear hKK3 HW3 Hw4 HU3 HV3 cp3 fp3 cq3
  go_wp2
  obtain ⟨cp4, fp4⟩ := HS4.out.drew.word a (by rw [hn4]; exact ha)
  obtain ⟨cq4, _⟩ := HS4.out.drew.word b (by rw [hn4]; exact hb)
  obtain ⟨u4, hu4⟩ : ∃ u, at32 l4 a = u := ⟨_, rfl⟩
  obtain ⟨t4, ht4⟩ : ∃ t, at32 l4 b = t := ⟨_, rfl⟩
  rw [hu4] at cp4
  rw [ht4] at cq4
  obtain ⟨s4, hs4⟩ : ∃ s, u4 + t4 + y = s := ⟨_, rfl⟩
  have HU4 : Hid (IntKind.u32.wrap ((u4.toNat : Int) + IntKind.u32.wrap ((t4.toNat : Int) + (y.toNat : Int))) = (s4.toNat : Int)) := by show _ = _; rw [IntKind.wrap_u32, IntKind.wrap_u32, add3_val, hs4]
  obtain ⟨sg4, gr4⟩ := wd_step HS4.out a s4
  obtain ⟨W4, hW4⟩ : ∃ W, w4.drew = W := ⟨_, rfl⟩
  rw [hW4] at cp4 fp4 cq4 sg4 gr4
  obtain ⟨w5, hw5⟩ : ∃ w', W4.setCell ⟨g, a, none⟩ (uv s4) = w' := ⟨_, rfl⟩
  rw [hw5] at sg4 gr4
  have Hw5 : Hid (W4.setCell ⟨g, a, none⟩ (.int .u32 (s4.toNat : Int)) = w5) := hw5
  obtain ⟨l5, hl5⟩ : ∃ l', badd3 l4 a b y = l' := ⟨_, rfl⟩
  have HE5 : Hid (badd3 l4 a b y = l5) := hl5
  have HS5 : Hid (Wd w5 g t l5) := by
    rw [← hl5]
    unfold badd3
    rw [hu4, ht4, hs4]
    exact sg4
  have hn5 : l5.length = n := by rw [← hl5]; unfold badd3; rw [List.length_set]; exact hn4
  have HG5 : Hid (w0.grownBy w5 (some g)) := HG4.out.trans gr4
  have HW4 : Hid (w4.drew = W4) := hW4
  clear sg4 gr4 hW4 hw5 hl5 hs4 hu4 ht4 HS4 HG4 hn4
  refine wp_region_sched' (G := Stays) (by kernel_rfl) Stays.refl Stays.trans (by kernel_rfl) [(0, true), (1, true), (2, true), (3, true), (4, true), (5, true), (6, true), (7, true), (8, true), (9, true), (10, false)] rfl (by kernel_rfl) ?_
  intro KK4 hKK4
  rw [HW4.out]
  iterate 10 (refine sched_take rfl (by rfl) (v := ?_) ?_ ?_; rotate_left; (rintro w' rfl; go_simp; with_reducible rfl); go_simp)
  refine sched_store rfl (by rfl) (w' := w5) (by rw [← Hw5.out]; go_simp; rw [HU4.out]) (by kernel_rfl) ?_
  go_simp
  refine sched_done hKK4 ?_
  clear hKK4 HW4 Hw5 HU4  cp4 fp4 cq4
  go_wp2
  obtain ⟨cp5, fp5⟩ := HS5.out.drew.word d (by rw [hn5]; exact hd)
  obtain ⟨cq5, _⟩ := HS5.out.drew.word a (by rw [hn5]; exact ha)
  obtain ⟨u5, hu5⟩ : ∃ u, at32 l5 d = u := ⟨_, rfl⟩
  obtain ⟨t5, ht5⟩ : ∃ t, at32 l5 a = t := ⟨_, rfl⟩
  rw [hu5] at cp5
  rw [ht5] at cq5
  obtain ⟨N5, hN5⟩ : ∃ N, u5 ^^^ t5 = N := ⟨_, rfl⟩
  have HU5 : Hid (bits .xor .u32 (u5.toNat : Int) (t5.toNat : Int) = (N5.toNat : Int)) := by show _ = _; rw [xor_uv, hN5]
  obtain ⟨s5, hs5⟩ : ∃ s, rotr N5 8 = s := ⟨_, rfl⟩
  have HV5 : Hid (rotr N5 8 = s5) := hs5
  obtain ⟨sg5, gr5⟩ := wd_step HS5.out d s5
  obtain ⟨W5, hW5⟩ : ∃ W, w5.drew = W := ⟨_, rfl⟩
  rw [hW5] at cp5 fp5 cq5 sg5 gr5
  obtain ⟨w6, hw6⟩ : ∃ w', W5.setCell ⟨g, d, none⟩ (uv s5) = w' := ⟨_, rfl⟩
  rw [hw6] at sg5 gr5
  have Hw6 : Hid (W5.setCell ⟨g, d, none⟩ (.int .u32 (s5.toNat : Int)) = w6) := hw6
  obtain ⟨l6, hl6⟩ : ∃ l', brot l5 d a 8 = l' := ⟨_, rfl⟩
  have HE6 : Hid (brot l5 d a 8 = l6) := hl6
  have HS6 : Hid (Wd w6 g t l6) := by
    rw [← hl6]
    unfold brot
    rw [hu5, ht5, hN5, hs5]
    exact sg5
  have hn6 : l6.length = n := by rw [← hl6]; unfold brot; rw [List.length_set]; exact hn5
  have HG6 : Hid (w0.grownBy w6 (some g)) := HG5.out.trans gr5
  have HW5 : Hid (w5.drew = W5) := hW5
  clear sg5 gr5 hW5 hw6 hl6 hs5 hu5 ht5 hN5 HS5 HG5 hn5
  refine wp_region_sched' (G := Stays) (by kernel_rfl) Stays.refl Stays.trans (by kernel_rfl) [(0, true), (1, true), (2, true), (3, true), (4, true), (5, true), (6, true), (7, true), (8, false), (9, true), (10, false)] rfl (by kernel_rfl) ?_
  intro KK5 hKK5
  rw [HW5.out]
  iterate 8 (refine sched_take rfl (by rfl) (v := ?_) ?_ ?_; rotate_left; (rintro w' rfl; go_simp; with_reducible rfl); go_simp)
  refine sched_call (f := 95) (args := #[.int .u32 (N5.toNat : Int), .int .i64 8]) rfl (by rfl) (by go_simp; rw [HU5.out]) ?_
  refine (bright_any N5 8 _ (by omega) (by omega)).mono ?_
  rintro e w' ⟨rfl, rfl⟩
  refine ⟨_, rfl, rfl, ?_⟩
  rw [HV5.out]
  go_simp
  iterate 1 (refine sched_take rfl (by rfl) (v := ?_) ?_ ?_; rotate_left; (rintro w' rfl; go_simp; with_reducible rfl); go_simp)
  refine sched_store rfl (by rfl) (w' := w6) (by rw [← Hw6.out]; go_simp) (by kernel_rfl) ?_
  go_simp
  refine sched_done hKK5 ?_
  clear hKK5 HW5 Hw6 HU5 HV5 cp5 fp5 cq5
  go_wp2
  obtain ⟨cp6, fp6⟩ := HS6.out.drew.word c (by rw [hn6]; exact hc)
  obtain ⟨cq6, _⟩ := HS6.out.drew.word d (by rw [hn6]; exact hd)
  obtain ⟨u6, hu6⟩ : ∃ u, at32 l6 c = u := ⟨_, rfl⟩
  obtain ⟨t6, ht6⟩ : ∃ t, at32 l6 d = t := ⟨_, rfl⟩
  rw [hu6] at cp6
  rw [ht6] at cq6
  obtain ⟨s6, hs6⟩ : ∃ s, u6 + t6 = s := ⟨_, rfl⟩
  have HU6 : Hid (IntKind.u32.wrap ((u6.toNat : Int) + (t6.toNat : Int)) = (s6.toNat : Int)) := by show _ = _; rw [IntKind.wrap_u32, add2_val, hs6]
  obtain ⟨sg6, gr6⟩ := wd_step HS6.out c s6
  obtain ⟨W6, hW6⟩ : ∃ W, w6.drew = W := ⟨_, rfl⟩
  rw [hW6] at cp6 fp6 cq6 sg6 gr6
  obtain ⟨w7, hw7⟩ : ∃ w', W6.setCell ⟨g, c, none⟩ (uv s6) = w' := ⟨_, rfl⟩
  rw [hw7] at sg6 gr6
  have Hw7 : Hid (W6.setCell ⟨g, c, none⟩ (.int .u32 (s6.toNat : Int)) = w7) := hw7
  obtain ⟨l7, hl7⟩ : ∃ l', badd2 l6 c d = l' := ⟨_, rfl⟩
  have HE7 : Hid (badd2 l6 c d = l7) := hl7
  have HS7 : Hid (Wd w7 g t l7) := by
    rw [← hl7]
    unfold badd2
    rw [hu6, ht6, hs6]
    exact sg6
  have hn7 : l7.length = n := by rw [← hl7]; unfold badd2; rw [List.length_set]; exact hn6
  have HG7 : Hid (w0.grownBy w7 (some g)) := HG6.out.trans gr6
  have HW6 : Hid (w6.drew = W6) := hW6
  clear sg6 gr6 hW6 hw7 hl7 hs6 hu6 ht6 HS6 HG6 hn6
  refine wp_region_sched' (G := Stays) (by kernel_rfl) Stays.refl Stays.trans (by kernel_rfl) [(0, true), (1, true), (2, true), (3, true), (4, true), (5, true), (6, true), (7, true), (8, false)] rfl (by kernel_rfl) ?_
  intro KK6 hKK6
  rw [HW6.out]
  iterate 8 (refine sched_take rfl (by rfl) (v := ?_) ?_ ?_; rotate_left; (rintro w' rfl; go_simp; with_reducible rfl); go_simp)
  refine sched_store rfl (by rfl) (w' := w7) (by rw [← Hw7.out]; go_simp; rw [HU6.out]) (by kernel_rfl) ?_
  go_simp
  refine sched_done hKK6 ?_
  clear hKK6 HW6 Hw7 HU6  cp6 fp6 cq6
  go_wp2
  obtain ⟨cp7, fp7⟩ := HS7.out.drew.word b (by rw [hn7]; exact hb)
  obtain ⟨cq7, _⟩ := HS7.out.drew.word c (by rw [hn7]; exact hc)
  obtain ⟨u7, hu7⟩ : ∃ u, at32 l7 b = u := ⟨_, rfl⟩
  obtain ⟨t7, ht7⟩ : ∃ t, at32 l7 c = t := ⟨_, rfl⟩
  rw [hu7] at cp7
  rw [ht7] at cq7
  obtain ⟨N7, hN7⟩ : ∃ N, u7 ^^^ t7 = N := ⟨_, rfl⟩
  have HU7 : Hid (bits .xor .u32 (u7.toNat : Int) (t7.toNat : Int) = (N7.toNat : Int)) := by show _ = _; rw [xor_uv, hN7]
  obtain ⟨s7, hs7⟩ : ∃ s, rotr N7 7 = s := ⟨_, rfl⟩
  have HV7 : Hid (rotr N7 7 = s7) := hs7
  obtain ⟨sg7, gr7⟩ := wd_step HS7.out b s7
  obtain ⟨W7, hW7⟩ : ∃ W, w7.drew = W := ⟨_, rfl⟩
  rw [hW7] at cp7 fp7 cq7 sg7 gr7
  obtain ⟨w8, hw8⟩ : ∃ w', W7.setCell ⟨g, b, none⟩ (uv s7) = w' := ⟨_, rfl⟩
  rw [hw8] at sg7 gr7
  have Hw8 : Hid (W7.setCell ⟨g, b, none⟩ (.int .u32 (s7.toNat : Int)) = w8) := hw8
  obtain ⟨l8, hl8⟩ : ∃ l', brot l7 b c 7 = l' := ⟨_, rfl⟩
  have HE8 : Hid (brot l7 b c 7 = l8) := hl8
  have HS8 : Hid (Wd w8 g t l8) := by
    rw [← hl8]
    unfold brot
    rw [hu7, ht7, hN7, hs7]
    exact sg7
  have hn8 : l8.length = n := by rw [← hl8]; unfold brot; rw [List.length_set]; exact hn7
  have HG8 : Hid (w0.grownBy w8 (some g)) := HG7.out.trans gr7
  have HW7 : Hid (w7.drew = W7) := hW7
  clear sg7 gr7 hW7 hw8 hl8 hs7 hu7 ht7 hN7 HS7 HG7 hn7
  refine wp_region_sched' (G := Stays) (by kernel_rfl) Stays.refl Stays.trans (by kernel_rfl) [(0, true), (1, true), (2, true), (3, true), (4, true), (5, true), (6, true), (7, true), (8, false), (9, true), (10, false)] rfl (by kernel_rfl) ?_
  intro KK7 hKK7
  rw [HW7.out]
  iterate 8 (refine sched_take rfl (by rfl) (v := ?_) ?_ ?_; rotate_left; (rintro w' rfl; go_simp; with_reducible rfl); go_simp)
  refine sched_call (f := 95) (args := #[.int .u32 (N7.toNat : Int), .int .i64 7]) rfl (by rfl) (by go_simp; rw [HU7.out]) ?_
  refine (bright_any N7 7 _ (by omega) (by omega)).mono ?_
  rintro e w' ⟨rfl, rfl⟩
  refine ⟨_, rfl, rfl, ?_⟩
  rw [HV7.out]
  go_simp
  iterate 1 (refine sched_take rfl (by rfl) (v := ?_) ?_ ?_; rotate_left; (rintro w' rfl; go_simp; with_reducible rfl); go_simp)
  refine sched_store rfl (by rfl) (w' := w8) (by rw [← Hw8.out]; go_simp) (by kernel_rfl) ?_
  go_simp
  refine sched_done hKK7 ?_
  clear hKK7 HW7 Hw8 HU7 HV7 cp7 fp7 cq7
  go_wp2
  go_end0
  refine ⟨⟨_, rfl⟩, ?_, HG8.out⟩
  have e : bmix l0 a b c d x y = l8 := by
    unfold bmix
    rw [HE1.out, HE2.out, HE3.out, HE4.out, HE5.out, HE6.out, HE7.out, HE8.out]
  rw [e]
  exact HS8.out
end Go.Proofs.YtdancpcnjklifaaDoor
