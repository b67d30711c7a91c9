/- The walks over the document's block and stream. -/
import Derived.Test.YtcnihgjibiidpaaRefG
import Derived.Test.YtcnihgjibiidpaaMathCha
namespace Go.Proofs.Ytcnihgjibiidpaa
set_option linter.unusedVariables false
open Go.RowKit

/-- A word of 32 bits as a number of 64. -/
def wv (x : BitVec 32) : Value := .int .u64 (x.toNat : Int)

set_option maxHeartbeats 400000 in
set_option maxRecDepth 100000 in
theorem refCut_any (x : Int) (w : World) (h0 : 0 ≤ x) (h1 : x < 18446744073709551616) :
    Calls Try.prog 67 #[.int .u64 x] w fun e w' => e = .returned (.int .u64 (x % 4294967296)) ∧ w' = w := by
  go_enter Try.func67, Try.ntmps67
  go_wp2
  go_ret
  exact ⟨rfl, rfl⟩
set_option maxHeartbeats 400000 in
set_option maxRecDepth 100000 in
theorem refTurn_any (x : BitVec 32) (n : Int) (w : World) :
    Calls Try.prog 68 #[.int .u64 (x.toNat : Int), .int .i64 n] w fun e w' => e = .returned (.int .u64 ((rotl x n).toNat : Int)) ∧ w' = w := by
  have hx := x.isLt
  go_enter Try.func68, Try.ntmps68
  go_wp2_with (go_at_call 70; refine (refRot_any x n _).mono ?_; rintro e w' ⟨rfl, rfl⟩)
  go_ret
  exact ⟨rfl, rfl⟩

theorem Seg.word {w : World} {g off n cap : Nat} {l : List (BitVec 32)} (h : Seg w 33 (some ⟨g, off, none⟩) n cap (l.map wv)) (i : Nat) (hi : i < n) :
    w.cell? ⟨g, off + i, none⟩ = some (.int .u64 ((at32 l i).toNat : Int)) ∧ w.frozen? ⟨g, off + i, none⟩ = false := by
  have hl := h.1
  rw [List.length_map] at hl
  obtain ⟨g', off', e, hc, hf⟩ := h.cell i hi
  cases e
  refine ⟨?_, hf⟩
  rw [hc, List.getElem?_map, List.getElem?_eq_getElem (by omega), at32_get l i (by omega)]
  rfl
theorem sum_val (x y : BitVec 32) : ((x.toNat : Int) + (y.toNat : Int)) % 4294967296 = ((x + y).toNat : Int) := by
  rw [BitVec.toNat_add]; omega
theorem xor_val64 (y z : BitVec 32) : bits .xor .u64 (y.toNat : Int) (z.toNat : Int) = ((y ^^^ z).toNat : Int) := by
  rw [u64_xor_nat _ _ (by have := y.isLt; omega) (by have := z.isLt; omega), BitVec.toNat_xor]

set_option maxHeartbeats 2000000 in
set_option maxRecDepth 100000 in
theorem refHalf_any (g off cap n : Nat) (l : List (BitVec 32)) (a b d : Nat) (s : Int) (w : World) (hS : Seg w 33 (some ⟨g, off, none⟩) n cap (l.map wv)) (ha : a < n) (hb : b < n) (hd : d < n) (had : a ≠ d) :
    Calls Try.prog 65 #[.slice (some ⟨g, off, none⟩) n cap, .int .i64 a, .int .i64 b, .int .i64 d, .int .i64 s] w fun e w' => (∃ v, e = .returned v) ∧ Seg w' 33 (some ⟨g, off, none⟩) n cap ((qhalf l a b d s).map wv) ∧ w.grownBy w' (some g) := by
  have hl : l.length = n := by have := hS.1; simpa using this
  obtain ⟨ca, fa⟩ := hS.word a ha
  obtain ⟨cb, fb⟩ := hS.word b hb
  obtain ⟨x, hx⟩ : ∃ x, at32 l a + at32 l b = x := ⟨_, rfl⟩
  have HX : Hid (((at32 l a).toNat : Int) + ((at32 l b).toNat : Int) < 18446744073709551616) := by have := (at32 l a).isLt; have := (at32 l b).isLt; show _ < _; omega
  have HU : Hid (IntKind.u64.wrap (((at32 l a).toNat : Int) + ((at32 l b).toNat : Int)) = ((at32 l a).toNat : Int) + ((at32 l b).toNat : Int)) := by have := HX.out; show _ = _; rw [IntKind.wrap_u64]; omega
  have HV : Hid ((((at32 l a).toNat : Int) + ((at32 l b).toNat : Int)) % 4294967296 = (x.toNat : Int)) := by show _ = _; rw [sum_val, hx]
  have HS1 : Hid (Seg (w.drew.setCell ⟨g, off + a, none⟩ (wv x)) 33 (some ⟨g, off, none⟩) n cap ((l.set a x).map wv)) := by
    rw [List.map_set]
    exact hS.drew.set a ha _
  obtain ⟨W0, hW0⟩ : ∃ W0, w.drew = W0 := ⟨_, rfl⟩
  rw [hW0] at HS1
  obtain ⟨W, hW⟩ : ∃ W, W0.setCell ⟨g, off + a, none⟩ (wv x) = W := ⟨_, rfl⟩
  rw [hW] at HS1
  have ca0 : W0.cell? ⟨g, off + a, none⟩ = some (.int .u64 ((at32 l a).toNat : Int)) := by rw [← hW0]; exact ca
  have cb0 : W0.cell? ⟨g, off + b, none⟩ = some (.int .u64 ((at32 l b).toNat : Int)) := by rw [← hW0]; exact cb
  have fa0 : W0.frozen? ⟨g, off + a, none⟩ = false := by rw [← hW0]; exact fa
  obtain ⟨cd, fd⟩ := HS1.out.word d hd
  obtain ⟨ca2, fa2⟩ := HS1.out.word a ha
  rw [at32_set_same _ _ _ (by omega)] at ca2
  rw [at32_set_other _ _ _ _ had] at cd
  obtain ⟨W1, hW1⟩ : ∃ W1, W.drew = W1 := ⟨_, rfl⟩
  obtain ⟨y, hy⟩ : ∃ y, at32 l d ^^^ x = y := ⟨_, rfl⟩
  have HY : Hid (bits .xor .u64 ((at32 l d).toNat : Int) (x.toNat : Int) = (y.toNat : Int)) := by show _ = _; rw [xor_val64, hy]
  obtain ⟨W2, hW2⟩ : ∃ W2, W1.setCell ⟨g, off + d, none⟩ (wv (rotl y s)) = W2 := ⟨_, rfl⟩
  have HW2 : Hid (W1.setCell ⟨g, off + d, none⟩ (.int .u64 ((rotl y s).toNat : Int)) = W2) := hW2
  have cd1 : W1.cell? ⟨g, off + d, none⟩ = some (.int .u64 ((at32 l d).toNat : Int)) := by rw [← hW1]; exact cd
  have ca1 : W1.cell? ⟨g, off + a, none⟩ = some (.int .u64 (x.toNat : Int)) := by rw [← hW1]; exact ca2
  have fd1 : W1.frozen? ⟨g, off + d, none⟩ = false := by rw [← hW1]; exact fd
  have HS2 : Hid (Seg W2 33 (some ⟨g, off, none⟩) n cap ((qhalf l a b d s).map wv)) := by
    have h1 := (HS1.out.drew).set d hd (wv (rotl y s))
    rw [hW1, hW2] at h1
    rw [qhalf, hx, hy, List.map_set]
    exact h1
  have HG : Hid (w.grownBy W2 (some g)) := by
    have k1 : W.os = w.os ∧ W.tape = w.tape ∧ W.output = w.output ∧ w.heap.size ≤ W.heap.size := by rw [← hW, ← hW0]; exact ⟨rfl, rfl, rfl, by simp⟩
    have k2 : W2.os = W.os ∧ W2.tape = W.tape ∧ W2.output = W.output ∧ W.heap.size ≤ W2.heap.size := by rw [← hW2, ← hW1]; exact ⟨rfl, rfl, rfl, by simp⟩
    refine ⟨k2.1.trans k1.1, k2.2.1.trans k1.2.1, k2.2.2.1.trans k1.2.2.1, Nat.le_trans k1.2.2.2 k2.2.2.2, fun j hj hne => ?_⟩
    have hjg : j ≠ g := fun e => hne (by rw [e])
    rw [← hW2, heap_setCell_other W1 ⟨g, off + d, none⟩ j _ hjg, ← hW1]
    show W.heap[j]? = _
    rw [← hW, heap_setCell_other W0 ⟨g, off + a, none⟩ j _ hjg, ← hW0]
    rfl
  have HW1 : Hid (W.drew = W1) := hW1
  have HW : Hid (W0.setCell ⟨g, off + a, none⟩ (.int .u64 (x.toNat : Int)) = W) := hW
  have HW0 : Hid (w.drew = W0) := hW0
  have hs : Hid (Seg w 33 (some ⟨g, off, none⟩) n cap (l.map wv)) := hS
  have i1 : (a : Int) < (n : Int) := by omega
  have i2 : (b : Int) < (n : Int) := by omega
  have i3 : (d : Int) < (n : Int) := by omega
  clear hS hW hx hW0 ca cb fa fb hW1 hW2 hy cd ca2 fd fa2
  go_enter Try.func65, Try.ntmps65
  go_wp2
  refine wp_region_sched' (G := Stays) (by kernel_rfl) Stays.refl Stays.trans (by kernel_rfl) [(0, true), (1, true), (2, true), (3, true), (4, true), (5, true), (6, true), (7, true), (8, true), (9, true), (10, true), (11, false), (12, true), (13, false)] rfl (by kernel_rfl) ?_
  intro KK hKK
  rw [HW0.out]
  iterate 11 (refine sched_take rfl (by rfl) (v := ?_) ?_ ?_; rotate_left; (rintro w' rfl; go_simp; with_reducible rfl); go_simp)
  refine sched_call (f := 67) (args := #[.int .u64 (((at32 l a).toNat : Int) + ((at32 l b).toNat : Int))]) rfl (by rfl) (by go_simp; rw [HU.out]) ?_
  refine (refCut_any _ _ (by omega) HX.out).mono ?_
  rintro e w' ⟨rfl, rfl⟩
  refine ⟨_, rfl, rfl, ?_⟩
  rw [HV.out]
  go_simp
  iterate 1 (refine sched_take rfl (by rfl) (v := ?_) ?_ ?_; rotate_left; (rintro w' rfl; go_simp; with_reducible rfl); go_simp)
  refine sched_store rfl (by rfl) (w' := W) (by rw [← HW.out]; go_simp) (by kernel_rfl) ?_
  go_simp
  refine sched_done hKK ?_
  go_wp2
  refine wp_region_sched' (G := Stays) (by kernel_rfl) Stays.refl Stays.trans (by kernel_rfl) [(0, true), (1, true), (2, true), (3, true), (4, true), (5, true), (6, true), (7, true), (8, true), (9, true), (10, true), (11, true), (12, false), (13, true), (14, false)] rfl (by kernel_rfl) ?_
  intro KK2 hKK2
  rw [HW1.out]
  iterate 12 (refine sched_take rfl (by rfl) (v := ?_) ?_ ?_; rotate_left; (rintro w' rfl; go_simp; with_reducible rfl); go_simp)
  refine sched_call (f := 68) (args := #[.int .u64 (y.toNat : Int), .int .i64 s]) rfl (by rfl) (by go_simp; rw [HY.out]) ?_
  refine (refTurn_any y s _).mono ?_
  rintro e w' ⟨rfl, rfl⟩
  refine ⟨_, rfl, rfl, ?_⟩
  go_simp
  iterate 1 (refine sched_take rfl (by rfl) (v := ?_) ?_ ?_; rotate_left; (rintro w' rfl; go_simp; with_reducible rfl); go_simp)
  refine sched_store rfl (by rfl) (w' := W2) (by rw [← HW2.out]; go_simp) (by kernel_rfl) ?_
  go_simp
  refine sched_done hKK2 ?_
  go_wp2
  go_end0
  exact ⟨⟨_, rfl⟩, HS2.out, HG.out⟩

set_option maxHeartbeats 400000 in
set_option maxRecDepth 100000 in
theorem refQuarter_any (g off cap n : Nat) (l : List (BitVec 32)) (a b c d : Nat) (w : World) (hS : Seg w 33 (some ⟨g, off, none⟩) n cap (l.map wv)) (ha : a < n) (hb : b < n) (hc : c < n) (hd : d < n) (had : a ≠ d) (hcb : c ≠ b) :
    Calls Try.prog 61 #[.slice (some ⟨g, off, none⟩) n cap, .int .i64 a, .int .i64 b, .int .i64 c, .int .i64 d] w fun e w' => (∃ v, e = .returned v) ∧ Seg w' 33 (some ⟨g, off, none⟩) n cap ((qtr l a b c d).map wv) ∧ w.grownBy w' (some g) := by
  have HS : Hid (Seg w 33 (some ⟨g, off, none⟩) n cap (l.map wv)) := hS
  clear hS
  go_enter Try.func61, Try.ntmps61
  go_wp2_with fail
  refine (refHalf_any g off cap n l a b d 16 _ HS.out ha hb hd had).mono ?_
  rintro e w1 ⟨⟨v, rfl⟩, h1, g1⟩
  have HS1 : Hid _ := h1
  have G1 : Hid (w.grownBy w1 (some g)) := g1
  clear h1 g1
  go_wp2_with fail
  refine (refHalf_any g off cap n _ c d b 12 _ HS1.out hc hd hb hcb).mono ?_
  rintro e w2 ⟨⟨v, rfl⟩, h2, g2⟩
  have HS2 : Hid _ := h2
  have G2 : Hid (w1.grownBy w2 (some g)) := g2
  clear h2 g2
  go_wp2_with fail
  refine (refHalf_any g off cap n _ a b d 8 _ HS2.out ha hb hd had).mono ?_
  rintro e w3 ⟨⟨v, rfl⟩, h3, g3⟩
  have HS3 : Hid _ := h3
  have G3 : Hid (w2.grownBy w3 (some g)) := g3
  clear h3 g3
  go_wp2_with fail
  refine (refHalf_any g off cap n _ c d b 7 _ HS3.out hc hd hb hcb).mono ?_
  rintro e w4 ⟨⟨v, rfl⟩, h4, g4⟩
  have HS4 : Hid _ := h4
  have G4 : Hid (w3.grownBy w4 (some g)) := g4
  clear h4 g4
  go_wp2
  go_end0
  exact ⟨⟨_, rfl⟩, HS4.out, ((G1.out.trans G2.out).trans G3.out).trans G4.out⟩
end Go.Proofs.Ytcnihgjibiidpaa
