/- The walks over the program's mix, quarter and turn. -/
import Derived.Test.YtcnihgjibiidpaaRefF
import Derived.Test.YtcnihgjibiidpaaFrameA
import Derived.Test.YtcnihgjibiidpaaArrW
namespace Go.Proofs.Ytcnihgjibiidpaa
set_option linter.unusedVariables false
open Go.RowKit



/-- The words in a block of memory. -/
def Wds (w : World) (g : Nat) (l : List (BitVec 32)) : Prop := w.heap[g]? = some (.cells (l.map uv).toArray 84 (0, 0))
theorem Wds.set {w : World} {g : Nat} {l : List (BitVec 32)} (h : Wds w g l) (i : Nat) (x : BitVec 32) : Wds (w.setCell ⟨g, i, none⟩ (uv x)) g (l.set i x) := by
  have := heap_setCell_same w g i _ _ (uv x) h
  unfold Wds
  rw [this, List.map_set]
  simp
theorem Wds.drew {w : World} {g : Nat} {l : List (BitVec 32)} (h : Wds w g l) : Wds w.drew g l := h
theorem Wds.word {w : World} {g : Nat} {l : List (BitVec 32)} (h : Wds w g l) (i : Nat) (hi : i < l.length) :
    w.cell? ⟨g, i, none⟩ = some (.int .u32 ((at32 l i).toNat : Int)) ∧ w.frozen? ⟨g, i, none⟩ = false := by
  refine ⟨?_, frozen_of_row w g i _ _ h⟩
  rw [cell_of_row w g i _ _ (0, 0) h, at32_get l i hi]
  simp [hi, uv]
theorem Wds.lt {w : World} {g : Nat} {l : List (BitVec 32)} (h : Wds w g l) : g < w.heap.size := (Array.getElem?_eq_some_iff.1 h).1
theorem Wds.later {w w' : World} {g : Nat} {l : List (BitVec 32)} (h : Wds w g l) (hb : Below w.heap.size w w') : Wds w' g l := by
  unfold Wds
  rw [hb.block g h.lt]
  exact h
theorem xor_val32 (y z : BitVec 32) : bits .xor .u32 (y.toNat : Int) (z.toNat : Int) = ((y ^^^ z).toNat : Int) := xor_val y z

set_option maxHeartbeats 2000000 in
set_option maxRecDepth 100000 in
theorem mix_any (g : Nat) (l : List (BitVec 32)) (a b d : Nat) (s : Int) (w : World) (hS : Wds w g l) (ha : a < l.length) (hb : b < l.length) (hd : d < l.length) (had : a ≠ d) :
    Calls Try.prog 66 #[.pointer (some ⟨g, a, none⟩), .pointer (some ⟨g, b, none⟩), .pointer (some ⟨g, d, none⟩), .int .i64 s] w fun e w' => (∃ v, e = .returned v) ∧ Wds w' g (qhalf l a b d s) ∧ w.grownBy w' (some g) := by
  obtain ⟨ca, fa⟩ := hS.word a ha
  obtain ⟨cb, fb⟩ := hS.word b hb
  obtain ⟨x, hx⟩ : ∃ x, at32 l a + at32 l b = x := ⟨_, rfl⟩
  have HV : Hid ((((at32 l a).toNat : Int) + ((at32 l b).toNat : Int)) % 4294967296 = (x.toNat : Int)) := by show _ = _; rw [sum_val, hx]
  have HS1 : Hid (Wds (w.drew.setCell ⟨g, a, none⟩ (uv x)) g (l.set a x)) := hS.drew.set a _
  obtain ⟨W0, hW0⟩ : ∃ W0, w.drew = W0 := ⟨_, rfl⟩
  rw [hW0] at HS1
  obtain ⟨W, hW⟩ : ∃ W, W0.setCell ⟨g, a, none⟩ (uv x) = W := ⟨_, rfl⟩
  rw [hW] at HS1
  have ca0 : W0.cell? ⟨g, a, none⟩ = some (.int .u32 ((at32 l a).toNat : Int)) := by rw [← hW0]; exact ca
  have cb0 : W0.cell? ⟨g, b, none⟩ = some (.int .u32 ((at32 l b).toNat : Int)) := by rw [← hW0]; exact cb
  have fa0 : W0.frozen? ⟨g, a, none⟩ = false := by rw [← hW0]; exact fa
  obtain ⟨cd, fd⟩ := HS1.out.word d (by simpa using hd)
  obtain ⟨ca2, fa2⟩ := HS1.out.word a (by simpa using ha)
  rw [at32_set_same _ _ _ ha] at ca2
  rw [at32_set_other _ _ _ _ had] at cd
  obtain ⟨W1, hW1⟩ : ∃ W1, W.drew = W1 := ⟨_, rfl⟩
  obtain ⟨y, hy⟩ : ∃ y, at32 l d ^^^ x = y := ⟨_, rfl⟩
  have HY : Hid (bits .xor .u32 ((at32 l d).toNat : Int) (x.toNat : Int) = (y.toNat : Int)) := by show _ = _; rw [xor_val32, hy]
  obtain ⟨W2, hW2⟩ : ∃ W2, W1.setCell ⟨g, d, none⟩ (uv (rotl y s)) = W2 := ⟨_, rfl⟩
  have HW2 : Hid (W1.setCell ⟨g, d, none⟩ (.int .u32 ((rotl y s).toNat : Int)) = W2) := hW2
  have cd1 : W1.cell? ⟨g, d, none⟩ = some (.int .u32 ((at32 l d).toNat : Int)) := by rw [← hW1]; exact cd
  have ca1 : W1.cell? ⟨g, a, none⟩ = some (.int .u32 (x.toNat : Int)) := by rw [← hW1]; exact ca2
  have fd1 : W1.frozen? ⟨g, d, none⟩ = false := by rw [← hW1]; exact fd
  have HS2 : Hid (Wds W2 g (qhalf l a b d s)) := by
    have h1 := (HS1.out.drew).set d (rotl y s)
    rw [hW1, hW2] at h1
    show Wds _ _ _
    rw [qhalf, hx, hy]
    exact h1
  have HG : Hid (w.grownBy W2 (some g)) := by
    have k1 : W.os = w.os ∧ W.tape = w.tape ∧ W.output = w.output ∧ w.heap.size ≤ W.heap.size := by rw [← hW, ← hW0]; exact ⟨rfl, rfl, rfl, by simp⟩
    have k2 : W2.os = W.os ∧ W2.tape = W.tape ∧ W2.output = W.output ∧ W.heap.size ≤ W2.heap.size := by rw [← hW2, ← hW1]; exact ⟨rfl, rfl, rfl, by simp⟩
    refine ⟨k2.1.trans k1.1, k2.2.1.trans k1.2.1, k2.2.2.1.trans k1.2.2.1, Nat.le_trans k1.2.2.2 k2.2.2.2, fun j hj hne => ?_⟩
    have hjg : j ≠ g := fun e => hne (by rw [e])
    rw [← hW2, heap_setCell_other W1 ⟨g, d, none⟩ j _ hjg, ← hW1]
    show W.heap[j]? = _
    rw [← hW, heap_setCell_other W0 ⟨g, a, none⟩ j _ hjg, ← hW0]
    rfl
  have HW1 : Hid (W.drew = W1) := hW1
  have HW : Hid (W0.setCell ⟨g, a, none⟩ (.int .u32 (x.toNat : Int)) = W) := hW
  have HW0 : Hid (w.drew = W0) := hW0
  clear hS hW hx hW0 ca cb fa fb hW1 hW2 hy cd ca2 fd fa2
  go_enter Try.func66, Try.ntmps66
  go_wp2
  refine wp_region_sched' (G := Stays) (by kernel_rfl) Stays.refl Stays.trans (by kernel_rfl) [(0, true), (1, true), (2, true), (3, true), (4, true), (5, true), (6, true), (7, true), (8, false)] rfl (by kernel_rfl) ?_
  intro KK hKK
  rw [HW0.out]
  iterate 8 (refine sched_take rfl (by rfl) (v := ?_) ?_ ?_; rotate_left; (rintro w' rfl; go_simp; with_reducible rfl); go_simp)
  refine sched_store rfl (by rfl) (w' := W) (by rw [← HW.out]; go_simp; rw [IntKind.wrap_u32, HV.out]) (by kernel_rfl) ?_
  go_simp
  refine sched_done hKK ?_
  go_wp2
  refine wp_region_sched' (G := Stays) (by kernel_rfl) Stays.refl Stays.trans (by kernel_rfl) [(0, true), (1, true), (2, true), (3, true), (4, true), (5, true), (6, true), (7, true), (8, true), (9, false), (10, true), (11, false)] rfl (by kernel_rfl) ?_
  intro KK2 hKK2
  rw [HW1.out]
  iterate 9 (refine sched_take rfl (by rfl) (v := ?_) ?_ ?_; rotate_left; (rintro w' rfl; go_simp; with_reducible rfl); go_simp)
  refine sched_call (f := 69) (args := #[.int .u32 (y.toNat : Int), .int .i64 s]) rfl (by rfl) (by go_simp; rw [HY.out]) ?_
  refine (rot_any y s _).mono ?_
  rintro e w' ⟨rfl, rfl⟩
  refine ⟨_, rfl, rfl, ?_⟩
  go_simp
  iterate 1 (refine sched_take rfl (by rfl) (v := ?_) ?_ ?_; rotate_left; (rintro w' rfl; go_simp; with_reducible rfl); go_simp)
  refine sched_store rfl (by rfl) (w' := W2) (by rw [← HW2.out]; go_simp) (by kernel_rfl) ?_
  go_simp
  refine sched_done hKK2 ?_
  go_wp2
  go_end0
  exact ⟨⟨_, rfl⟩, HS2.out, HG.out⟩

set_option maxHeartbeats 400000 in
set_option maxRecDepth 100000 in
theorem quarter_any (g : Nat) (l : List (BitVec 32)) (a b c d : Nat) (w : World) (hS : Wds w g l) (ha : a < l.length) (hb : b < l.length) (hc : c < l.length) (hd : d < l.length) (had : a ≠ d) (hcb : c ≠ b) :
    Calls Try.prog 63 #[.pointer (some ⟨g, a, none⟩), .pointer (some ⟨g, b, none⟩), .pointer (some ⟨g, c, none⟩), .pointer (some ⟨g, d, none⟩)] w fun e w' => (∃ v, e = .returned v) ∧ Wds w' g (qtr l a b c d) ∧ w.grownBy w' (some g) := by
  have HS : Hid (Wds w g l) := hS
  clear hS
  go_enter Try.func63, Try.ntmps63
  go_wp2_with fail
  refine (mix_any g l a b d 16 _ HS.out ha hb hd had).mono ?_
  rintro e w1 ⟨⟨v, rfl⟩, h1, g1⟩
  have HS1 : Hid _ := h1
  have G1 : Hid (w.grownBy w1 (some g)) := g1
  clear h1 g1
  go_wp2_with fail
  refine (mix_any g _ c d b 12 _ HS1.out (by simpa [qhalf_length] using hc) (by simpa [qhalf_length] using hd) (by simpa [qhalf_length] using hb) hcb).mono ?_
  rintro e w2 ⟨⟨v, rfl⟩, h2, g2⟩
  have HS2 : Hid _ := h2
  have G2 : Hid (w1.grownBy w2 (some g)) := g2
  clear h2 g2
  go_wp2_with fail
  refine (mix_any g _ a b d 8 _ HS2.out (by simpa [qhalf_length] using ha) (by simpa [qhalf_length] using hb) (by simpa [qhalf_length] using hd) had).mono ?_
  rintro e w3 ⟨⟨v, rfl⟩, h3, g3⟩
  have HS3 : Hid _ := h3
  have G3 : Hid (w2.grownBy w3 (some g)) := g3
  clear h3 g3
  go_wp2_with fail
  refine (mix_any g _ c d b 7 _ HS3.out (by simpa [qhalf_length] using hc) (by simpa [qhalf_length] using hd) (by simpa [qhalf_length] using hb) hcb).mono ?_
  rintro e w4 ⟨⟨v, rfl⟩, h4, g4⟩
  have HS4 : Hid _ := h4
  have G4 : Hid (w3.grownBy w4 (some g)) := g4
  clear h4 g4
  go_wp2
  go_end0
  exact ⟨⟨_, rfl⟩, HS4.out, ((G1.out.trans G2.out).trans G3.out).trans G4.out⟩
end Go.Proofs.Ytcnihgjibiidpaa
