/- The walks over the program's numbers of five digits: carry, add, times. -/
import Derived.Test.YtcnihgjibiidpaaRefPh
import Derived.Test.YtcnihgjibiidpaaFrameA
import Derived.Test.YtcnihgjibiidpaaArrB
import Derived.Test.YtcnihgjibiidpaaMathLimb
namespace Go.Proofs.Ytcnihgjibiidpaa
set_option linter.unusedVariables false
open Go.RowKit

def nv (n : Nat) : Value := .int .u64 (n : Int)
/-- A number's digits in a block of memory. -/
def Num (w : World) (g : Nat) (l : List Nat) : Prop := w.heap[g]? = some (.cells (l.map nv).toArray 51 (0, 0))
theorem Num.set {w : World} {g : Nat} {l : List Nat} (h : Num w g l) (i : Nat) (x : Nat) : Num (w.setCell ⟨g, i, none⟩ (nv x)) g (l.set i x) := by
  have := heap_setCell_same w g i _ _ (nv x) h
  unfold Num
  rw [this, List.map_set]
  simp
theorem Num.other {w : World} {g g' : Nat} {l : List Nat} (h : Num w g l) (hne : g ≠ g') (i : Nat) (v : Value) : Num (w.setCell ⟨g', i, none⟩ v) g l := by
  unfold Num
  rw [heap_setCell_other w ⟨g', i, none⟩ g v hne]
  exact h
theorem Num.drew {w : World} {g : Nat} {l : List Nat} (h : Num w g l) : Num w.drew g l := h
theorem Num.word {w : World} {g : Nat} {l : List Nat} (h : Num w g l) (i : Nat) (hi : i < l.length) :
    w.cell? ⟨g, i, none⟩ = some (.int .u64 (atD l i : Int)) ∧ w.frozen? ⟨g, i, none⟩ = false := by
  refine ⟨?_, frozen_of_row w g i _ _ h⟩
  rw [cell_of_row w g i _ _ (0, 0) h, atD_get l i hi]
  simp [hi, nv]
theorem Num.lt {w : World} {g : Nat} {l : List Nat} (h : Num w g l) : g < w.heap.size := (Array.getElem?_eq_some_iff.1 h).1
theorem Num.later {w w' : World} {g : Nat} {l : List Nat} (h : Num w g l) (hb : Below w.heap.size w w') : Num w' g l := by
  unfold Num
  rw [hb.block g h.lt]
  exact h
theorem nv_oneCell (l : List Nat) : ∀ u ∈ l.map nv, u.oneCell' = true := by
  intro u hu
  simp only [List.mem_map] at hu
  obtain ⟨c, _, rfl⟩ := hu
  rfl
theorem num_info (l : List Nat) (hl : l.length = 5) : (Try.prog.info? 51).map (·.size) = some (l.map nv).toArray.size := by
  have e1 : (Try.prog.info? 51).map (·.size) = some 5 := by kernel_rfl
  rw [e1]; simp [hl]
/-- A number, and the place of an answer. -/
structure NB (w : World) (g r : Nat) (l : List Nat) (W : World) : Prop where
  now : Num W g l
  res : Num W r [0, 0, 0, 0, 0]
  ne : g ≠ r
  bg : w.heap.size ≤ g
  br : w.heap.size ≤ r
  bel : Below w.heap.size w W
theorem NB.set {w W : World} {g r : Nat} {l : List Nat} (h : NB w g r l W) (i x : Nat) : NB w g r (l.set i x) (W.setCell ⟨g, i, none⟩ (nv x)) := by
  have hg := h.bg
  exact ⟨h.now.set i x, h.res.other (Ne.symm h.ne) i _, h.ne, h.bg, h.br, h.bel.setCell (p := ⟨g, i, none⟩) (by show _ ≤ g; omega) _⟩
theorem NB.new1 (w : World) (l : List Nat) : NB w w.heap.size (w.heap.size + 1) l ((w.alloc (.cells (l.map nv).toArray 51)).alloc (.cells #[.int .u64 0, .int .u64 0, .int .u64 0, .int .u64 0, .int .u64 0] 51)) := by
  refine ⟨?_, ?_, by omega, by omega, by omega, ?_⟩
  · unfold Num
    rw [Below.heap_alloc _ _ _ (by simp)]
    exact heap_alloc_new w _
  · have := heap_alloc_new (w.alloc (.cells (l.map nv).toArray 51)) (.cells #[.int .u64 0, .int .u64 0, .int .u64 0, .int .u64 0, .int .u64 0] 51)
    rw [World.size_alloc] at this
    exact this
  · exact ((Below.refl _ _).alloc (Nat.le_refl _) _).alloc (by simp) _

theorem and26 (n : Nat) (h : n < 18446744073709551616) : bits .and .u64 (n : Int) 67108863 = ((n % 67108864 : Nat) : Int) := by
  have e : (BitVec.ofInt 64 (n : Int) &&& BitVec.ofInt 64 67108863).toNat = n % 67108864 := by
    rw [BitVec.toNat_and, BitVec.toNat_ofInt]
    have h7 : (BitVec.ofInt 64 67108863).toNat = 2 ^ 26 - 1 := by decide
    rw [h7, Nat.and_two_pow_sub_one_eq_mod]
    omega
  show IntKind.u64.wrap ((BitVec.ofInt 64 (n : Int) &&& BitVec.ofInt 64 67108863).toNat : Int) = _
  rw [e, IntKind.wrap_u64]
  omega

set_option maxHeartbeats 400000 in
set_option maxRecDepth 100000 in
theorem carry_any (l : List Nat) (w : World) (hl : l.length = 5) (hb : ∀ x ∈ l, x < 4611686018427387904) :
    Calls Try.prog 42 #[.agg (l.map nv).toArray] w fun e w' => e = .returned (.agg ((carL l).map nv).toArray) ∧ Below w.heap.size w w' := by
  go_enter Try.func42, Try.ntmps42
  go_wp2
  refine from_world (P := Code.wp Try.prog _ _ _) (R := fun W => Hid (NB w w.heap.size (w.heap.size + 1) l W)) _ (NB.new1 w l) ?_
  intro W0 hN0
  generalize hg : w.heap.size = g at hN0 ⊢
  generalize hr : g + 1 = r at hN0 ⊢
  go_loopw [3, 5] (fun o i wr => ∃ k x : Nat, k ≤ 5 ∧ i = .int .i64 k ∧ o = .int .u64 (x : Int) ∧ Hid ((carTo l k).2 = x) ∧ Hid (NB w g r (carTo l k).1 wr)) (fun _ i _ => 5 - (intOf i).toNat)
  case atStart => exact ⟨0, 0, by omega, rfl, rfl, rfl, hN0⟩
  case round =>
    clear hN0
    obtain ⟨k, x, hk, rfl, rfl, hx, hN⟩ := hrel
    by_cases hlt : k < 5
    · have hki : (k : Int) < 5 := by omega
      obtain ⟨a, ha⟩ : ∃ a, atD (carTo l k).1 k = a := ⟨_, rfl⟩
      obtain ⟨cc, fr⟩ := hN.out.now.word k (by rw [carTo_length]; omega)
      rw [ha] at cc
      have hN1 := (hN.out.set k (a + x)).set k ((a + x) % 67108864)
      rw [List.set_set] at hN1
      have HN1 : Hid (NB w g r (carTo l (k + 1)).1 ((wr.setCell ⟨g, k, none⟩ (.int .u64 ((a + x : Nat) : Int))).setCell ⟨g, k, none⟩ (.int .u64 (((a + x) % 67108864 : Nat) : Int)))) := by rw [carTo, ha, hx.out]; exact hN1
      have hov := carTo_over l hb k
      rw [hx.out] at hov
      have hab : a < 4611686018427387904 := by rw [← ha, carTo_at l k k (Nat.le_refl _)]; exact atD_bound l _ (by omega) hb k
      have e1 : IntKind.u64.wrap ((a : Int) + (x : Int)) = ((a + x : Nat) : Int) := by rw [IntKind.wrap_u64]; omega
      have E1 : Hid (IntKind.u64.wrap ((a : Int) + (x : Int)) = ((a + x : Nat) : Int)) := e1
      have E2 : Hid (bits .and .u64 ((a + x : Nat) : Int) 67108863 = (((a + x) % 67108864 : Nat) : Int)) := and26 (a + x) (by omega)
      have E3 : Hid ((carTo l (k + 1)).2 = (a + x) / 67108864) := by rw [carTo, ha, hx.out]; rfl
      clear hN hN1 e1 hx ha hov hab
      go_wp2
      rw [E1.out, E2.out]
      exact ⟨⟨k + 1, (a + x) / 67108864, by omega, by go_num, by congr 1 <;> omega, E3, HN1⟩, by simp [intOf]; omega⟩
    · have ek : k = 5 := by omega
      subst ek
      have hkr : ¬ ((5 : Nat) : Int) < 5 := by omega
      obtain ⟨a, ha⟩ : ∃ a, atD (carTo l 5).1 0 = a := ⟨_, rfl⟩
      obtain ⟨cc, fr⟩ := hN.out.now.word 0 (by rw [carTo_length]; omega)
      rw [ha] at cc
      have hN1 := hN.out.set 0 (a + 5 * x)
      have hov := carTo_over l hb 5
      rw [hx.out] at hov
      have hab : a < 4611686018427387904 := by rw [← ha]; exact atD_bound _ _ (by omega) (carTo_lt l hb 5) 0
      have e1 : IntKind.u64.wrap ((a : Int) + 5 * (x : Int)) = ((a + 5 * x : Nat) : Int) := by rw [IntKind.wrap_u64]; omega
      obtain ⟨W1, hW1⟩ : ∃ W1, wr.setCell ⟨g, 0, none⟩ (.int .u64 (IntKind.u64.wrap ((a : Int) + 5 * (x : Int)))) = W1 := ⟨_, rfl⟩
      have hN2 : NB w g r (carL l) W1 := by rw [carL, ha, hx.out, ← hW1, e1]; exact hN1
      obtain ⟨m, hm⟩ : ∃ m, carL l = m := ⟨_, rfl⟩
      have hml : m.length = 5 := by rw [← hm, carL_length, hl]
      rw [hm] at hN2
      have HM : Hid (carL l = m) := hm
      have HN : Hid (NB w g r m W1) := hN2
      have HW1 : Hid (wr.setCell ⟨g, 0, none⟩ (.int .u64 (IntKind.u64.wrap ((a : Int) + 5 * (x : Int)))) = W1) := hW1
      have IB : Hid ((Try.prog.info? 51).map (·.size) = some (m.map nv).toArray.size) := num_info m hml
      have hst := store_row W1 r _ _ (m.map nv) HN.out.res (by simp [hml]) (nv_oneCell m)
      have hrow := setRow_heap W1 r _ (m.map nv).toArray _ _ HN.out.res
      have HBel : Hid (Below w.heap.size w (W1.setRow r (m.map nv).toArray)) := below_setRow HN.out.bel HN.out.br _
      obtain ⟨W4, hW4⟩ : ∃ W4, W1.setRow r (m.map nv).toArray = W4 := ⟨_, rfl⟩
      rw [hW4] at hst hrow HBel
      have HRow : Hid (W4.heap[r]? = some (.cells (m.map nv).toArray 51 (0, 0))) := hrow
      clear hN hN1 hN2 hW1 hrow hW4 hx ha hm hab e1 hb
      go_wp2_with (first | (rw [HW1.out]; refine wpList_load_row rfl 51 _ rfl g rfl 51 _ (0, 0) _ HN.out.now Try.underlying51 rfl IB.out ?_))
      (try simp only [Exit.inBlock, Exit.then])
      refine bodyPost_ret (results_cell_row rfl _ _ r 51 _ (0, 0) _ rfl HRow.out Try.underlying51 rfl IB.out) rfl ?_
      exact ⟨by rw [HM.out], by rw [← hg]; exact HBel.out⟩
end Go.Proofs.Ytcnihgjibiidpaa
