/- Several texts laid together. -/
import Derived.Test.YtdancpcnjklifaaDoorRefP
import Derived.Test.YtdancpcnjklifaaDoorBase
import Derived.Test.YtdancpcnjklifaaDoorArrB
import Derived.Test.YtdancpcnjklifaaDoorMathX
import Derived.Laws.Externs
/- The walks over the program's numbers of five digits: carry, add, times. -/
namespace Go.Proofs.YtdancpcnjklifaaDoor
set_option linter.unusedVariables false
set_option maxRecDepth 100000
open Go.RowKit

def nv (n : Nat) : Value := .int .u64 (n : Int)
/-- A number's digits in a block of memory. -/
def Num (w : World) (g : Nat) (l : List Nat) : Prop := w.heap[g]? = some (.cells (l.map nv).toArray 100 (0, 0))
theorem Num.set {w : World} {g : Nat} {l : List Nat} (h : Num w g l) (i : Nat) (x : Nat) : Num (w.setCell ⟨g, i, none⟩ (nv x)) g (l.set i x) := by
  have := heap_setCell_same w g i _ _ (nv x) h
  unfold Num
  rw [this, List.map_set]
  simp
theorem Num.other {w : World} {g g' : Nat} {l : List Nat} (h : Num w g l) (hne : g ≠ g') (i : Nat) (v : Value) : Num (w.setCell ⟨g', i, none⟩ v) g l := by
  unfold Num
  rw [heap_setCell_other w ⟨g', i, none⟩ g v hne]
  exact h
theorem Num.drew {w : World} {g : Nat} {l : List Nat} (h : Num w g l) : Num w.drew g l := h
theorem Num.word {w : World} {g : Nat} {l : List Nat} (h : Num w g l) (i : Nat) (hi : i < l.length) :
    w.cell? ⟨g, i, none⟩ = some (.int .u64 (atD l i : Int)) ∧ w.frozen? ⟨g, i, none⟩ = false := by
  refine ⟨?_, frozen_of_row w g i _ _ h⟩
  rw [cell_of_row w g i _ _ (0, 0) h, atD_get l i hi]
  simp [hi, nv]
theorem Num.lt {w : World} {g : Nat} {l : List Nat} (h : Num w g l) : g < w.heap.size := (Array.getElem?_eq_some_iff.1 h).1
theorem Num.later {w w' : World} {g : Nat} {l : List Nat} (h : Num w g l) (hb : Below w.heap.size w w') : Num w' g l := by
  unfold Num
  rw [hb.block g h.lt]
  exact h
theorem nv_oneCell (l : List Nat) : ∀ u ∈ l.map nv, u.oneCell' = true := by
  intro u hu
  simp only [List.mem_map] at hu
  obtain ⟨c, _, rfl⟩ := hu
  rfl
theorem num_info (l : List Nat) (hl : l.length = 5) : (Tryd.prog.info? 100).map (·.size) = some (l.map nv).toArray.size := by
  have e1 : (Tryd.prog.info? 100).map (·.size) = some 5 := by kernel_rfl
  rw [e1]; simp [hl]
/-- A number, and the place of an answer. -/
structure NB (w : World) (g r : Nat) (l : List Nat) (W : World) : Prop where
  now : Num W g l
  res : Num W r [0, 0, 0, 0, 0]
  ne : g ≠ r
  bg : w.heap.size ≤ g
  br : w.heap.size ≤ r
  bel : Below w.heap.size w W
theorem NB.set {w W : World} {g r : Nat} {l : List Nat} (h : NB w g r l W) (i x : Nat) : NB w g r (l.set i x) (W.setCell ⟨g, i, none⟩ (nv x)) := by
  have hg := h.bg
  exact ⟨h.now.set i x, h.res.other (Ne.symm h.ne) i _, h.ne, h.bg, h.br, h.bel.setCell (p := ⟨g, i, none⟩) (by show _ ≤ g; omega) _⟩
theorem NB.new1 (w : World) (l : List Nat) : NB w w.heap.size (w.heap.size + 1) l ((w.alloc (.cells (l.map nv).toArray 100)).alloc (.cells #[.int .u64 0, .int .u64 0, .int .u64 0, .int .u64 0, .int .u64 0] 100)) := by
  refine ⟨?_, ?_, by omega, by omega, by omega, ?_⟩
  · unfold Num
    rw [Below.heap_alloc _ _ _ (by simp)]
    exact heap_alloc_new w _
  · have := heap_alloc_new (w.alloc (.cells (l.map nv).toArray 100)) (.cells #[.int .u64 0, .int .u64 0, .int .u64 0, .int .u64 0, .int .u64 0] 100)
    rw [World.size_alloc] at this
    exact this
  · exact ((Below.refl _ _).alloc (Nat.le_refl _) _).alloc (by simp) _

theorem and26 (n : Nat) (h : n < 18446744073709551616) : bits .and .u64 (n : Int) 67108863 = ((n % 67108864 : Nat) : Int) := by
  have e : (BitVec.ofInt 64 (n : Int) &&& BitVec.ofInt 64 67108863).toNat = n % 67108864 := by
    rw [BitVec.toNat_and, BitVec.toNat_ofInt]
    have h7 : (BitVec.ofInt 64 67108863).toNat = 2 ^ 26 - 1 := by decide
    rw [h7, Nat.and_two_pow_sub_one_eq_mod]
    omega
  show IntKind.u64.wrap ((BitVec.ofInt 64 (n : Int) &&& BitVec.ofInt 64 67108863).toNat : Int) = _
  rw [e, IntKind.wrap_u64]
  omega

set_option maxHeartbeats 400000 in
set_option maxRecDepth 100000 in
theorem carry_any (l : List Nat) (w : World) (hl : l.length = 5) (hb : ∀ x ∈ l, x < 4611686018427387904) :
    Calls Tryd.prog 84 #[.agg (l.map nv).toArray] w fun e w' => e = .returned (.agg ((carL l).map nv).toArray) ∧ Below w.heap.size w w' := by
  go_enter Tryd.func84, Tryd.ntmps84
  go_wp2
  refine from_world (P := Code.wp Tryd.prog _ _ _) (R := fun W => Hid (NB w w.heap.size (w.heap.size + 1) l W)) _ (NB.new1 w l) ?_
  intro W0 hN0
  generalize hg : w.heap.size = g at hN0 ⊢
  generalize hr : g + 1 = r at hN0 ⊢
  go_loopw [3, 5] (fun o i wr => ∃ k x : Nat, k ≤ 5 ∧ i = .int .i64 k ∧ o = .int .u64 (x : Int) ∧ Hid ((carTo l k).2 = x) ∧ Hid (NB w g r (carTo l k).1 wr)) (fun _ i _ => 5 - (intOf i).toNat)
  case atStart => exact ⟨0, 0, by omega, rfl, rfl, rfl, hN0⟩
  case round =>
    clear hN0
    obtain ⟨k, x, hk, rfl, rfl, hx, hN⟩ := hrel
    by_cases hlt : k < 5
    · have hki : (k : Int) < 5 := by omega
      obtain ⟨a, ha⟩ : ∃ a, atD (carTo l k).1 k = a := ⟨_, rfl⟩
      obtain ⟨cc, fr⟩ := hN.out.now.word k (by rw [carTo_length]; omega)
      rw [ha] at cc
      have hN1 := (hN.out.set k (a + x)).set k ((a + x) % 67108864)
      rw [List.set_set] at hN1
      have HN1 : Hid (NB w g r (carTo l (k + 1)).1 ((wr.setCell ⟨g, k, none⟩ (.int .u64 ((a + x : Nat) : Int))).setCell ⟨g, k, none⟩ (.int .u64 (((a + x) % 67108864 : Nat) : Int)))) := by rw [carTo, ha, hx.out]; exact hN1
      have hov := carTo_over l hb k
      rw [hx.out] at hov
      have hab : a < 4611686018427387904 := by rw [← ha, carTo_at l k k (Nat.le_refl _)]; exact atD_bound l _ (by omega) hb k
      have e1 : IntKind.u64.wrap ((a : Int) + (x : Int)) = ((a + x : Nat) : Int) := by rw [IntKind.wrap_u64]; omega
      have E1 : Hid (IntKind.u64.wrap ((a : Int) + (x : Int)) = ((a + x : Nat) : Int)) := e1
      have E2 : Hid (bits .and .u64 ((a + x : Nat) : Int) 67108863 = (((a + x) % 67108864 : Nat) : Int)) := and26 (a + x) (by omega)
      have E3 : Hid ((carTo l (k + 1)).2 = (a + x) / 67108864) := by rw [carTo, ha, hx.out]; rfl
      clear hN hN1 e1 hx ha hov hab
      go_wp2
      rw [E1.out, E2.out]
      exact ⟨⟨k + 1, (a + x) / 67108864, by omega, by go_num, by congr 1 <;> omega, E3, HN1⟩, by simp [intOf]; omega⟩
    · have ek : k = 5 := by omega
      subst ek
      have hkr : ¬ ((5 : Nat) : Int) < 5 := by omega
      obtain ⟨a, ha⟩ : ∃ a, atD (carTo l 5).1 0 = a := ⟨_, rfl⟩
      obtain ⟨cc, fr⟩ := hN.out.now.word 0 (by rw [carTo_length]; omega)
      rw [ha] at cc
      have hN1 := hN.out.set 0 (a + 5 * x)
      have hov := carTo_over l hb 5
      rw [hx.out] at hov
      have hab : a < 4611686018427387904 := by rw [← ha]; exact atD_bound _ _ (by omega) (carTo_lt l hb 5) 0
      have e1 : IntKind.u64.wrap ((a : Int) + 5 * (x : Int)) = ((a + 5 * x : Nat) : Int) := by rw [IntKind.wrap_u64]; omega
      obtain ⟨W1, hW1⟩ : ∃ W1, wr.setCell ⟨g, 0, none⟩ (.int .u64 (IntKind.u64.wrap ((a : Int) + 5 * (x : Int)))) = W1 := ⟨_, rfl⟩
      have hN2 : NB w g r (carL l) W1 := by rw [carL, ha, hx.out, ← hW1, e1]; exact hN1
      obtain ⟨m, hm⟩ : ∃ m, carL l = m := ⟨_, rfl⟩
      have hml : m.length = 5 := by rw [← hm, carL_length, hl]
      rw [hm] at hN2
      have HM : Hid (carL l = m) := hm
      have HN : Hid (NB w g r m W1) := hN2
      have HW1 : Hid (wr.setCell ⟨g, 0, none⟩ (.int .u64 (IntKind.u64.wrap ((a : Int) + 5 * (x : Int)))) = W1) := hW1
      have IB : Hid ((Tryd.prog.info? 100).map (·.size) = some (m.map nv).toArray.size) := num_info m hml
      have hst := store_row W1 r _ _ (m.map nv) HN.out.res (by simp [hml]) (nv_oneCell m)
      have hrow := setRow_heap W1 r _ (m.map nv).toArray _ _ HN.out.res
      have HBel : Hid (Below w.heap.size w (W1.setRow r (m.map nv).toArray)) := below_setRow HN.out.bel HN.out.br _
      obtain ⟨W4, hW4⟩ : ∃ W4, W1.setRow r (m.map nv).toArray = W4 := ⟨_, rfl⟩
      rw [hW4] at hst hrow HBel
      have HRow : Hid (W4.heap[r]? = some (.cells (m.map nv).toArray 100 (0, 0))) := hrow
      clear hN hN1 hN2 hW1 hrow hW4 hx ha hm hab e1 hb
      go_wp2_with (first | (rw [HW1.out]; refine wpList_load_row rfl 100 _ rfl g rfl 100 _ (0, 0) _ HN.out.now Tryd.underlying100 rfl IB.out ?_))
      (try simp only [Exit.inBlock, Exit.then])
      refine bodyPost_ret (results_cell_row rfl _ _ r 100 _ (0, 0) _ rfl HRow.out Tryd.underlying100 rfl IB.out) rfl ?_
      exact ⟨by rw [HM.out], by rw [← hg]; exact HBel.out⟩
end Go.Proofs.YtdancpcnjklifaaDoor

/- The walks over the program's add and times. -/
namespace Go.Proofs.YtdancpcnjklifaaDoor
set_option linter.unusedVariables false
set_option maxRecDepth 100000
open Go.RowKit

/-- A number that changes, one that stays, and the place of an answer. -/
structure N3 (w : World) (g h r : Nat) (l m : List Nat) (W : World) : Prop where
  now : Num W g l
  oth : Num W h m
  res : Num W r [0, 0, 0, 0, 0]
  nh : h ≠ g
  nr : r ≠ g
  bg : w.heap.size ≤ g
  br : w.heap.size ≤ r
  bel : Below w.heap.size w W
theorem N3.set {w W : World} {g h r : Nat} {l m : List Nat} (t : N3 w g h r l m W) (i x : Nat) : N3 w g h r (l.set i x) m (W.setCell ⟨g, i, none⟩ (nv x)) := by
  have hg := t.bg
  exact ⟨t.now.set i x, t.oth.other t.nh i _, t.res.other t.nr i _, t.nh, t.nr, t.bg, t.br, t.bel.setCell (p := ⟨g, i, none⟩) (by show _ ≤ g; omega) _⟩
theorem N3.drew {w W : World} {g h r : Nat} {l m : List Nat} (t : N3 w g h r l m W) : N3 w g h r l m W.drew :=
  ⟨t.now, t.oth, t.res, t.nh, t.nr, t.bg, t.br, t.bel.drew⟩
theorem num_new2 (w : World) (l m : List Nat) : Num ((w.alloc (.cells (l.map nv).toArray 100)).alloc (.cells (m.map nv).toArray 100)) (w.heap.size + 1) m ∧ Num ((w.alloc (.cells (l.map nv).toArray 100)).alloc (.cells (m.map nv).toArray 100)) w.heap.size l := by
  constructor
  · have := heap_alloc_new (w.alloc (.cells (l.map nv).toArray 100)) (.cells (m.map nv).toArray 100)
    rw [World.size_alloc] at this
    exact this
  · unfold Num
    rw [Below.heap_alloc _ _ _ (by simp)]
    exact heap_alloc_new w _
theorem Num.alloc {w : World} {g : Nat} {l : List Nat} (h : Num w g l) (o : Obj) : Num (w.alloc o) g l := by
  unfold Num
  rw [Below.heap_alloc _ _ _ h.lt]
  exact h
theorem N3.new (w : World) (l m : List Nat) : N3 w w.heap.size (w.heap.size + 1) (w.heap.size + 1 + 1) l m (((w.alloc (.cells (l.map nv).toArray 100)).alloc (.cells (m.map nv).toArray 100)).alloc (.cells #[.int .u64 0, .int .u64 0, .int .u64 0, .int .u64 0, .int .u64 0] 100)) := by
  obtain ⟨h1, h2⟩ := num_new2 w l m
  refine ⟨h2.alloc _, h1.alloc _, ?_, by omega, by omega, by omega, by omega, ?_⟩
  · have := heap_alloc_new ((w.alloc (.cells (l.map nv).toArray 100)).alloc (.cells (m.map nv).toArray 100)) (.cells #[.int .u64 0, .int .u64 0, .int .u64 0, .int .u64 0, .int .u64 0] 100)
    rw [World.size_alloc, World.size_alloc] at this
    exact this
  · exact (((Below.refl _ _).alloc (Nat.le_refl _) _).alloc (by simp) _).alloc (by simp <;> omega) _

set_option maxHeartbeats 400000 in
set_option maxRecDepth 100000 in
theorem add_any (l m : List Nat) (w : World) (hl : l.length = 5) (hm : m.length = 5) (hb : ∀ x ∈ l, x < 4611686018427387904) (hc : ∀ x ∈ m, x < 4611686018427387904) :
    Calls Tryd.prog 65 #[.agg (l.map nv).toArray, .agg (m.map nv).toArray] w fun e w' => e = .returned (.agg ((addTo l m 5).map nv).toArray) ∧ Below w.heap.size w w' := by
  go_enter Tryd.func65, Tryd.ntmps65
  go_wp2
  refine from_world (P := Code.wp Tryd.prog _ _ _) (R := fun W => Hid (N3 w w.heap.size (w.heap.size + 1) (w.heap.size + 1 + 1) l m W)) _ (N3.new w l m) ?_
  intro W0 hN0
  generalize hg : w.heap.size = g at hN0 ⊢
  generalize hh : g + 1 = h at hN0 ⊢
  generalize hr : h + 1 = r at hN0 ⊢
  go_loopw [6] (fun i wr => ∃ k : Nat, k ≤ 5 ∧ i = .int .i64 k ∧ Hid (N3 w g h r (addTo l m k) m wr)) (fun i _ => 5 - (intOf i).toNat)
  case atStart => exact ⟨0, by omega, rfl, hN0⟩
  case round =>
    clear hN0
    obtain ⟨k, hk, rfl, hN⟩ := hrel
    by_cases hlt : k < 5
    · have hki : (k : Int) < 5 := by omega
      obtain ⟨a, ha⟩ : ∃ a, atD (addTo l m k) k = a := ⟨_, rfl⟩
      obtain ⟨b, hb'⟩ : ∃ b, atD m k = b := ⟨_, rfl⟩
      obtain ⟨W1, hW1⟩ : ∃ W1, wr.drew = W1 := ⟨_, rfl⟩
      have hN1 := hN.out.drew
      rw [hW1] at hN1
      obtain ⟨c1, f1⟩ := hN1.now.word k (by rw [addTo_length]; omega)
      obtain ⟨c2, f2⟩ := hN1.oth.word k (by omega)
      rw [ha] at c1
      rw [hb'] at c2
      have hab : a < 4611686018427387904 := by rw [← ha, addTo_at l m k k (Nat.le_refl _)]; exact atD_bound l _ (by omega) hb k
      have hbb : b < 4611686018427387904 := by rw [← hb']; exact atD_bound m _ (by omega) hc k
      obtain ⟨W2, hW2⟩ : ∃ W2, W1.setCell ⟨g, k, none⟩ (.int .u64 ((a : Int) + (b : Int))) = W2 := ⟨_, rfl⟩
      have HN2 : Hid (N3 w g h r (addTo l m (k + 1)) m W2) := by rw [addTo, ha, hb', ← hW2]; exact hN1.set k (a + b)
      have E1 : Hid (IntKind.u64.wrap ((a : Int) + (b : Int)) = (a : Int) + (b : Int)) := by show _ = _; rw [IntKind.wrap_u64]; omega
      have HW1 : Hid (wr.drew = W1) := hW1
      have HW2 : Hid (W1.setCell ⟨g, k, none⟩ (.int .u64 ((a : Int) + (b : Int))) = W2) := hW2
      clear hN hN1 hW1 hW2 ha hb'
      go_wp2
      refine wp_region_sched' (G := Stays) (by kernel_rfl) Stays.refl Stays.trans (by kernel_rfl) [(0, true), (1, true), (2, true), (3, true), (4, true), (5, true), (6, true), (7, true), (8, false)] rfl (by kernel_rfl) ?_
      intro KK hKK
      rw [HW1.out]
      iterate 8 (refine sched_take rfl (by rfl) (v := ?_) ?_ ?_; rotate_left; (rintro w' rfl; go_simp; with_reducible rfl); go_simp)
      refine sched_store rfl (by rfl) (w' := W2) (by rw [← HW2.out]; go_simp; rw [E1.out]) (by kernel_rfl) ?_
      go_simp
      refine sched_done hKK ?_
      go_wp2
      exact ⟨⟨k + 1, by omega, by go_num, HN2⟩, by simp [intOf]; omega⟩
    · have ek : k = 5 := by omega
      subst ek
      have hkr : ¬ ((5 : Nat) : Int) < 5 := by omega
      obtain ⟨s, hs⟩ : ∃ s, addTo l m 5 = s := ⟨_, rfl⟩
      have hsl : s.length = 5 := by rw [← hs, addTo_length, hl]
      rw [hs] at hN
      have HS : Hid (addTo l m 5 = s) := hs
      have IB : Hid ((Tryd.prog.info? 100).map (·.size) = some (s.map nv).toArray.size) := num_info s hsl
      have hst := store_row wr r _ _ (s.map nv) hN.out.res (by simp [hsl]) (nv_oneCell s)
      have hrow := setRow_heap wr r _ (s.map nv).toArray _ _ hN.out.res
      have HBel : Hid (Below w.heap.size w (wr.setRow r (s.map nv).toArray)) := below_setRow hN.out.bel hN.out.br _
      obtain ⟨W4, hW4⟩ : ∃ W4, wr.setRow r (s.map nv).toArray = W4 := ⟨_, rfl⟩
      rw [hW4] at hst hrow HBel
      have HRow : Hid (W4.heap[r]? = some (.cells (s.map nv).toArray 100 (0, 0))) := hrow
      clear hrow hW4 hs hb hc
      go_wp2_with (first | (refine wpList_load_row rfl 100 _ rfl g rfl 100 _ (0, 0) _ hN.out.now Tryd.underlying100 rfl IB.out ?_))
      (try simp only [Exit.inBlock, Exit.then])
      refine bodyPost_ret (results_cell_row rfl _ _ r 100 _ (0, 0) _ rfl HRow.out Tryd.underlying100 rfl IB.out) rfl ?_
      exact ⟨by rw [HS.out], by rw [← hg]; exact HBel.out⟩

theorem N3.new4 (w : World) (n l : List Nat) : N3 w (w.heap.size + 1 + 1 + 1) (w.heap.size + 1) (w.heap.size + 1 + 1) [0, 0, 0, 0, 0] l ((((w.alloc (.cells (n.map nv).toArray 100)).alloc (.cells (l.map nv).toArray 100)).alloc (.cells #[.int .u64 0, .int .u64 0, .int .u64 0, .int .u64 0, .int .u64 0] 100)).alloc (.cells #[.int .u64 0, .int .u64 0, .int .u64 0, .int .u64 0, .int .u64 0] 100)) := by
  have h0 := N3.new w n l
  refine ⟨?_, h0.oth.alloc _, h0.res.alloc _, by omega, by omega, by omega, by omega, h0.bel.alloc (by simp <;> omega) _⟩
  have := heap_alloc_new (((w.alloc (.cells (n.map nv).toArray 100)).alloc (.cells (l.map nv).toArray 100)).alloc (.cells #[.int .u64 0, .int .u64 0, .int .u64 0, .int .u64 0, .int .u64 0] 100)) (.cells #[.int .u64 0, .int .u64 0, .int .u64 0, .int .u64 0, .int .u64 0] 100)
  rw [World.size_alloc, World.size_alloc, World.size_alloc] at this
  exact this
theorem N3.later {w W W' : World} {g h r : Nat} {l m : List Nat} (t : N3 w g h r l m W) (hb : Below W.heap.size W W') : N3 w g h r l m W' :=
  ⟨t.now.later hb, t.oth.later hb, t.res.later hb, t.nh, t.nr, t.bg, t.br, t.bel.trans (hb.mono t.bel.size)⟩
theorem N3.put {w W : World} {g h r : Nat} {l m : List Nat} (t : N3 w g h r l m W) (l' : List Nat) : N3 w g h r l' m (W.setRow g (l'.map nv).toArray) := by
  have hg := t.bg
  refine ⟨setRow_heap W g _ _ _ _ t.now, ?_, ?_, t.nh, t.nr, t.bg, t.br, below_setRow t.bel hg _⟩
  · unfold Num; rw [setRow_other _ _ _ _ t.nh]; exact t.oth
  · unfold Num; rw [setRow_other _ _ _ _ t.nr]; exact t.res
theorem num_index (n : List Nat) (i : Nat) (hi : i < n.length) : (n.map nv).toArray[i]? = some (.int .u64 (atD n i : Int)) := by
  rw [atD_get n i hi]; simp [hi, nv]
theorem run_num_index (w : World) (n : List Nat) (i : Nat) (hn : n.length = 5) (hi : i < 5) : (Instr.index 100 (.agg (n.map nv).toArray) (.int .i64 (i : Int))).run Tryd.prog w = .ok (.int .u64 (atD n i : Int)) w := by
  have hu : Tryd.prog.underlying 100 = some (.array 5 24) := Tryd.underlying100
  have he : Tryd.prog.plainKey 24 = true := by kernel_rfl
  have hc : Tryd.prog.cellsOf 24 = 1 := by kernel_rfl
  have p1 := run_part_plain (P := Tryd.prog) w he (xs := (n.map nv).toArray) (off := i * 1) (v := .int .u64 (atD n i : Int)) (by rw [Nat.mul_one]; exact num_index n i (by omega))
  rw [Nat.mul_one] at p1
  simp [Instr.index, asIntOf, run_underlying hu, hi, go_sem]
  rw [List.getElem?_eq_getElem (by omega), atD_get n i (by omega)]
  rfl

set_option maxHeartbeats 2000000 in
set_option maxRecDepth 100000 in
theorem times_any (n r : List Nat) (w : World) (hn : n.length = 5) (hr : r.length = 5) (hb : ∀ x ∈ n, x < 134217728) (hc : ∀ x ∈ r, x < 67108864) :
    Calls Tryd.prog 67 #[.agg (n.map nv).toArray, .agg (r.map nv).toArray] w fun e w' => e = .returned (.agg ((timL n r).map nv).toArray) ∧ Below w.heap.size w w' := by
  have IN : Hid ((Tryd.prog.info? 100).map (·.size) = some (n.map nv).toArray.size) := num_info n hn
  have IR : Hid ((Tryd.prog.info? 100).map (·.size) = some (r.map nv).toArray.size) := num_info r hr
  have hNn := (((num_new2 w n r).2.alloc (.cells #[.int .u64 0, .int .u64 0, .int .u64 0, .int .u64 0, .int .u64 0] 100)).alloc (.cells #[.int .u64 0, .int .u64 0, .int .u64 0, .int .u64 0, .int .u64 0] 100))
  have HNn : Hid _ := hNn
  clear hNn
  go_enter Tryd.func67, Tryd.ntmps67
  go_wp2_with (first | (refine wpList_load_row rfl 100 _ rfl w.heap.size rfl 100 _ (0, 0) _ HNn.out Tryd.underlying100 rfl IN.out ?_))
  clear HNn
  refine from_world (P := Code.wp Tryd.prog _ _ _) (R := fun W => Hid (N3 w (w.heap.size + 1 + 1 + 1) (w.heap.size + 1) (w.heap.size + 1 + 1) [0, 0, 0, 0, 0] r W)) _ (N3.new4 w n r) ?_
  intro W0 hN0
  generalize w.heap.size + 1 + 1 + 1 = g at hN0 ⊢
  generalize w.heap.size + 1 + 1 = q at hN0 ⊢
  generalize w.heap.size + 1 = h at hN0 ⊢
  go_loopw [11] (fun i wr => ∃ k : Nat, k ≤ 5 ∧ i = .int .i64 k ∧ Hid (N3 w g h q (mulTo n r k) r wr)) (fun i _ => 5 - (intOf i).toNat)
  case atStart => exact ⟨0, by omega, rfl, hN0⟩
  case round =>
    clear hN0
    obtain ⟨k, hk, rfl, hN⟩ := hrel
    by_cases hlt : k < 5
    · have hki : (k : Int) < 5 := by omega
      obtain ⟨x, hx⟩ : ∃ x, atD n k = x := ⟨_, rfl⟩
      have hix := run_num_index wr n k hn hlt
      rw [hx] at hix
      go_wp2_with (first | (refine wpList_load_row rfl 100 _ rfl h rfl 100 _ (0, 0) _ hN.out.oth Tryd.underlying100 rfl IR.out ?_))
      clear hix
      have HO : Hid (N3 w g h q (mulRow (mulTo n r k) x r k 0) r wr) := hN
      clear hN
      go_loopw [16] (fun i wr => ∃ j : Nat, j ≤ 5 ∧ i = .int .i64 j ∧ Hid (N3 w g h q (mulRow (mulTo n r k) x r k j) r wr)) (fun i _ => 5 - (intOf i).toNat)
      case atStart => exact ⟨0, by omega, rfl, HO⟩
      case round =>
        clear HO
        obtain ⟨j, hj, rfl, hN⟩ := hrel
        have hxb : x < 134217728 := by rw [← hx]; exact atD_bound n _ (by omega) hb k
        by_cases hjl : j < 5
        · have hji : (j : Int) < 5 := by omega
          obtain ⟨y, hy⟩ : ∃ y, atD r j = y := ⟨_, rfl⟩
          have hyb : y < 67108864 := by rw [← hy]; exact atD_bound r _ (by omega) hc j
          have hix := run_num_index wr r j hr hjl
          rw [hy] at hix
          have hle := mulRow_le (mulTo n r k) x r k _ hxb hc (mulTo_le n r hb hc k) j
          have hzs := mul_small x y hxb hyb
          by_cases hp : k + j < 5
          · obtain ⟨p, hpe⟩ : ∃ p, k + j = p := ⟨_, rfl⟩
            obtain ⟨c, hc1⟩ : ∃ c, atD (mulRow (mulTo n r k) x r k j) p = c := ⟨_, rfl⟩
            obtain ⟨cc, fr⟩ := hN.out.now.word p (by rw [mulRow_length, mulTo_length]; omega)
            rw [hc1] at cc
            have hcb := atD_le _ _ hle p
            rw [hc1] at hcb
            have hpi : (k : Int) + (j : Int) = (p : Int) := by omega
            have hp5 : (p : Int) < 5 := by omega
            have hN1 := hN.out.set p (c + x * y)
            obtain ⟨z, hz⟩ : ∃ z, x * y = z := ⟨_, rfl⟩
            have hzi : (x : Int) * (y : Int) = (z : Int) := by rw [← hz]; simp
            rw [hz] at hzs hN1
            have hzb : z < 18446744073709551616 := by omega
            have hczb : c + z < 18446744073709551616 := by omega
            have HN1 : Hid (N3 w g h q (mulRow (mulTo n r k) x r k (j + 1)) r (wr.setCell ⟨g, p, none⟩ (.int .u64 ((c : Int) + (z : Int))))) := by
              rw [mulRow, if_pos hp, hpe, hc1, hy, hz]; exact hN1
            clear hN hN1 hle hz hcb
            go_wp2
            exact ⟨⟨j + 1, by omega, by go_num, HN1⟩, by simp [intOf]; omega⟩
          · obtain ⟨p0, hpe0⟩ : ∃ p, k + j = p := ⟨_, rfl⟩
            obtain ⟨p, hpe⟩ : ∃ p, k + j - 5 = p := ⟨_, rfl⟩
            obtain ⟨c, hc1⟩ : ∃ c, atD (mulRow (mulTo n r k) x r k j) p = c := ⟨_, rfl⟩
            obtain ⟨cc, fr⟩ := hN.out.now.word p (by rw [mulRow_length, mulTo_length]; omega)
            rw [hc1] at cc
            have hcb := atD_le _ _ hle p
            rw [hc1] at hcb
            have hpi : (k : Int) + (j : Int) = (p0 : Int) := by omega
            have hp5 : ¬ (p0 : Int) < 5 := by omega
            have hpi2 : (p0 : Int) - 5 = (p : Int) := by omega
            have hp5' : (p : Int) < 5 := by omega
            have hN1 := hN.out.set p (c + 5 * x * y)
            obtain ⟨z, hz⟩ : ∃ z, 5 * x * y = z := ⟨_, rfl⟩
            have hz5 : z = 5 * (x * y) := by rw [← hz]; exact Nat.mul_assoc _ _ _
            have hzi : 5 * (x : Int) * (y : Int) = (z : Int) := by rw [← hz]; simp
            rw [hz] at hN1
            have hzb : z < 18446744073709551616 := by omega
            have hczb : c + z < 18446744073709551616 := by omega
            have HN1 : Hid (N3 w g h q (mulRow (mulTo n r k) x r k (j + 1)) r (wr.setCell ⟨g, p, none⟩ (.int .u64 ((c : Int) + (z : Int))))) := by
              rw [mulRow, if_neg hp, hpe, hc1, hy, hz]; exact hN1
            clear hN hN1 hle hz hcb hz5 hzs
            go_wp2
            exact ⟨⟨j + 1, by omega, by go_num, HN1⟩, by simp [intOf]; omega⟩
        · have ej : j = 5 := by omega
          subst ej
          have hjr : ¬ ((5 : Nat) : Int) < 5 := by omega
          have HN1 : Hid (N3 w g h q (mulTo n r (k + 1)) r wr) := by rw [mulTo, hx]; exact hN
          clear hN
          go_wp2
          exact ⟨⟨k + 1, by omega, by go_num, HN1⟩, by simp [intOf]; omega⟩
    · have ek : k = 5 := by omega
      subst ek
      have hkr : ¬ ((5 : Nat) : Int) < 5 := by omega
      obtain ⟨L, hL⟩ : ∃ L, mulTo n r 5 = L := ⟨_, rfl⟩
      have hLl : L.length = 5 := by rw [← hL, mulTo_length]
      have hLb : ∀ x ∈ L, x < 4611686018427387904 := fun x hx => by have := mulTo_le n r hb hc 5 x (by rw [hL]; exact hx); omega
      have HL : Hid (timL n r = carN L 3) := by rw [timL, hL]; rfl
      rw [hL] at hN
      clear hL hb hc
      go_wp2
      go_loopw [48] (fun i wr => ∃ t : Nat, t ≤ 3 ∧ i = .int .i64 t ∧ Hid (N3 w g h q (carN L t) r wr)) (fun i _ => 3 - (intOf i).toNat)
      case atStart => exact ⟨0, by omega, rfl, hN⟩
      case round =>
        clear hN
        obtain ⟨t, ht, rfl, hN⟩ := hrel
        obtain ⟨M, hM⟩ : ∃ M, carN L t = M := ⟨_, rfl⟩
        have hMl : M.length = 5 := by rw [← hM, carN_length, hLl]
        have hMb : ∀ x ∈ M, x < 4611686018427387904 := by rw [← hM]; exact carN_small L hLl hLb t
        rw [hM] at hN
        have IM : Hid ((Tryd.prog.info? 100).map (·.size) = some (M.map nv).toArray.size) := num_info M hMl
        by_cases htl : t < 3
        · have hti : (t : Int) < 3 := by omega
          go_wp2_with (first | (refine wpList_load_row rfl 100 _ rfl g rfl 100 _ (0, 0) _ hN.out.now Tryd.underlying100 rfl IM.out ?_))
          refine (carry_any M wr hMl hMb).mono ?_
          rintro e w8 ⟨rfl, hb8⟩
          have hN8 := hN.out.later hb8
          have hcl : (carL M).length = 5 := by rw [carL_length, hMl]
          have hst := store_row w8 g _ _ ((carL M).map nv) hN8.now (by simp [hcl, hMl]) (nv_oneCell _)
          have HN9 : Hid (N3 w g h q (carN L (t + 1)) r (w8.setRow g ((carL M).map nv).toArray)) := by rw [carN, hM]; exact hN8.put _
          clear hN hN8 hb8
          go_wp2
          exact ⟨⟨t + 1, by omega, by go_num, HN9⟩, by simp [intOf]; omega⟩
        · have et : t = 3 := by omega
          subst et
          have htr : ¬ ((3 : Nat) : Int) < 3 := by omega
          have HM : Hid (timL n r = M) := HL.out.trans hM
          have hst := store_row wr q _ _ (M.map nv) hN.out.res (by simp [hMl]) (nv_oneCell M)
          have hrow := setRow_heap wr q _ (M.map nv).toArray _ _ hN.out.res
          have HBel : Hid (Below w.heap.size w (wr.setRow q (M.map nv).toArray)) := below_setRow hN.out.bel hN.out.br _
          obtain ⟨W4, hW4⟩ : ∃ W4, wr.setRow q (M.map nv).toArray = W4 := ⟨_, rfl⟩
          rw [hW4] at hst hrow HBel
          have HRow : Hid (W4.heap[q]? = some (.cells (M.map nv).toArray 100 (0, 0))) := hrow
          clear hrow hW4 hM hMb hLb
          go_wp2_with (first | (refine wpList_load_row rfl 100 _ rfl g rfl 100 _ (0, 0) _ hN.out.now Tryd.underlying100 rfl IM.out ?_))
          (try simp only [Exit.inBlock, Exit.then])
          refine bodyPost_ret (results_cell_row rfl _ _ q 100 _ (0, 0) _ rfl HRow.out Tryd.underlying100 rfl IM.out) rfl ?_
          exact ⟨by rw [HM.out], HBel.out⟩
end Go.Proofs.YtdancpcnjklifaaDoor

/- The walks over the program's tell, closed and multiplier. -/
namespace Go.Proofs.YtdancpcnjklifaaDoor
set_option linter.unusedVariables false
set_option maxRecDepth 100000
open Go.RowKit

/-- The bytes, the number that is told, the place of the answer. -/
structure NT (w : World) (a g r : Nat) (B : List UInt8) (l : List Nat) (W : World) : Prop where
  src : Arr W a 102 B
  now : Num W g l
  res : Num W r [0, 0, 0, 0, 0]
  na : a ≠ g
  nr : r ≠ g
  bg : w.heap.size ≤ g
  br : w.heap.size ≤ r
  bel : Below w.heap.size w W
theorem NT.set {w W : World} {a g r : Nat} {B : List UInt8} {l : List Nat} (t : NT w a g r B l W) (i x : Nat) : NT w a g r B (l.set i x) (W.setCell ⟨g, i, none⟩ (nv x)) := by
  have hg := t.bg
  exact ⟨t.src.other t.na i _, t.now.set i x, t.res.other t.nr i _, t.na, t.nr, t.bg, t.br, t.bel.setCell (p := ⟨g, i, none⟩) (by show _ ≤ g; omega) _⟩
theorem Arr.alloc {w : World} {g : Nat} {t : TypeId} {l : List UInt8} (h : Arr w g t l) (o : Obj) : Arr (w.alloc o) g t l := by
  unfold Arr
  rw [Below.heap_alloc _ _ _ h.lt]
  exact h
theorem NT.new (w : World) (B : List UInt8) : NT w w.heap.size (w.heap.size + 1 + 1) (w.heap.size + 1) B [0, 0, 0, 0, 0] (((w.alloc (.cells (B.map bv).toArray 102)).alloc (.cells #[.int .u64 0, .int .u64 0, .int .u64 0, .int .u64 0, .int .u64 0] 100)).alloc (.cells #[.int .u64 0, .int .u64 0, .int .u64 0, .int .u64 0, .int .u64 0] 100)) := by
  have h1 : Num ((w.alloc (.cells (B.map bv).toArray 102)).alloc (.cells #[.int .u64 0, .int .u64 0, .int .u64 0, .int .u64 0, .int .u64 0] 100)) (w.heap.size + 1) [0, 0, 0, 0, 0] := by
    have := heap_alloc_new (w.alloc (.cells (B.map bv).toArray 102)) (.cells #[.int .u64 0, .int .u64 0, .int .u64 0, .int .u64 0, .int .u64 0] 100)
    rw [World.size_alloc] at this
    exact this
  refine ⟨((Arr.new w _ B).alloc _).alloc _, ?_, h1.alloc _, by omega, by omega, by omega, by omega, ?_⟩
  · have := heap_alloc_new ((w.alloc (.cells (B.map bv).toArray 102)).alloc (.cells #[.int .u64 0, .int .u64 0, .int .u64 0, .int .u64 0, .int .u64 0] 100)) (.cells #[.int .u64 0, .int .u64 0, .int .u64 0, .int .u64 0, .int .u64 0] 100)
    rw [World.size_alloc, World.size_alloc] at this
    exact this
  · exact (((Below.refl _ _).alloc (Nat.le_refl _) _).alloc (by simp) _).alloc (by simp <;> omega) _

set_option maxHeartbeats 400000 in
set_option maxRecDepth 100000 in
theorem tell_any (B : List UInt8) (w : World) (hB : B.length = 17) :
    Calls Tryd.prog 63 #[.agg (B.map bv).toArray] w fun e w' => e = .returned (.agg ((limbs (leN B)).map nv).toArray) ∧ Below w.heap.size w w' := by
  go_enter Tryd.func63, Tryd.ntmps63
  go_wp2
  refine from_world (P := Code.wp Tryd.prog _ _ _) (R := fun W => Hid (NT w w.heap.size (w.heap.size + 1 + 1) (w.heap.size + 1) B [0, 0, 0, 0, 0] W)) _ (NT.new w B) ?_
  intro W0 hN0
  generalize w.heap.size + 1 + 1 = g at hN0 ⊢
  generalize w.heap.size + 1 = r at hN0 ⊢
  generalize hb0 : w.heap.size = b0 at hN0 ⊢
  go_loopw [8] (fun i wr => ∃ k : Nat, k ≤ 5 ∧ i = .int .i64 k ∧ Hid (NT w b0 g r B (tellTo (leN B) k) wr)) (fun i _ => 5 - (intOf i).toNat)
  case atStart => exact ⟨0, by omega, rfl, hN0⟩
  case round =>
    clear hN0
    obtain ⟨k, hk, rfl, hN⟩ := hrel
    by_cases hlt : k < 5
    · have hki : (k : Int) < 5 := by omega
      obtain ⟨p, hp⟩ : ∃ p, 26 * k = p := ⟨_, rfl⟩
      obtain ⟨q, hq⟩ : ∃ q, p / 8 = q := ⟨_, rfl⟩
      obtain ⟨s, hs⟩ : ∃ s, p % 8 = s := ⟨_, rfl⟩
      have e1 : (k : Int) * 26 = (p : Int) := by omega
      have e2 : (p : Int).tdiv 8 = (q : Int) := by rw [Int.tdiv_eq_ediv_of_nonneg (by omega)]; omega
      have e2' : (p : Int) / 8 = (q : Int) := by omega
      have e3 : (p : Int).tmod 8 = (s : Int) := by rw [Int.tmod_eq_emod_of_nonneg (by omega)]; omega
      have e3' : (p : Int) % 8 = (s : Int) := by omega
      have hlc := limb_cut B k hlt
      rw [hp, hq, hs] at hlc
      obtain ⟨cc, fr⟩ := hN.out.now.word k (by rw [tellTo_length]; omega)
      have HB : Hid (Byt wr (some ⟨b0, 0, none⟩) 17 B) := hN.out.src.byt 17 hB
      have HN : Hid (NT w b0 g r B (tellTo (leN B) k) wr) := hN
      clear hN
      go_wp2_with fail
      refine (get_yes b0 0 17 17 q 4 false B wr (by unfold maxLen; omega) (by omega) HB.out (by omega) (by omega) (by omega)).mono ?_
      rintro e w' ⟨rfl, rfl⟩
      obtain ⟨v, hv⟩ : ∃ v, getV B false q 4 = v := ⟨_, rfl⟩
      rw [hv] at hlc ⊢
      have hvb : v < 18446744073709551616 := by
        rw [← hv, getV_cut]
        exact Nat.lt_of_lt_of_le (Nat.mod_lt _ (by decide)) (by decide)
      have hs8 : s < 8 := by omega
      have E1 : Hid ((v : Int) / 2 ^ s = ((v / 2 ^ s : Nat) : Int)) := by show _ = _; simp
      have hvs : v / 2 ^ s < 18446744073709551616 := Nat.lt_of_le_of_lt (Nat.div_le_self _ _) hvb
      have E2 : Hid (bits .and .u64 ((v / 2 ^ s : Nat) : Int) 67108863 = ((v / 2 ^ s % 67108864 : Nat) : Int)) := and26 _ hvs
      have HN1 : Hid (NT w b0 g r B (tellTo (leN B) (k + 1)) (w'.setCell ⟨g, k, none⟩ (.int .u64 ((v / 2 ^ s % 67108864 : Nat) : Int)))) := by
        rw [tellTo, ← hlc]; exact HN.out.set k _
      clear HN hvs hlc
      go_wp2
      rw [E1.out, E2.out]
      exact ⟨⟨k + 1, by omega, by go_num, HN1⟩, by simp [intOf]; omega⟩
    · have ek : k = 5 := by omega
      subst ek
      have hkr : ¬ ((5 : Nat) : Int) < 5 := by omega
      rw [tellTo_all] at hN
      obtain ⟨M, hM⟩ : ∃ M, limbs (leN B) = M := ⟨_, rfl⟩
      have hMl : M.length = 5 := by rw [← hM, limbs_length]
      rw [hM] at hN
      have HM : Hid (limbs (leN B) = M) := hM
      have IM : Hid ((Tryd.prog.info? 100).map (·.size) = some (M.map nv).toArray.size) := num_info M hMl
      have hst := store_row wr r _ _ (M.map nv) hN.out.res (by simp [hMl]) (nv_oneCell M)
      have hrow := setRow_heap wr r _ (M.map nv).toArray _ _ hN.out.res
      have HBel : Hid (Below w.heap.size w (wr.setRow r (M.map nv).toArray)) := below_setRow hN.out.bel hN.out.br _
      obtain ⟨W4, hW4⟩ : ∃ W4, wr.setRow r (M.map nv).toArray = W4 := ⟨_, rfl⟩
      rw [hW4] at hst hrow HBel
      have HRow : Hid (W4.heap[r]? = some (.cells (M.map nv).toArray 100 (0, 0))) := hrow
      clear hrow hW4 hM
      go_wp2_with (first | (refine wpList_load_row rfl 100 _ rfl g rfl 100 _ (0, 0) _ hN.out.now Tryd.underlying100 rfl IM.out ?_))
      (try simp only [Exit.inBlock, Exit.then])
      refine bodyPost_ret (results_cell_row rfl _ _ r 100 _ (0, 0) _ rfl HRow.out Tryd.underlying100 rfl IM.out) rfl ?_
      exact ⟨by rw [HM.out], by rw [← hb0]; exact HBel.out⟩

def z17 : List UInt8 := List.replicate 17 0
theorem arr17_info (l : List UInt8) (hl : l.length = 17) : (Tryd.prog.info? 102).map (·.size) = some (l.map bv).toArray.size := by
  have e1 : (Tryd.prog.info? 102).map (·.size) = some 17 := by kernel_rfl
  rw [e1]; simp [hl]
theorem Arr.put {w : World} {g : Nat} {t : TypeId} {l : List UInt8} (h : Arr w g t l) (l' : List UInt8) : Arr (w.setRow g (l'.map bv).toArray) g t l' := setRow_heap w g _ _ _ _ h
theorem Arr.keep {w : World} {g g' : Nat} {t : TypeId} {l : List UInt8} (h : Arr w g t l) (hne : g ≠ g') (cs : Array Value) : Arr (w.setRow g' cs) g t l := by
  unfold Arr; rw [setRow_other _ _ _ _ hne]; exact h
theorem arr_new2 (w : World) (t : TypeId) (l m : List UInt8) (s : TypeId) : Arr ((w.alloc (.cells (l.map bv).toArray t)).alloc (.cells (m.map bv).toArray s)) (w.heap.size + 1) s m ∧ Arr ((w.alloc (.cells (l.map bv).toArray t)).alloc (.cells (m.map bv).toArray s)) w.heap.size t l := by
  constructor
  · have := heap_alloc_new (w.alloc (.cells (l.map bv).toArray t)) (.cells (m.map bv).toArray s)
    rw [World.size_alloc] at this
    exact this
  · exact (Arr.new w t l).alloc _
theorem closed_row (part : List UInt8) (n : Nat) (h : part.length = n) (hn : n ≤ 16) : (z17.map bv).take 0 ++ part.map bv ++ (z17.map bv).drop (0 + n) = (part ++ List.replicate (17 - n) 0).map bv := by
  rw [List.take_zero, List.nil_append, List.map_append, z17, List.map_replicate, List.map_replicate, List.drop_replicate, Nat.zero_add]
theorem closed_set (part : List UInt8) (n : Nat) (h : part.length = n) (hn : n ≤ 16) : (part ++ List.replicate (17 - n) 0).set n 1 = part ++ 1 :: List.replicate (16 - n) 0 := by
  rw [show 17 - n = (16 - n) + 1 by omega, List.replicate_succ, List.set_append_right _ _ (by omega)]
  simp [h]

set_option maxHeartbeats 400000 in
set_option maxRecDepth 100000 in
theorem closed_any (b off len cap : Nat) (part : List UInt8) (w : World) (hB : Byt w (some ⟨b, off, none⟩) len part) (hl : len ≤ 16) :
    Calls Tryd.prog 66 #[.slice (some ⟨b, off, none⟩) len cap] w fun e w' => e = .returned (.agg ((part ++ 1 :: List.replicate (16 - len) 0).map bv).toArray) ∧ Below w.heap.size w w' := by
  have hpl := hB.1
  obtain ⟨a1, a0⟩ := arr_new2 w 102 z17 z17 102
  have b1 : Below w.heap.size w ((w.alloc (.cells (z17.map bv).toArray 102)).alloc (.cells (z17.map bv).toArray 102)) := ((Below.refl _ _).alloc (Nat.le_refl _) _).alloc (by simp) _
  obtain ⟨W1, hW1⟩ : ∃ W1, (w.alloc (.cells (z17.map bv).toArray 102)).alloc (.cells (z17.map bv).toArray 102) = W1 := ⟨_, rfl⟩
  rw [hW1] at a1 a0 b1
  have hcp := run_copy_row Tryd.prog W1 29 29 3 5 (w.heap.size + 1) 0 17 17 ⟨b, off, none⟩ len cap _ _ (part.map bv) Tryd.underlying29 Tryd.info1U8 a1
    (by rw [List.length_map, hpl]; show len = min len 17; omega) (fun j v hj => (hB.later b1).cells _ rfl j v (by simpa using hj)) (by simp [z17]; omega) (bv_oneCell _)
  rw [List.length_map, hpl] at hcp
  simp only [] at hcp
  rw [closed_row part len hpl hl] at hcp
  have a2 := a1.put (part ++ List.replicate (17 - len) 0)
  have a02 := a0.keep (g' := w.heap.size + 1) (by omega) ((part ++ List.replicate (17 - len) 0).map bv).toArray
  have b2 : Below w.heap.size w (W1.setRow (w.heap.size + 1) ((part ++ List.replicate (17 - len) 0).map bv).toArray) := below_setRow b1 (by omega) _
  obtain ⟨W2, hW2⟩ : ∃ W2, W1.setRow (w.heap.size + 1) ((part ++ List.replicate (17 - len) 0).map bv).toArray = W2 := ⟨_, rfl⟩
  rw [hW2] at a2 a02 b2 hcp
  obtain ⟨cc, fr⟩ := a2.at_ len (by simp; omega)
  have a3 := a2.set len 1
  rw [closed_set part len hpl hl] at a3
  have a03 := a02.other (g' := w.heap.size + 1) (by omega) len (.int .u8 (((1 : UInt8)).toNat : Int))
  have b3 : Below w.heap.size w (W2.setCell ⟨w.heap.size + 1, len, none⟩ (.int .u8 (((1 : UInt8)).toNat : Int))) := b2.setCell (p := ⟨w.heap.size + 1, len, none⟩) (by show _ ≤ _ + 1; omega) _
  obtain ⟨W3, hW3⟩ : ∃ W3, W2.setCell ⟨w.heap.size + 1, len, none⟩ (.int .u8 1) = W3 := ⟨_, rfl⟩
  obtain ⟨C, hC⟩ : ∃ C, part ++ 1 :: List.replicate (16 - len) 0 = C := ⟨_, rfl⟩
  have hCl : C.length = 17 := by rw [← hC]; simp; omega
  have e3 : W2.setCell ⟨w.heap.size + 1, len, none⟩ (.int .u8 (((1 : UInt8)).toNat : Int)) = W3 := hW3
  rw [e3] at a3 a03 b3
  rw [hC] at a3
  have HA3 : Hid (Arr W3 (w.heap.size + 1) 102 C) := a3
  have IC : Hid ((Tryd.prog.info? 102).map (·.size) = some (C.map bv).toArray.size) := arr17_info C hCl
  have hst := store_row W3 w.heap.size _ _ (C.map bv) a03 (by simp [hCl, z17]) (bv_oneCell C)
  have hrow := setRow_heap W3 w.heap.size _ (C.map bv).toArray _ _ a03
  have HBel : Hid (Below w.heap.size w (W3.setRow w.heap.size (C.map bv).toArray)) := below_setRow b3 (Nat.le_refl _) _
  obtain ⟨W4, hW4⟩ : ∃ W4, W3.setRow w.heap.size (C.map bv).toArray = W4 := ⟨_, rfl⟩
  rw [hW4] at hst hrow HBel
  have HRow : Hid (W4.heap[w.heap.size]? = some (.cells (C.map bv).toArray 102 (0, 0))) := hrow
  have HCP : Hid ((Builtin.copy_ #[29, 29] 3 #[.slice (some ⟨w.heap.size + 1, 0, none⟩) 17 17, .slice (some ⟨b, off, none⟩) len cap]).run Tryd.prog ((w.alloc (.cells (z17.map bv).toArray 102)).alloc (.cells (z17.map bv).toArray 102)) = .ok (goInt len) W2) := by rw [hW1]; exact hcp
  have HC : Hid (part ++ 1 :: List.replicate (16 - len) 0 = C) := hC
  have HW3 : Hid (W2.setCell ⟨w.heap.size + 1, len, none⟩ (.int .u8 1) = W3) := hW3
  have hl17 : (len : Int) < 17 := by omega
  clear hcp a0 a1 b1 hW1 a2 a02 b2 hW2 a3 a03 b3 e3 hW3 hC hrow hW4 hB
  have hcp : (Builtin.copy_ #[29, 29] 3 #[.slice (some ⟨w.heap.size + 1, 0, none⟩) 17 17, .slice (some ⟨b, off, none⟩) len cap]).run Tryd.prog ((w.alloc (.cells #[.int .u8 0, .int .u8 0, .int .u8 0, .int .u8 0, .int .u8 0, .int .u8 0, .int .u8 0, .int .u8 0, .int .u8 0, .int .u8 0, .int .u8 0, .int .u8 0, .int .u8 0, .int .u8 0, .int .u8 0, .int .u8 0, .int .u8 0] 102)).alloc (.cells #[.int .u8 0, .int .u8 0, .int .u8 0, .int .u8 0, .int .u8 0, .int .u8 0, .int .u8 0, .int .u8 0, .int .u8 0, .int .u8 0, .int .u8 0, .int .u8 0, .int .u8 0, .int .u8 0, .int .u8 0, .int .u8 0, .int .u8 0] 102)) = .ok (.int .i64 (len : Int)) W2 := HCP.out
  clear HCP
  go_enter Tryd.func66, Tryd.ntmps66
  go_wp2_with (first | (rw [HW3.out]; refine wpList_load_row rfl 102 _ rfl (w.heap.size + 1) rfl 102 _ (0, 0) _ HA3.out Tryd.underlying102 rfl IC.out ?_))
  (try simp only [Exit.inBlock, Exit.then])
  refine bodyPost_ret (results_cell_row rfl _ _ w.heap.size 102 _ (0, 0) _ rfl HRow.out Tryd.underlying102 rfl IC.out) rfl ?_
  exact ⟨by rw [HC.out], HBel.out⟩
end Go.Proofs.YtdancpcnjklifaaDoor

/- The walk over the program's multiplier. -/
namespace Go.Proofs.YtdancpcnjklifaaDoor
set_option linter.unusedVariables false
set_option maxRecDepth 100000
open Go.RowKit

theorem and8_nat (c m : Nat) (hc : c < 256) (hm : m < 256) : bits .and .u8 (c : Int) (m : Int) = ((c &&& m : Nat) : Int) := by
  have e : (BitVec.ofInt 8 (c : Int) &&& BitVec.ofInt 8 (m : Int)).toNat = c &&& m := by
    rw [BitVec.toNat_and, BitVec.toNat_ofInt, BitVec.toNat_ofInt]
    have h1 : ((c : Int) % ((2 ^ 8 : Nat) : Int)).toNat = c := by omega
    have h2 : ((m : Int) % ((2 ^ 8 : Nat) : Int)).toNat = m := by omega
    rw [h1, h2]
  show IntKind.u8.wrap ((BitVec.ofInt 8 (c : Int) &&& BitVec.ofInt 8 (m : Int)).toNat : Int) = _
  rw [e, IntKind.wrap_u8]
  have : c &&& m ≤ c := Nat.and_le_left
  omega
theorem and8_15 (c : Nat) (hc : c < 256) : bits .and .u8 (c : Int) 15 = ((c % 16 : Nat) : Int) := by
  have h := and8_nat c 15 hc (by omega)
  have e : c &&& 15 = c % 16 := Nat.and_two_pow_sub_one_eq_mod c 4
  rw [e] at h
  exact h
set_option maxRecDepth 100000 in
theorem and252 : ∀ c : Fin 256, c.val &&& 252 = c.val / 4 * 4 := by decide
theorem and8_252 (c : Nat) (hc : c < 256) : bits .and .u8 (c : Int) 252 = ((c / 4 * 4 : Nat) : Int) := by
  have h := and8_nat c 252 hc (by omega)
  have e := and252 ⟨c, hc⟩
  simp only at e
  rw [e] at h
  exact h
/-- Bytes that change, and the place of the answer. -/
structure MK (w : World) (g r : Nat) (B : List UInt8) (W : World) : Prop where
  now : Arr W g 102 B
  res : Arr W r 102 z17
  nr : r ≠ g
  bg : w.heap.size ≤ g
  br : w.heap.size ≤ r
  bel : Below w.heap.size w W
theorem MK.set {w W : World} {g r : Nat} {B : List UInt8} (t : MK w g r B W) (i : Nat) (x : UInt8) : MK w g r (B.set i x) (W.setCell ⟨g, i, none⟩ (.int .u8 (x.toNat : Int))) := by
  have hg := t.bg
  exact ⟨t.now.set i x, t.res.other t.nr i _, t.nr, t.bg, t.br, t.bel.setCell (p := ⟨g, i, none⟩) (by show _ ≤ g; omega) _⟩
theorem clM_next (key : List UInt8) : clM 19 0 key = clM 19 4 key := by
  apply List.ext_getElem
  · simp [clM]
  · intro i h1 h2
    simp only [clM, List.getElem_map, List.getElem_range]
    by_cases h3 : i % 4 = 3 ∧ i < 19
    · rw [if_pos h3, if_pos h3]
    · rw [if_neg h3, if_neg h3, if_neg (by omega), if_neg (by omega)]
theorem set_front (l : List UInt8) (i : Nat) (x : UInt8) (h : i < l.length) : (l ++ [0]).set i x = l.set i x ++ [0] := List.set_append_left _ _ h
theorem at8_front (l : List UInt8) (i : Nat) (h : i < l.length) : at8 (l ++ [0]) i = at8 l i := by simp [at8, List.getElem?_append_left h]

set_option maxHeartbeats 1000000 in
set_option maxRecDepth 100000 in
theorem multiplier_any (key : List UInt8) (w : World) (hk : key.length = 32) :
    Calls Tryd.prog 64 #[.agg (key.map bv).toArray] w fun e w' => e = .returned (.agg ((clampB key ++ [0]).map bv).toArray) ∧ Below w.heap.size w w' := by
  obtain ⟨a1, a0⟩ := arr_new2 w 23 key z17 102
  have b1 : Below w.heap.size w ((w.alloc (.cells (key.map bv).toArray 23)).alloc (.cells (z17.map bv).toArray 102)) := ((Below.refl _ _).alloc (Nat.le_refl _) _).alloc (by simp) _
  have a2 := heap_alloc_new ((w.alloc (.cells (key.map bv).toArray 23)).alloc (.cells (z17.map bv).toArray 102)) (.cells (z17.map bv).toArray 102)
  rw [World.size_alloc, World.size_alloc] at a2
  have a11 := a1.alloc (.cells (z17.map bv).toArray 102)
  have a01 := a0.alloc (.cells (z17.map bv).toArray 102)
  have b2 := b1.alloc (by simp <;> omega) (.cells (z17.map bv).toArray 102)
  have hR : Arr (((w.alloc (.cells (key.map bv).toArray 23)).alloc (.cells (z17.map bv).toArray 102)).alloc (.cells (z17.map bv).toArray 102)) w.heap.size 23 key ∧ MK w (w.heap.size + 1 + 1) (w.heap.size + 1) z17 (((w.alloc (.cells (key.map bv).toArray 23)).alloc (.cells (z17.map bv).toArray 102)).alloc (.cells (z17.map bv).toArray 102)) :=
    ⟨a01, a2, a11, by omega, by omega, by omega, b2⟩
  have HR : Hid _ := hR
  clear a0 a1 a2 a11 a01 b1 b2 hR
  go_enter Tryd.func64, Tryd.ntmps64
  go_wp2
  refine from_world (P := Code.wp Tryd.prog _ _ _) (R := fun W => Hid (Arr W w.heap.size 23 key ∧ MK w (w.heap.size + 1 + 1) (w.heap.size + 1) z17 W)) _ HR ?_
  intro W0 hN0
  clear HR
  generalize w.heap.size + 1 + 1 = g at hN0 ⊢
  generalize w.heap.size + 1 = r at hN0 ⊢
  generalize hb0 : w.heap.size = b0 at hN0 ⊢
  obtain ⟨hK, hM⟩ := hN0.out
  obtain ⟨W1, hW1⟩ : ∃ W1, W0.drew = W1 := ⟨_, rfl⟩
  have hK1 : Arr W1 b0 23 key := by rw [← hW1]; exact hK
  have hM1 : MK w g r z17 W1 := by rw [← hW1]; exact ⟨hM.now, hM.res, hM.nr, hM.bg, hM.br, hM.bel.drew⟩
  have hcp := run_copy_row Tryd.prog W1 29 29 3 5 g 0 17 17 ⟨b0, 0, none⟩ 16 32 _ _ ((key.take 16).map bv) Tryd.underlying29 Tryd.info1U8 hM1.now
    (by rw [List.length_map, List.length_take, hk]; rfl) (fun j v hj => ((hK1.byt 32 hk).cut (by omega)).cells _ rfl j v hj) (by simp [z17]; omega) (bv_oneCell _)
  have h16 : ((key.take 16).map bv).length = 16 := by simp [hk]
  rw [h16] at hcp
  have erow : (z17.map bv).take 0 ++ (key.take 16).map bv ++ (z17.map bv).drop (0 + 16) = (clM 3 0 key ++ [0]).map bv := by
    rw [clM_none key hk, List.map_append]; rfl
  simp only [] at hcp
  rw [erow] at hcp
  have hM2 : MK w g r (clM 3 0 key ++ [0]) (W1.setRow g ((clM 3 0 key ++ [0]).map bv).toArray) :=
    ⟨hM1.now.put _, hM1.res.keep hM1.nr _, hM1.nr, hM1.bg, hM1.br, below_setRow hM1.bel hM1.bg _⟩
  obtain ⟨W2, hW2⟩ : ∃ W2, W1.setRow g ((clM 3 0 key ++ [0]).map bv).toArray = W2 := ⟨_, rfl⟩
  rw [hW2] at hcp hM2
  have HM2 : Hid (MK w g r (clM 3 0 key ++ [0]) W2) := hM2
  have HW1 : Hid (W0.drew = W1) := hW1
  clear hM2 hW1 hW2 erow h16 hM1 hK1 hM hK hN0
  refine wp_region_sched' (G := fun _ _ => True) (by kernel_rfl) (fun _ => trivial) (fun _ _ _ _ _ => trivial) (by kernel_rfl) [(0, true), (1, true), (2, false)] rfl (by kernel_rfl) ?_
  intro KK hKK
  rw [HW1.out]
  iterate 2 (refine sched_take rfl (by rfl) (v := ?_) ?_ ?_; rotate_left; (intro w' hw'; clear hw'; go_simp; with_reducible rfl); go_simp)
  refine sched_val (w' := W2) (v := goInt 16) rfl (by rfl) (by go_simp) trivial ?_
  clear hcp
  go_simp
  refine sched_done hKK ?_
  go_wp2
  go_loopw [4] (fun i wr => ∃ j : Nat, j ≤ 4 ∧ i = .int .i64 ((3 + 4 * j : Nat) : Int) ∧ Hid (MK w g r (clM (3 + 4 * j) 0 key ++ [0]) wr)) (fun i _ => 20 - (intOf i).toNat)
  case atStart => exact ⟨0, by omega, rfl, HM2⟩
  case round =>
    clear HM2
    obtain ⟨j, hj, rfl, hN⟩ := hrel
    obtain ⟨p, hp⟩ : ∃ p, 3 + 4 * j = p := ⟨_, rfl⟩
    rw [hp] at hN ⊢
    by_cases hlt : j < 4
    · have hp16 : (p : Int) < 16 := by omega
      have hp17 : (p : Int) < 17 := by omega
      obtain ⟨cc, fr⟩ := hN.out.now.at_ p (by simp [clM_length]; omega)
      rw [at8_front _ _ (by rw [clM_length]; omega), clM_at p 0 key p (by omega), if_neg (by omega), if_neg (by omega)] at cc
      obtain ⟨x, hx⟩ : ∃ x, (at8 key p).toNat = x := ⟨_, rfl⟩
      have hxb : x < 256 := by rw [← hx]; exact (at8 key p).toNat_lt
      rw [hx] at cc
      have e16 : ((x % 16 : Nat) : Int) = (x : Int) % 16 := by omega
      have hN1 := hN.out.set p (UInt8.ofNat (x % 16))
      rw [set_front _ _ _ (by rw [clM_length]; omega)] at hN1
      have hs := clM_set1 key j hlt
      rw [hp, hx] at hs
      rw [hs] at hN1
      have ev : (UInt8.ofNat (x % 16)).toNat = x % 16 := by simp; omega
      rw [ev] at hN1
      rw [e16] at hN1
      have HN1 : Hid (MK w g r (clM (3 + 4 * (j + 1)) 0 key ++ [0]) (wr.setCell ⟨g, p, none⟩ (.int .u8 ((x : Int) % 16)))) := hN1
      clear hN hN1 hs ev hx e16
      go_wp2
      exact ⟨⟨j + 1, by omega, by go_num, HN1⟩, by simp [intOf]; omega⟩
    · have hp16 : ¬ (p : Int) < 16 := by omega
      have HN4 : Hid (MK w g r (clM 19 4 key ++ [0]) wr) := by
        rw [← clM_next, ← show p = 19 by omega]; exact hN
      clear hN
      go_wp2
      go_loopw [5] (fun i wr => ∃ j : Nat, j ≤ 3 ∧ i = .int .i64 ((4 + 4 * j : Nat) : Int) ∧ Hid (MK w g r (clM 19 (4 + 4 * j) key ++ [0]) wr)) (fun i _ => 20 - (intOf i).toNat)
      case atStart => exact ⟨0, by omega, rfl, HN4⟩
      case round =>
        clear HN4 hp hp16 hlt hj
        obtain ⟨j, hj, rfl, hN⟩ := hrel
        obtain ⟨p, hp⟩ : ∃ p, 4 + 4 * j = p := ⟨_, rfl⟩
        rw [hp] at hN ⊢
        by_cases hlt : j < 3
        · have hp16 : (p : Int) < 16 := by omega
          have hp17 : (p : Int) < 17 := by omega
          obtain ⟨cc, fr⟩ := hN.out.now.at_ p (by simp [clM_length]; omega)
          rw [at8_front _ _ (by rw [clM_length]; omega), clM_at 19 p key p (by omega), if_neg (by omega), if_neg (by omega)] at cc
          obtain ⟨x, hx⟩ : ∃ x, (at8 key p).toNat = x := ⟨_, rfl⟩
          have hxb : x < 256 := by rw [← hx]; exact (at8 key p).toNat_lt
          rw [hx] at cc
          have E1 : Hid (bits .and .u8 (x : Int) 252 = ((x / 4 * 4 : Nat) : Int)) := and8_252 x hxb
          have hN1 := hN.out.set p (UInt8.ofNat (x / 4 * 4))
          rw [set_front _ _ _ (by rw [clM_length]; omega)] at hN1
          have hs := clM_set2 key j hlt
          rw [hp, hx] at hs
          rw [hs] at hN1
          have ev : (UInt8.ofNat (x / 4 * 4)).toNat = x / 4 * 4 := by simp; omega
          rw [ev] at hN1
          have HN1 : Hid (MK w g r (clM 19 (4 + 4 * (j + 1)) key ++ [0]) (wr.setCell ⟨g, p, none⟩ (.int .u8 ((x / 4 * 4 : Nat) : Int)))) := hN1
          clear hN hN1 hs ev hx
          go_wp2
          rw [E1.out]
          exact ⟨⟨j + 1, by omega, by go_num, HN1⟩, by simp [intOf]; omega⟩
        · have hp16 : ¬ (p : Int) < 16 := by omega
          obtain ⟨C, hC⟩ : ∃ C, clampB key ++ [0] = C := ⟨_, rfl⟩
          have hCl : C.length = 17 := by rw [← hC]; simp [clampB_length]
          have HN4 : Hid (MK w g r C wr) := by
            rw [← hC, ← clM_all, ← show p = 16 by omega]; exact hN
          have HC : Hid (clampB key ++ [0] = C) := hC
          have IC : Hid ((Tryd.prog.info? 102).map (·.size) = some (C.map bv).toArray.size) := arr17_info C hCl
          have hst := store_row wr r _ _ (C.map bv) HN4.out.res (by simp [hCl, z17]) (bv_oneCell C)
          have hrow := setRow_heap wr r _ (C.map bv).toArray _ _ HN4.out.res
          have HBel : Hid (Below w.heap.size w (wr.setRow r (C.map bv).toArray)) := below_setRow HN4.out.bel HN4.out.br _
          obtain ⟨W4, hW4⟩ : ∃ W4, wr.setRow r (C.map bv).toArray = W4 := ⟨_, rfl⟩
          rw [hW4] at hst hrow HBel
          have HRow : Hid (W4.heap[r]? = some (.cells (C.map bv).toArray 102 (0, 0))) := hrow
          clear hrow hW4 hC hN
          go_wp2_with (first | (refine wpList_load_row rfl 102 _ rfl g rfl 102 _ (0, 0) _ HN4.out.now Tryd.underlying102 rfl IC.out ?_))
          (try simp only [Exit.inBlock, Exit.then])
          refine bodyPost_ret (results_cell_row rfl _ _ r 102 _ (0, 0) _ rfl HRow.out Tryd.underlying102 rfl IC.out) rfl ?_
          exact ⟨by rw [← HC.out, List.map_append]; rfl, by rw [← hb0]; exact HBel.out⟩
end Go.Proofs.YtdancpcnjklifaaDoor

/- The walks over the program's least and tag. -/
namespace Go.Proofs.YtdancpcnjklifaaDoor
set_option linter.unusedVariables false
set_option maxRecDepth 100000
open Go.RowKit

theorem add64 (x y c : Int) (hx : 0 ≤ x) (hy : 0 ≤ y) (hc0 : 0 ≤ c) (hc : c ≤ 1) (w : World) : (callFunc 86 #[.int .u64 x, .int .u64 y, .int .u64 c]).run Tryd.prog w =
    .ok (.value (.tuple #[.int .u64 ((x + y + c) % 18446744073709551616), .int .u64 ((x + y + c) / 18446744073709551616)])) w := by
  rw [run_callFunc_extern Tryd.func86 (by kernel_rfl) (by kernel_rfl) (by kernel_rfl) (e := add64Entry) (by kernel_rfl), run_add64 x y c hx hy hc0 hc]
  rfl
theorem add64_nat (x y c s o : Nat) (hc : c ≤ 1) (hs : (x + y + c) % 18446744073709551616 = s) (ho : (x + y + c) / 18446744073709551616 = o) (w : World) : (callFunc 86 #[.int .u64 (x : Int), .int .u64 (y : Int), .int .u64 (c : Int)]).run Tryd.prog w =
    .ok (.value (.tuple #[.int .u64 (s : Int), .int .u64 (o : Int)])) w := by
  have e1 : ((x : Int) + (y : Int) + (c : Int)) % 18446744073709551616 = (s : Int) := by omega
  have e2 : ((x : Int) + (y : Int) + (c : Int)) / 18446744073709551616 = (o : Int) := by omega
  rw [add64 _ _ _ (by omega) (by omega) (by omega) (by omega), e1, e2]
theorem pow26 : (67108864 : Nat) ^ 5 = 2 ^ 130 := by decide
theorem or_sum (x y m : Nat) (z : Int) (hz : z = ((y * 2 ^ m : Nat) : Int)) (hx : x < 2 ^ m) (hy : x + y * 2 ^ m < 18446744073709551616) : bits .or .u64 (x : Int) z = ((x + y * 2 ^ m : Nat) : Int) := by
  rw [hz, or_val64 x (y * 2 ^ m) (by omega) (by omega), Nat.or_comm, or_far y x m hx, Nat.add_comm]
theorem low_word (a b c : Nat) (ha : a < 67108864) (hb : b < 67108864) (hc : c < 67108864) :
    bits .or .u64 (bits .or .u64 (a : Int) ((b : Int) * 67108864)) (IntKind.u64.wrap ((c : Int) * 4503599627370496)) = ((a + b * 67108864 + c % 4096 * 4503599627370496 : Nat) : Int) := by
  rw [or_sum a b 26 ((b : Int) * 67108864) (by simp) (by omega) (by omega)]
  exact or_sum (a + b * 67108864) (c % 4096) 52 _ (by rw [IntKind.wrap_u64]; omega) (by omega) (by omega)
theorem high_word (c d e : Nat) (hc : c < 67108864) (hd : d < 67108864) (he : e < 67108864) :
    bits .or .u64 (bits .or .u64 ((c : Int) / 4096) ((d : Int) * 16384)) (IntKind.u64.wrap ((e : Int) * 1099511627776)) = ((c / 4096 + d * 16384 + e % 16777216 * 1099511627776 : Nat) : Int) := by
  rw [show (c : Int) / 4096 = ((c / 4096 : Nat) : Int) by omega, or_sum (c / 4096) d 14 ((d : Int) * 16384) (by simp) (by omega) (by omega)]
  exact or_sum (c / 4096 + d * 16384) (e % 16777216) 40 _ (by rw [IntKind.wrap_u64]; omega) (by omega) (by omega)

set_option maxHeartbeats 400000 in
set_option maxRecDepth 100000 in
theorem least_any (a b c d e : Nat) (w : World) (ha : a < 67108864) (hb : b < 67108864) (hc : c < 67108864) (hd : d < 67108864) (he : e < 67108864) (W : Nat) (hW : valL [a, b, c, d, e] % P1305 = W) :
    Calls Tryd.prog 85 #[.agg ([a, b, c, d, e].map nv).toArray] w fun x w' => x = .returned (.tuple #[.int .u64 ((W % 18446744073709551616 : Nat) : Int), .int .u64 ((W / 18446744073709551616 % 18446744073709551616 : Nat) : Int)]) ∧ Below w.heap.size w w' := by
  show Calls Tryd.prog 85 #[.agg #[.int .u64 (a : Int), .int .u64 (b : Int), .int .u64 (c : Int), .int .u64 (d : Int), .int .u64 (e : Int)]] w _
  obtain ⟨e1, e2, e3⟩ := least_five a b c d e ha hb hc hd he
  have HL0 := low_word a b c ha hb hc
  have HH0 := high_word c d e hc hd he
  rw [e1] at HL0
  rw [e2] at HH0
  have hVb := valL_lt [a, b, c, d, e] (by simp; omega)
  rw [show [a, b, c, d, e].length = 5 from rfl, pow26] at hVb
  have hT0 : (e : Int) / 16777216 = ((e / 16777216 : Nat) : Int) := by omega
  rw [e3] at hT0
  obtain ⟨V, hV⟩ : ∃ V, valL [a, b, c, d, e] = V := ⟨_, rfl⟩
  rw [hV] at HL0 HH0 hVb hW hT0
  obtain ⟨W', hW', hlo, hhi⟩ := tag_words V 0 hVb
  rw [hW] at hW'
  subst hW'
  obtain ⟨L, hL⟩ : ∃ L, V % 18446744073709551616 = L := ⟨_, rfl⟩
  obtain ⟨H, hH⟩ : ∃ H, V / 18446744073709551616 % 18446744073709551616 = H := ⟨_, rfl⟩
  obtain ⟨T, hT⟩ : ∃ T, V / 340282366920938463463374607431768211456 = T := ⟨_, rfl⟩
  rw [hL] at HL0
  rw [hH] at HH0
  rw [hT] at hT0
  obtain ⟨ML, hML⟩ : ∃ ML, (L + 5) % 18446744073709551616 = ML := ⟨_, rfl⟩
  obtain ⟨C1, hC1⟩ : ∃ C1, (L + 5) / 18446744073709551616 = C1 := ⟨_, rfl⟩
  obtain ⟨MH, hMH⟩ : ∃ MH, (H + C1) % 18446744073709551616 = MH := ⟨_, rfl⟩
  obtain ⟨C2, hC2⟩ : ∃ C2, (H + C1) / 18446744073709551616 = C2 := ⟨_, rfl⟩
  have hLb : L < 18446744073709551616 := by omega
  have hHb : H < 18446744073709551616 := by omega
  have hC1b : C1 ≤ 1 := by omega
  have hC2b : C2 ≤ 1 := by omega
  have hTb : T < 4 := by omega
  have A1 : ∀ w', (callFunc 86 #[.int .u64 (L : Int), .int .u64 5, .int .u64 0]).run Tryd.prog w' = .ok (.value (.tuple #[.int .u64 (ML : Int), .int .u64 (C1 : Int)])) w' := add64_nat L 5 0 ML C1 (by omega) (by omega) (by omega)
  have A2 : ∀ w', (callFunc 86 #[.int .u64 (H : Int), .int .u64 0, .int .u64 (C1 : Int)]).run Tryd.prog w' = .ok (.value (.tuple #[.int .u64 (MH : Int), .int .u64 (C2 : Int)])) w' := add64_nat H 0 C1 MH C2 (by omega) (by omega) (by omega)
  have HL : Hid _ := HL0
  have HH : Hid _ := HH0
  have HT : Hid _ := hT0
  have HBel : Hid (Below w.heap.size w (w.alloc (.cells #[.int .u64 (a : Int), .int .u64 (b : Int), .int .u64 (c : Int), .int .u64 (d : Int), .int .u64 (e : Int)] 100))) := (Below.refl _ _).alloc (Nat.le_refl _) _
  by_cases hov : 2 ^ 130 ≤ V + 5
  · obtain ⟨r1, r2⟩ := hhi hov
    have htc : 3 < (T : Int) + (C2 : Int) := by omega
    have R1 : Hid (W' % 18446744073709551616 = ML) := by show _ = _; rw [r1]; omega
    have R2 : Hid (W' / 18446744073709551616 % 18446744073709551616 = MH) := by show _ = _; rw [r2]; omega
    clear HL0 HH0 hT0 e1 e2 e3 hVb hV hW hlo hhi hL hH hT hML hC1 hMH hC2 r1 r2 hov
    go_enter Tryd.func85, Tryd.ntmps85
    go_wp2_with fail
    rw [HL.out, HH.out, HT.out]
    simp only [A1]
    go_wp2_with (first | simp only [A2])
    go_ret2
    exact ⟨by rw [R1.out, R2.out]; rfl, HBel.out⟩
  · obtain ⟨r1, r2⟩ := hlo (by omega)
    have htc : ¬ 3 < (T : Int) + (C2 : Int) := by omega
    have R1 : Hid (W' % 18446744073709551616 = L) := by show _ = _; rw [r1]; omega
    have R2 : Hid (W' / 18446744073709551616 % 18446744073709551616 = H) := by show _ = _; rw [r2]; omega
    clear HL0 HH0 hT0 e1 e2 e3 hVb hV hW hlo hhi hL hH hT hML hC1 hMH hC2 r1 r2 hov
    go_enter Tryd.func85, Tryd.ntmps85
    go_wp2_with fail
    rw [HL.out, HH.out, HT.out]
    simp only [A1]
    go_wp2_with (first | simp only [A2])
    go_ret2
    exact ⟨by rw [R1.out, R2.out]; rfl, HBel.out⟩

/-- The number and the key, each in a block, and the place of the answer. -/
structure TG (w : World) (l : List Nat) (key : List UInt8) (W : World) : Prop where
  num : Num W w.heap.size l
  key : Arr W (w.heap.size + 1) 23 key
  res : Arr W (w.heap.size + 1 + 1) 69 (List.replicate 16 0)
  bel : Below w.heap.size w W
theorem TG.new (w : World) (l : List Nat) (key : List UInt8) : TG w l key (((w.alloc (.cells (l.map nv).toArray 100)).alloc (.cells (key.map bv).toArray 23)).alloc (.cells ((List.replicate 16 0).map bv).toArray 69)) := by
  have h0 : Num (w.alloc (.cells (l.map nv).toArray 100)) w.heap.size l := heap_alloc_new w _
  have h1 := Arr.new (w.alloc (.cells (l.map nv).toArray 100)) 23 key
  have h2 := Arr.new ((w.alloc (.cells (l.map nv).toArray 100)).alloc (.cells (key.map bv).toArray 23)) 69 (List.replicate 16 0)
  rw [World.size_alloc] at h1
  rw [World.size_alloc, World.size_alloc] at h2
  exact ⟨(h0.alloc _).alloc _, h1.alloc _, h2, (((Below.refl _ _).alloc (Nat.le_refl _) _).alloc (by simp) _).alloc (by simp <;> omega) _⟩
theorem TG.later {w W W' : World} {l : List Nat} {key : List UInt8} (t : TG w l key W) (hb : Below W.heap.size W W') : TG w l key W' :=
  ⟨t.num.later hb, t.key.later hb, t.res.later hb, t.bel.trans (hb.mono t.bel.size)⟩
/-- An array of bytes out of wherever the bytes lie. -/
theorem run_loadVar_byt (W : World) (ty : TypeId) (b off n m : Nat) (e : TypeId) (l : List UInt8) (hB : Byt W (some ⟨b, off, none⟩) n l) (hu : Tryd.prog.underlying ty = some (.array m e)) (hi : (Tryd.prog.info? ty).map (·.size) = some n) :
    (loadVar ty ⟨b, off, none⟩).run Tryd.prog W = .ok (.agg (l.map bv).toArray) W := by
  have hl := hB.1
  have hld : (loadCells ⟨b, off, none⟩ n).run Tryd.prog W = .ok (l.map bv).toArray W := by
    have := run_loadCells_list (P := Tryd.prog) W ⟨b, off, none⟩ (l.map bv) (fun j v hv => hB.cells _ rfl j v hv)
    rw [List.length_map, hl] at this
    exact this
  cases hq : Tryd.prog.info? ty with
  | none => simp [hq] at hi
  | some i =>
    have hs : i.size = n := by simpa [hq] using hi
    have hagg : (isAgg ty).run Tryd.prog W = .ok true W := by
      unfold isAgg
      rw [Sem.run_bind, run_underlying hu W]
      simp
    simp [loadVar, Sem.run_bind, hagg, sizeOf, typeInfo, hq, hs, hld]
theorem wpList_load_byt {ops : Array Oper} {rest : List Oper} {o : Oper} {a : Act} {W : World} {Q : Exit → Act → World → Prop} (hgd : o.guard = none) (ty : TypeId) (x : Operand) (ho : o.op = .load ty x)
    (b off n m : Nat) (e : TypeId) (l : List UInt8) (hx : a.eval x = .pointer (some ⟨b, off, none⟩)) (hB : Byt W (some ⟨b, off, none⟩) n l) (hu : Tryd.prog.underlying ty = some (.array m e)) (hi : (Tryd.prog.info? ty).map (·.size) = some n)
    (h : wpList Tryd.prog ops Q rest (a.put o.dst (.agg (l.map bv).toArray)) W) : wpList Tryd.prog ops Q (o :: rest) a W := by
  refine wpList_plain hgd fun K hK => ?_
  unfold Oper.wp execOp
  simp only [ho, hx, Instr.loadAt, Instr.sureAddr, Sem.run_bind, Sem.run_pure, Result.andThen_ok, run_loadVar_byt W ty b off n m e l hB hu hi]
  exact hK _ _ h
theorem arr16_info (l : List UInt8) (hl : l.length = 16) : (Tryd.prog.info? 69).map (·.size) = some (l.map bv).toArray.size := by
  have e1 : (Tryd.prog.info? 69).map (·.size) = some 16 := by kernel_rfl
  rw [e1]; simp [hl]
theorem leB_two : ∀ a b n, leB (a + b) n = leB a n ++ leB b (n / 256 ^ a)
  | 0, b, n => by simp [leB]
  | a + 1, b, n => by
    rw [show a + 1 + b = (a + b) + 1 by omega, leB, leB, leB_two a b (n / 256), Nat.div_div_eq_div_mul, Nat.pow_succ, Nat.mul_comm 256]
    rfl
theorem leB_mod : ∀ a n, leB a (n % 256 ^ a) = leB a n
  | 0, n => rfl
  | a + 1, n => by
    have e1 : n % 256 ^ (a + 1) % 256 = n % 256 := by rw [Nat.pow_succ, Nat.mul_comm]; exact Nat.mod_mul_right_mod n 256 _
    have e2 : n % 256 ^ (a + 1) / 256 = n / 256 % 256 ^ a := by rw [Nat.pow_succ, Nat.mul_comm]; exact Nat.mod_mul_right_div_self n 256 _
    rw [leB, leB, e1, e2, leB_mod a]
theorem tag_bytes (A S LW C HW : Nat) (hS : S < 340282366920938463463374607431768211456) (h1 : (A % 18446744073709551616 + S % 18446744073709551616) % 18446744073709551616 = LW) (h2 : (A % 18446744073709551616 + S % 18446744073709551616) / 18446744073709551616 = C)
    (h3 : (A / 18446744073709551616 % 18446744073709551616 + S / 18446744073709551616 + C) % 18446744073709551616 = HW) : putB 8 LW false ++ putB 8 HW false = leB 16 (A + S) := by
  have e := leB_two 8 8 (A + S)
  have m1 := leB_mod 8 (A + S)
  have m2 := leB_mod 8 ((A + S) / 256 ^ 8)
  have hp : (256 : Nat) ^ 8 = 18446744073709551616 := by decide
  rw [hp] at e m1 m2
  have k1 : (A + S) % 18446744073709551616 = LW := by omega
  have k2 : (A + S) / 18446744073709551616 % 18446744073709551616 = HW := by omega
  rw [k1] at m1
  rw [k2] at m2
  show leB 8 LW ++ leB 8 HW = _
  rw [e, m1, m2]
theorem least_list (l : List Nat) (w : World) (hl : l.length = 5) (hb : ∀ x ∈ l, x < 67108864) (A LO HI : Nat) (hA : valL l % P1305 = A) (h1 : A % 18446744073709551616 = LO) (h2 : A / 18446744073709551616 % 18446744073709551616 = HI) :
    Calls Tryd.prog 85 #[.agg (l.map nv).toArray] w fun x w' => x = .returned (.tuple #[.int .u64 (LO : Int), .int .u64 (HI : Int)]) ∧ Below w.heap.size w w' := by
  obtain ⟨a, b, c, d, e, rfl⟩ := five l hl
  simp only [List.mem_cons, List.not_mem_nil, or_false, forall_eq_or_imp, forall_eq] at hb
  obtain ⟨ha, hb, hc, hd, he⟩ := hb
  have := least_any a b c d e w ha hb hc hd he A hA
  rw [h1, h2] at this
  exact this
theorem polyS_words (key : List UInt8) : getV key false 16 8 = polyS key % 18446744073709551616 ∧ getV key false 24 8 = polyS key / 18446744073709551616 := by
  have h0 : polyS key = leN key / 256 ^ 16 % 256 ^ 16 := leN_cut key 16 16
  rw [getV_cut, getV_cut, h0]
  generalize leN key = N
  have p1 : (256 : Nat) ^ 16 = 340282366920938463463374607431768211456 := by decide
  have p2 : (256 : Nat) ^ 8 = 18446744073709551616 := by decide
  have p3 : (256 : Nat) ^ 24 = 6277101735386680763835789423207666416102355444464034512896 := by decide
  rw [p1, p2, p3]
  omega

set_option maxHeartbeats 400000 in
set_option maxRecDepth 100000 in
theorem tag_any (l : List Nat) (key : List UInt8) (w : World) (hl : l.length = 5) (hb : ∀ x ∈ l, x < 67108864) (hk : key.length = 32) :
    Calls Tryd.prog 68 #[.agg (l.map nv).toArray, .agg (key.map bv).toArray] w fun e w' => e = .returned (.agg ((leB 16 (valL l % P1305 + polyS key)).map bv).toArray) ∧ Below w.heap.size w w' := by
  have IN : Hid ((Tryd.prog.info? 100).map (·.size) = some (l.map nv).toArray.size) := num_info l hl
  go_enter Tryd.func68, Tryd.ntmps68
  go_wp2_with (first | (refine wpList_load_row rfl 100 _ rfl w.heap.size rfl 100 _ (0, 0) _ (TG.new w l key).num Tryd.underlying100 rfl IN.out ?_))
  obtain ⟨A, hA⟩ : ∃ A, valL l % P1305 = A := ⟨_, rfl⟩
  obtain ⟨S, hS⟩ : ∃ S, polyS key = S := ⟨_, rfl⟩
  obtain ⟨LO, hLO⟩ : ∃ LO, A % 18446744073709551616 = LO := ⟨_, rfl⟩
  obtain ⟨HI, hHI⟩ : ∃ HI, A / 18446744073709551616 % 18446744073709551616 = HI := ⟨_, rfl⟩
  obtain ⟨s0, s1⟩ := polyS_words key
  have hSb := polyS_lt key
  rw [hS] at s0 s1 hSb
  have hSb' : S < 340282366920938463463374607431768211456 := hSb
  obtain ⟨S0, hS0⟩ : ∃ S0, S % 18446744073709551616 = S0 := ⟨_, rfl⟩
  obtain ⟨S1, hS1⟩ : ∃ S1, S / 18446744073709551616 = S1 := ⟨_, rfl⟩
  rw [hS0] at s0
  rw [hS1] at s1
  obtain ⟨LW, hLW⟩ : ∃ LW, (LO + S0) % 18446744073709551616 = LW := ⟨_, rfl⟩
  obtain ⟨C, hC⟩ : ∃ C, (LO + S0) / 18446744073709551616 = C := ⟨_, rfl⟩
  obtain ⟨HW, hHW⟩ : ∃ HW, (HI + S1 + C) % 18446744073709551616 = HW := ⟨_, rfl⟩
  obtain ⟨D, hD⟩ : ∃ D, (HI + S1 + C) / 18446744073709551616 = D := ⟨_, rfl⟩
  have HE : Hid (putB 8 LW false ++ putB 8 HW false = leB 16 (A + S)) := tag_bytes A S LW C HW hSb' (by rw [hLO, hS0]; exact hLW) (by rw [hLO, hS0]; exact hC) (by rw [hHI, hS1]; exact hHW)
  have A1 : ∀ w', (callFunc 86 #[.int .u64 (LO : Int), .int .u64 (S0 : Int), .int .u64 0]).run Tryd.prog w' = .ok (.value (.tuple #[.int .u64 (LW : Int), .int .u64 (C : Int)])) w' := add64_nat LO S0 0 LW C (by omega) (by omega) (by omega)
  have A2 : ∀ w', (callFunc 86 #[.int .u64 (HI : Int), .int .u64 (S1 : Int), .int .u64 (C : Int)]).run Tryd.prog w' = .ok (.value (.tuple #[.int .u64 (HW : Int), .int .u64 (D : Int)])) w' := add64_nat HI S1 C HW D (by omega) (by omega) (by omega)
  have HAS : Hid (leB 16 (valL l % P1305 + polyS key) = leB 16 (A + S)) := by show _ = _; rw [hA, hS]
  refine (least_list l _ hl hb A LO HI hA hLO hHI).mono ?_
  rintro e w1 ⟨rfl, hb1⟩
  have HT1 : Hid (TG w l key w1) := (TG.new w l key).later hb1
  have HK1 : Hid (Byt w1 (some ⟨w.heap.size + 1, 0, none⟩) 32 key) := HT1.out.key.byt 32 hk
  clear hb1 hA hS hLO hHI hSb hSb' hS0 hS1 hLW hC hHW hD
  go_wp2_with fail
  refine (get_yes (w.heap.size + 1) 0 32 32 16 8 false key _ (by unfold maxLen; omega) (by omega) HK1.out (by omega) (by omega) (by omega)).mono ?_
  rintro e w2 ⟨rfl, rfl⟩
  rw [s0]
  go_wp2_with fail
  refine (get_yes (w.heap.size + 1) 0 32 32 24 8 false key _ (by unfold maxLen; omega) (by omega) HK1.out (by omega) (by omega) (by omega)).mono ?_
  rintro e w3 ⟨rfl, rfl⟩
  rw [s1]
  go_wp2_with (first | rw [A1] | rw [A2])
  refine (put_any none 0 0 8 LW false [] _ (by omega) ⟨rfl, .inl rfl⟩ 8 (by decide)).mono ?_
  rintro e w4 ⟨g4, rfl, hg4, hb4, hB4⟩
  have HT4 : Hid (TG w l key w4) := HT1.out.later hb4
  have HB4 : Hid (Byt w4 (some ⟨g4, 0, none⟩) 8 (putB 8 LW false)) := hB4
  clear hb4 hB4
  go_wp2_with fail
  refine (put_any (some ⟨g4, 0, none⟩) 8 8 8 HW false _ _ (by omega) HB4.out 8 (by decide)).mono ?_
  rintro e w5 ⟨g5, rfl, hg5, hb5, hB5⟩
  have HT5 : Hid (TG w l key w5) := HT4.out.later hb5
  have hB5' : Byt w5 (some ⟨g5, 0, none⟩) 16 (leB 16 (A + S)) := by rw [← HE.out]; exact hB5
  obtain ⟨T, hT⟩ : ∃ T, leB 16 (A + S) = T := ⟨_, rfl⟩
  have hTl : T.length = 16 := by rw [← hT, leB_length]
  rw [hT] at hB5'
  have HT : Hid (leB 16 (valL l % P1305 + polyS key) = T) := HAS.out.trans hT
  have hat : (Instr.arrayAt 69 (.slice (some ⟨g5, 0, none⟩) 16 16)).run Tryd.prog w5 = .ok (.pointer (some ⟨g5, 0, none⟩)) w5 := by simp [Instr.arrayAt, run_underlying Tryd.underlying69]
  have HB5 : Hid (Byt w5 (some ⟨g5, 0, none⟩) 16 T) := hB5'
  have IT : Hid ((Tryd.prog.info? 69).map (·.size) = some (T.map bv).toArray.size) := arr16_info T hTl
  have hst := store_row w5 (w.heap.size + 1 + 1) _ _ (T.map bv) HT5.out.res (by simp [hTl]) (bv_oneCell T)
  have hrow := setRow_heap w5 (w.heap.size + 1 + 1) _ (T.map bv).toArray _ _ HT5.out.res
  have HBel : Hid (Below w.heap.size w (w5.setRow (w.heap.size + 1 + 1) (T.map bv).toArray)) := below_setRow HT5.out.bel (by omega) _
  obtain ⟨W4, hW4⟩ : ∃ W4, w5.setRow (w.heap.size + 1 + 1) (T.map bv).toArray = W4 := ⟨_, rfl⟩
  rw [hW4] at hst hrow HBel
  have HRow : Hid (W4.heap[w.heap.size + 1 + 1]? = some (.cells (T.map bv).toArray 69 (0, 0))) := hrow
  clear hb5 hB5 hrow hW4 hT hB5'
  go_wp2_with (first | refine wpList_load_byt rfl 69 _ rfl g5 0 16 16 5 T rfl HB5.out Tryd.underlying69 (by kernel_rfl) ?_)
  (try simp only [Exit.inBlock, Exit.then])
  refine bodyPost_ret (results_cell_row rfl _ _ (w.heap.size + 1 + 1) 69 _ (0, 0) _ rfl HRow.out Tryd.underlying69 rfl IT.out) rfl ?_
  exact ⟨by rw [HT.out], HBel.out⟩
end Go.Proofs.YtdancpcnjklifaaDoor

/- The walk over the program's Sum (poly): what it answers, whatever it is handed. -/
namespace Go.Proofs.YtdancpcnjklifaaDoor
set_option linter.unusedVariables false
set_option maxRecDepth 100000
open Go.RowKit

/-- What Sum has: the key, the place of its answer, R, and A. -/
structure SM (w : World) (key : List UInt8) (gr ga : Nat) (R A : List Nat) (W : World) : Prop where
  key : Arr W w.heap.size 23 key
  res : Arr W (w.heap.size + 1) 69 (List.replicate 16 0)
  r : Num W gr R
  a : Num W ga A
  ne : gr ≠ ga
  ba : w.heap.size + 1 < ga
  bel : Below w.heap.size w W
theorem SM.later {w W W' : World} {key : List UInt8} {gr ga : Nat} {R A : List Nat} (t : SM w key gr ga R A W) (hb : Below W.heap.size W W') : SM w key gr ga R A W' :=
  ⟨t.key.later hb, t.res.later hb, t.r.later hb, t.a.later hb, t.ne, t.ba, t.bel.trans (hb.mono t.bel.size)⟩
theorem SM.put {w W : World} {key : List UInt8} {gr ga : Nat} {R A : List Nat} (t : SM w key gr ga R A W) (A' : List Nat) : SM w key gr ga R A' (W.setRow ga (A'.map nv).toArray) := by
  have h1 := t.ba
  refine ⟨t.key.keep (by omega) _, t.res.keep (by omega) _, ?_, setRow_heap W ga _ _ _ _ t.a, t.ne, t.ba, below_setRow t.bel (by omega) _⟩
  unfold Num
  rw [setRow_other _ _ _ _ t.ne]
  exact t.r
structure SKP (w : World) (key : List UInt8) (W : World) : Prop where
  key : Arr W w.heap.size 23 key
  res : Arr W (w.heap.size + 1) 69 (List.replicate 16 0)
  bel : Below w.heap.size w W
theorem SKP.new (w : World) (key : List UInt8) : SKP w key ((w.alloc (.cells (key.map bv).toArray 23)).alloc (.cells ((List.replicate 16 0).map bv).toArray 69)) := by
  obtain ⟨a1, a0⟩ := arr_new2 w 23 key (List.replicate 16 0) 69
  exact ⟨a0, a1, ((Below.refl _ _).alloc (Nat.le_refl _) _).alloc (by simp) _⟩
theorem SKP.later {w W W' : World} {key : List UInt8} (t : SKP w key W) (hb : Below W.heap.size W W') : SKP w key W' :=
  ⟨t.key.later hb, t.res.later hb, t.bel.trans (hb.mono t.bel.size)⟩
theorem SM.new {w W : World} {key : List UInt8} (t : SKP w key W) (R : List Nat) : SM w key W.heap.size (W.heap.size + 1) R [0, 0, 0, 0, 0] ((W.alloc (.cells (R.map nv).toArray 100)).alloc (.cells #[.int .u64 0, .int .u64 0, .int .u64 0, .int .u64 0, .int .u64 0] 100)) := by
  obtain ⟨h1, h2⟩ := num_new2 W R [0, 0, 0, 0, 0]
  have h3 := t.res.lt
  refine ⟨(t.key.alloc _).alloc _, (t.res.alloc _).alloc _, h2, h1, by omega, by omega, (t.bel.alloc t.bel.size _).alloc (by have := t.bel.size; simp; omega) _⟩
theorem run_store_num (w : World) (l : List Nat) (hn : l.length = 5) (c : Array Value) (hc : c.size = 5) :
    (storeCells ⟨w.heap.size, 0, none⟩ (l.map nv)).run Tryd.prog (w.alloc (.cells c 100)) = .ok () (w.alloc (.cells (l.map nv).toArray 100)) := by
  have e1 : (Tryd.prog.info? 100).map (·.size) = some 5 := by kernel_rfl
  have := run_storeCells_new (P := Tryd.prog) w 100 c (l.map nv).toArray (by rw [e1]; simp [hn]) (by simp [hc, hn]) (by
    rw [Array.all_eq_true_iff_forall_mem]
    intro u hu
    simp only [List.mem_toArray] at hu
    exact nv_oneCell l u hu)
  exact this
theorem mod_step (x y r p : Nat) : (x + y) * r % p = (x % p + y) * r % p := by
  rw [Nat.mul_mod (x + y), Nat.mul_mod (x % p + y), Nat.mod_add_mod]
/-- A, behind k parts. -/
structure AK (key l : List UInt8) (k : Nat) (A : List Nat) : Prop where
  len : A.length = 5
  lt : ∀ x ∈ A, x < 67108864
  val : valL A % P1305 = polyTo (polyR key) l k
theorem AK.zero (key l : List UInt8) : AK key l 0 [0, 0, 0, 0, 0] := ⟨rfl, by simp, rfl⟩
theorem AK.next {key l : List UInt8} {k : Nat} {A : List Nat} (h : AK key l k A) : AK key l (k + 1) (timL (addTo A (limbs (partN l k)) 5) (limbs (polyR key))) := by
  have h1 := addTo_length A (limbs (partN l k)) 5
  rw [h.len] at h1
  refine ⟨timL_length _ _, timL_lt _ _ (addTo_lt A _ h.len (limbs_length _) h.lt (limbs_lt _)) (limbs_lt _), ?_⟩
  rw [timL_val _ _ h1 (limbs_length _), addTo_val A _ h.len (limbs_length _), limbs_val _ (partN_small l k), limbs_val _ (polyR_small key), polyTo, ← h.val]
  exact mod_step _ _ _ _

set_option maxHeartbeats 400000 in
set_option maxRecDepth 100000 in
theorem sum_any (key : List UInt8) (a : Option Addr) (len cap : Nat) (l : List UInt8) (w : World) (hk : key.length = 32) (hB : Byt w a len l) (hlm : len ≤ 10000) (hlc : len ≤ cap) (hcm : cap ≤ maxLen) :
    Calls Tryd.prog 48 #[.agg (key.map bv).toArray, .slice a len cap] w fun e w' => e = .returned (.agg ((tag key l).map bv).toArray) ∧ Below w.heap.size w w' := by
  have hl := hB.1
  have HB : Hid (Byt w a len l) := hB
  have IK : Hid ((Tryd.prog.info? 23).map (·.size) = some (key.map bv).toArray.size) := by
    have e1 : (Tryd.prog.info? 23).map (·.size) = some 32 := by kernel_rfl
    show _ = _
    rw [e1]; simp [hk]
  unfold maxLen at hcm
  clear hB
  go_enter Tryd.func48, Tryd.ntmps48
  go_wp2_with (first | refine wpList_load_row rfl 23 _ rfl w.heap.size rfl 23 _ (0, 0) _ (SKP.new w key).key Tryd.underlying23 rfl IK.out ?_)
  refine (multiplier_any key _ hk).mono ?_
  rintro e w1 ⟨rfl, hb1⟩
  have HS1 : Hid (SKP w key w1) := (SKP.new w key).later hb1
  obtain ⟨C, hC⟩ : ∃ C, clampB key ++ [0] = C := ⟨_, rfl⟩
  have hCl : C.length = 17 := by rw [← hC]; simp [clampB_length]
  have eR : leN C = polyR key := by rw [← hC, leN_append]; simp [leN, polyR]
  rw [hC]
  clear hb1 hC
  go_wp2_with fail
  refine (tell_any C w1 hCl).mono ?_
  rintro e w2 ⟨rfl, hb2⟩
  have HS2 : Hid (SKP w key w2) := HS1.out.later hb2
  rw [eR]
  obtain ⟨R, hR⟩ : ∃ R, limbs (polyR key) = R := ⟨_, rfl⟩
  have hRl : R.length = 5 := by rw [← hR, limbs_length]
  have hRb : ∀ x ∈ R, x < 67108864 := by rw [← hR]; exact limbs_lt _
  rw [hR]
  have HR : Hid (limbs (polyR key) = R) := hR
  have hst := run_store_num w2 R hRl #[.int .u64 0, .int .u64 0, .int .u64 0, .int .u64 0, .int .u64 0] rfl
  clear hb2 HS1 hR eR
  go_wp2
  clear hst
  refine from_world (P := Code.wp Tryd.prog _ _ _) (R := fun W => Hid (SM w key w2.heap.size (w2.heap.size + 1) R [0, 0, 0, 0, 0] W)) _ (SM.new HS2.out R) ?_
  intro W0 hM0
  clear HS2
  generalize w2.heap.size + 1 = ga at hM0 ⊢
  generalize w2.heap.size = gr at hM0 ⊢
  go_loopw [7] (fun i wr => ∃ (k : Nat) (A : List Nat), 16 * k ≤ len + 15 ∧ i = .int .i64 ((16 * k : Nat) : Int) ∧ Hid (AK key l k A) ∧ Hid (SM w key gr ga R A wr)) (fun i _ => len + 16 - (intOf i).toNat)
  case atStart => exact ⟨0, [0, 0, 0, 0, 0], by omega, rfl, AK.zero key l, hM0⟩
  case round =>
    clear hM0
    obtain ⟨k, A, hk', rfl, hA, hM⟩ := hrel
    obtain ⟨p, hp⟩ : ∃ p, 16 * k = p := ⟨_, rfl⟩
    rw [hp] at hk' ⊢
    by_cases hlt : p < len
    · have i1 : (p : Int) < (len : Int) := by omega
      obtain ⟨q, hq⟩ : ∃ q, q = min (p + 16) len := ⟨_, rfl⟩
      have hq1 : p < q := by omega
      have hq2 : q ≤ len := by omega
      have hq3 : q - p ≤ 16 := by omega
      have hw16 : IntKind.i64.wrap ((p : Int) + 16) = (p : Int) + 16 := by rw [IntKind.wrap_i64]; omega
      have hmin : (if (len : Int) < (p : Int) + 16 then (len : Int) else (p : Int) + 16) = (q : Int) := by split <;> omega
      have HPart : Hid ((l.drop p).take (q - p) = cutB l (16 * k) 16) := by
        show _ = _
        unfold cutB
        rw [hp]
        apply List.ext_getElem
        · simp; omega
        · intro i h1 h2; simp
      clear hq
      obtain ⟨ba, offa, rfl⟩ : ∃ ba offa, a = some ⟨ba, offa, none⟩ := by
        rcases HB.out.2 with h0 | ⟨b', off', e, _⟩
        · omega
        · exact ⟨b', off', e⟩
      have hba := HB.out.lt (by omega)
      have hcn : ¬ cap = p := by omega
      have hpc : (p : Int) ≤ (cap : Int) := by omega
      have hqc : (q : Int) ≤ (cap : Int) := by omega
      have hpq : (p : Int) ≤ (q : Int) := by omega
      obtain ⟨W1, hW1⟩ : ∃ W1, wr.drew = W1 := ⟨_, rfl⟩
      have hgr : Below wr.heap.size wr W1 := by rw [← hW1]; exact (Below.refl _ _).drew
      have HM1 : Hid (SM w key gr ga R A W1) := hM.out.later hgr
      have HP1 : Hid (Byt W1 (some ⟨ba, offa + p, none⟩) (q - p) (cutB l (16 * k) 16)) := by
        rw [← HPart.out]
        exact (HB.out.below hba HM1.out.bel).sub (by omega) hq2
      have HW1 : Hid (wr.drew = W1) := hW1
      have IA : Hid ((Tryd.prog.info? 100).map (·.size) = some (A.map nv).toArray.size) := num_info A hA.out.len
      have IR : Hid ((Tryd.prog.info? 100).map (·.size) = some (R.map nv).toArray.size) := num_info R hRl
      clear hW1 hgr hM
      go_wp2
      refine wp_region_sched' (G := Grows) (by kernel_rfl) Grows.refl Grows.trans (by kernel_rfl) [(0, true), (1, true), (2, true), (3, true), (4, true), (5, true), (6, true), (7, true), (8, true), (12, true), (9, false), (10, false), (11, false), (13, false), (14, false)] rfl (by kernel_rfl) ?_
      intro KK hKK
      rw [HW1.out]
      refine sched_take rfl (by rfl) (v := .agg (A.map nv).toArray) (fun w' hw' => exec_load_row 100 _ rfl ga rfl 100 _ (0, 0) _ (HM1.out.a.later hw') Tryd.underlying100 rfl IA.out) ?_
      go_simp
      iterate 8 (refine sched_take rfl (by rfl) (v := ?_) ?_ ?_; rotate_left; (intro w' hw'; clear hw'; go_simp; with_reducible rfl); go_simp)
      refine sched_take rfl (by rfl) (v := .agg (R.map nv).toArray) (fun w' hw' => exec_load_row 100 _ rfl gr rfl 100 _ (0, 0) _ (HM1.out.r.later hw') Tryd.underlying100 rfl IR.out) ?_
      go_simp
      refine sched_call (f := 66) (args := #[.slice (some ⟨ba, offa + p, none⟩) (q - p) (cap - p)]) rfl (by rfl) (by go_simp) ?_
      refine (closed_any ba (offa + p) (q - p) (cap - p) _ W1 HP1.out hq3).mono ?_
      rintro e w3 ⟨rfl, hb3⟩
      refine ⟨_, rfl, hb3, ?_⟩
      obtain ⟨D, hD⟩ : ∃ D, cutB l (16 * k) 16 ++ 1 :: List.replicate (16 - (q - p)) 0 = D := ⟨_, rfl⟩
      have hDl : D.length = 17 := by rw [← hD]; have := HP1.out.1; simp; omega
      have eD : leN D = partN l k := by
        have e : cutB l (16 * k) 16 ++ 1 :: List.replicate (16 - (q - p)) 0 = (cutB l (16 * k) 16 ++ [1]) ++ List.replicate (16 - (q - p)) 0 := by simp
        rw [← hD, e, leN_closed]; rfl
      rw [hD]
      have HM3 : Hid (SM w key gr ga R A w3) := HM1.out.later hb3
      clear hD hb3 HP1 HM1
      go_simp
      refine sched_call (f := 63) (args := #[.agg (D.map bv).toArray]) rfl (by rfl) (by go_simp) ?_
      refine (tell_any D w3 hDl).mono ?_
      rintro e w4 ⟨rfl, hb4⟩
      refine ⟨_, rfl, hb4, ?_⟩
      rw [eD]
      obtain ⟨N, hN⟩ : ∃ N, limbs (partN l k) = N := ⟨_, rfl⟩
      have hNl : N.length = 5 := by rw [← hN, limbs_length]
      have hNb : ∀ x ∈ N, x < 67108864 := by rw [← hN]; exact limbs_lt _
      rw [hN]
      have HM4 : Hid (SM w key gr ga R A w4) := HM3.out.later hb4
      clear hb4 HM3
      go_simp
      refine sched_call (f := 65) (args := #[.agg (A.map nv).toArray, .agg (N.map nv).toArray]) rfl (by rfl) (by go_simp) ?_
      refine (add_any A N w4 hA.out.len hNl (fun x hx => Nat.lt_trans (hA.out.lt x hx) (by decide)) (fun x hx => Nat.lt_trans (hNb x hx) (by decide))).mono ?_
      rintro e w5 ⟨rfl, hb5⟩
      refine ⟨_, rfl, hb5, ?_⟩
      obtain ⟨S, hS⟩ : ∃ S, addTo A N 5 = S := ⟨_, rfl⟩
      have hSl : S.length = 5 := by rw [← hS, addTo_length]; exact hA.out.len
      have hSb : ∀ x ∈ S, x < 134217728 := by rw [← hS]; exact addTo_lt A N hA.out.len hNl hA.out.lt hNb
      rw [hS]
      have HM5 : Hid (SM w key gr ga R A w5) := HM4.out.later hb5
      clear hb5 HM4
      go_simp
      refine sched_call (f := 67) (args := #[.agg (S.map nv).toArray, .agg (R.map nv).toArray]) rfl (by rfl) (by go_simp) ?_
      refine (times_any S R w5 hSl hRl hSb hRb).mono ?_
      rintro e w6 ⟨rfl, hb6⟩
      refine ⟨_, rfl, hb6, ?_⟩
      obtain ⟨A', hA'⟩ : ∃ A', timL S R = A' := ⟨_, rfl⟩
      have hAl' : A'.length = 5 := by rw [← hA', timL_length]
      have HAK : Hid (AK key l (k + 1) A') := by
        have := hA.out.next
        rw [HR.out, hN, hS, hA'] at this
        exact this
      rw [hA']
      have hM6 := HM5.out.later hb6
      have hst := store_row w6 ga _ _ (A'.map nv) hM6.a (by simp [hAl', hA.out.len]) (nv_oneCell A')
      have HM7 : Hid (SM w key gr ga R A' (w6.setRow ga (A'.map nv).toArray)) := hM6.put A'
      clear hb6 HM5 hM6
      go_simp
      refine sched_store rfl (by rfl) (w' := w6.setRow ga (A'.map nv).toArray) (by go_simp) (by kernel_rfl) ?_
      go_simp
      refine sched_done hKK ?_
      clear hst
      go_wp2
      exact ⟨⟨k + 1, A', by omega, by go_num, HAK, HM7⟩, by simp [intOf]; omega⟩
    · have i1 : ¬ (p : Int) < (len : Int) := by omega
      have hkn : k = polyN l.length := by unfold polyN; omega
      have IA : Hid ((Tryd.prog.info? 100).map (·.size) = some (A.map nv).toArray.size) := num_info A hA.out.len
      obtain ⟨T, hT⟩ : ∃ T, tag key l = T := ⟨_, rfl⟩
      have hTl : T.length = 16 := by rw [← hT, tag_length]
      have HT : Hid (leB 16 (valL A % P1305 + polyS key) = T) := by
        show _ = _
        rw [hA.out.val, hkn, ← hT]; rfl
      have HTT : Hid (tag key l = T) := hT
      clear hT
      go_wp2_with (first | refine wpList_load_row rfl 100 _ rfl ga rfl 100 _ (0, 0) _ hM.out.a Tryd.underlying100 rfl IA.out ?_ | refine wpList_load_row rfl 23 _ rfl w.heap.size rfl 23 _ (0, 0) _ hM.out.key Tryd.underlying23 rfl IK.out ?_)
      refine (tag_any A key wr hA.out.len hA.out.lt hk).mono ?_
      rintro e w3 ⟨rfl, hb3⟩
      rw [HT.out]
      have hM3 := hM.out.later hb3
      have IT : Hid ((Tryd.prog.info? 69).map (·.size) = some (T.map bv).toArray.size) := arr16_info T hTl
      have hst := store_row w3 (w.heap.size + 1) _ _ (T.map bv) hM3.res (by simp [hTl]) (bv_oneCell T)
      have hrow := setRow_heap w3 (w.heap.size + 1) _ (T.map bv).toArray _ _ hM3.res
      have HBel : Hid (Below w.heap.size w (w3.setRow (w.heap.size + 1) (T.map bv).toArray)) := below_setRow hM3.bel (by omega) _
      obtain ⟨W4, hW4⟩ : ∃ W4, w3.setRow (w.heap.size + 1) (T.map bv).toArray = W4 := ⟨_, rfl⟩
      rw [hW4] at hst hrow HBel
      have HRow : Hid (W4.heap[w.heap.size + 1]? = some (.cells (T.map bv).toArray 69 (0, 0))) := hrow
      clear hrow hW4 hM3 hb3 hM
      go_wp2
      (try simp only [Exit.inBlock, Exit.then])
      refine bodyPost_ret (results_cell_row rfl _ _ (w.heap.size + 1) 69 _ (0, 0) _ rfl HRow.out Tryd.underlying69 rfl IT.out) rfl ?_
      exact ⟨by rw [HTT.out], HBel.out⟩
end Go.Proofs.YtdancpcnjklifaaDoor
