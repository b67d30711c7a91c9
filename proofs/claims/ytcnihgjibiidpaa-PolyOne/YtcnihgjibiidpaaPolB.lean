/- The walks over the program's add and times. -/
import Derived.Test.YtcnihgjibiidpaaPolA
namespace Go.Proofs.Ytcnihgjibiidpaa
set_option linter.unusedVariables false
open Go.RowKit

/-- A number that changes, one that stays, and the place of an answer. -/
structure N3 (w : World) (g h r : Nat) (l m : List Nat) (W : World) : Prop where
  now : Num W g l
  oth : Num W h m
  res : Num W r [0, 0, 0, 0, 0]
  nh : h ≠ g
  nr : r ≠ g
  bg : w.heap.size ≤ g
  br : w.heap.size ≤ r
  bel : Below w.heap.size w W
theorem N3.set {w W : World} {g h r : Nat} {l m : List Nat} (t : N3 w g h r l m W) (i x : Nat) : N3 w g h r (l.set i x) m (W.setCell ⟨g, i, none⟩ (nv x)) := by
  have hg := t.bg
  exact ⟨t.now.set i x, t.oth.other t.nh i _, t.res.other t.nr i _, t.nh, t.nr, t.bg, t.br, t.bel.setCell (p := ⟨g, i, none⟩) (by show _ ≤ g; omega) _⟩
theorem N3.drew {w W : World} {g h r : Nat} {l m : List Nat} (t : N3 w g h r l m W) : N3 w g h r l m W.drew :=
  ⟨t.now, t.oth, t.res, t.nh, t.nr, t.bg, t.br, t.bel.drew⟩
theorem num_new2 (w : World) (l m : List Nat) : Num ((w.alloc (.cells (l.map nv).toArray 51)).alloc (.cells (m.map nv).toArray 51)) (w.heap.size + 1) m ∧ Num ((w.alloc (.cells (l.map nv).toArray 51)).alloc (.cells (m.map nv).toArray 51)) w.heap.size l := by
  constructor
  · have := heap_alloc_new (w.alloc (.cells (l.map nv).toArray 51)) (.cells (m.map nv).toArray 51)
    rw [World.size_alloc] at this
    exact this
  · unfold Num
    rw [Below.heap_alloc _ _ _ (by simp)]
    exact heap_alloc_new w _
theorem Num.alloc {w : World} {g : Nat} {l : List Nat} (h : Num w g l) (o : Obj) : Num (w.alloc o) g l := by
  unfold Num
  rw [Below.heap_alloc _ _ _ h.lt]
  exact h
theorem N3.new (w : World) (l m : List Nat) : N3 w w.heap.size (w.heap.size + 1) (w.heap.size + 1 + 1) l m (((w.alloc (.cells (l.map nv).toArray 51)).alloc (.cells (m.map nv).toArray 51)).alloc (.cells #[.int .u64 0, .int .u64 0, .int .u64 0, .int .u64 0, .int .u64 0] 51)) := by
  obtain ⟨h1, h2⟩ := num_new2 w l m
  refine ⟨h2.alloc _, h1.alloc _, ?_, by omega, by omega, by omega, by omega, ?_⟩
  · have := heap_alloc_new ((w.alloc (.cells (l.map nv).toArray 51)).alloc (.cells (m.map nv).toArray 51)) (.cells #[.int .u64 0, .int .u64 0, .int .u64 0, .int .u64 0, .int .u64 0] 51)
    rw [World.size_alloc, World.size_alloc] at this
    exact this
  · exact (((Below.refl _ _).alloc (Nat.le_refl _) _).alloc (by simp) _).alloc (by simp <;> omega) _

set_option maxHeartbeats 400000 in
set_option maxRecDepth 100000 in
theorem add_any (l m : List Nat) (w : World) (hl : l.length = 5) (hm : m.length = 5) (hb : ∀ x ∈ l, x < 4611686018427387904) (hc : ∀ x ∈ m, x < 4611686018427387904) :
    Calls Try.prog 25 #[.agg (l.map nv).toArray, .agg (m.map nv).toArray] w fun e w' => e = .returned (.agg ((addTo l m 5).map nv).toArray) ∧ Below w.heap.size w w' := by
  go_enter Try.func25, Try.ntmps25
  go_wp2
  refine from_world (P := Code.wp Try.prog _ _ _) (R := fun W => Hid (N3 w w.heap.size (w.heap.size + 1) (w.heap.size + 1 + 1) l m W)) _ (N3.new w l m) ?_
  intro W0 hN0
  generalize hg : w.heap.size = g at hN0 ⊢
  generalize hh : g + 1 = h at hN0 ⊢
  generalize hr : h + 1 = r at hN0 ⊢
  go_loopw [6] (fun i wr => ∃ k : Nat, k ≤ 5 ∧ i = .int .i64 k ∧ Hid (N3 w g h r (addTo l m k) m wr)) (fun i _ => 5 - (intOf i).toNat)
  case atStart => exact ⟨0, by omega, rfl, hN0⟩
  case round =>
    clear hN0
    obtain ⟨k, hk, rfl, hN⟩ := hrel
    by_cases hlt : k < 5
    · have hki : (k : Int) < 5 := by omega
      obtain ⟨a, ha⟩ : ∃ a, atD (addTo l m k) k = a := ⟨_, rfl⟩
      obtain ⟨b, hb'⟩ : ∃ b, atD m k = b := ⟨_, rfl⟩
      obtain ⟨W1, hW1⟩ : ∃ W1, wr.drew = W1 := ⟨_, rfl⟩
      have hN1 := hN.out.drew
      rw [hW1] at hN1
      obtain ⟨c1, f1⟩ := hN1.now.word k (by rw [addTo_length]; omega)
      obtain ⟨c2, f2⟩ := hN1.oth.word k (by omega)
      rw [ha] at c1
      rw [hb'] at c2
      have hab : a < 4611686018427387904 := by rw [← ha, addTo_at l m k k (Nat.le_refl _)]; exact atD_bound l _ (by omega) hb k
      have hbb : b < 4611686018427387904 := by rw [← hb']; exact atD_bound m _ (by omega) hc k
      obtain ⟨W2, hW2⟩ : ∃ W2, W1.setCell ⟨g, k, none⟩ (.int .u64 ((a : Int) + (b : Int))) = W2 := ⟨_, rfl⟩
      have HN2 : Hid (N3 w g h r (addTo l m (k + 1)) m W2) := by rw [addTo, ha, hb', ← hW2]; exact hN1.set k (a + b)
      have E1 : Hid (IntKind.u64.wrap ((a : Int) + (b : Int)) = (a : Int) + (b : Int)) := by show _ = _; rw [IntKind.wrap_u64]; omega
      have HW1 : Hid (wr.drew = W1) := hW1
      have HW2 : Hid (W1.setCell ⟨g, k, none⟩ (.int .u64 ((a : Int) + (b : Int))) = W2) := hW2
      clear hN hN1 hW1 hW2 ha hb'
      go_wp2
      refine wp_region_sched' (G := Stays) (by kernel_rfl) Stays.refl Stays.trans (by kernel_rfl) [(0, true), (1, true), (2, true), (3, true), (4, true), (5, true), (6, true), (7, true), (8, false)] rfl (by kernel_rfl) ?_
      intro KK hKK
      rw [HW1.out]
      iterate 8 (refine sched_take rfl (by rfl) (v := ?_) ?_ ?_; rotate_left; (rintro w' rfl; go_simp; with_reducible rfl); go_simp)
      refine sched_store rfl (by rfl) (w' := W2) (by rw [← HW2.out]; go_simp; rw [E1.out]) (by kernel_rfl) ?_
      go_simp
      refine sched_done hKK ?_
      go_wp2
      exact ⟨⟨k + 1, by omega, by go_num, HN2⟩, by simp [intOf]; omega⟩
    · have ek : k = 5 := by omega
      subst ek
      have hkr : ¬ ((5 : Nat) : Int) < 5 := by omega
      obtain ⟨s, hs⟩ : ∃ s, addTo l m 5 = s := ⟨_, rfl⟩
      have hsl : s.length = 5 := by rw [← hs, addTo_length, hl]
      rw [hs] at hN
      have HS : Hid (addTo l m 5 = s) := hs
      have IB : Hid ((Try.prog.info? 51).map (·.size) = some (s.map nv).toArray.size) := num_info s hsl
      have hst := store_row wr r _ _ (s.map nv) hN.out.res (by simp [hsl]) (nv_oneCell s)
      have hrow := setRow_heap wr r _ (s.map nv).toArray _ _ hN.out.res
      have HBel : Hid (Below w.heap.size w (wr.setRow r (s.map nv).toArray)) := below_setRow hN.out.bel hN.out.br _
      obtain ⟨W4, hW4⟩ : ∃ W4, wr.setRow r (s.map nv).toArray = W4 := ⟨_, rfl⟩
      rw [hW4] at hst hrow HBel
      have HRow : Hid (W4.heap[r]? = some (.cells (s.map nv).toArray 51 (0, 0))) := hrow
      clear hrow hW4 hs hb hc
      go_wp2_with (first | (refine wpList_load_row rfl 51 _ rfl g rfl 51 _ (0, 0) _ hN.out.now Try.underlying51 rfl IB.out ?_))
      (try simp only [Exit.inBlock, Exit.then])
      refine bodyPost_ret (results_cell_row rfl _ _ r 51 _ (0, 0) _ rfl HRow.out Try.underlying51 rfl IB.out) rfl ?_
      exact ⟨by rw [HS.out], by rw [← hg]; exact HBel.out⟩

theorem N3.new4 (w : World) (n l : List Nat) : N3 w (w.heap.size + 1 + 1 + 1) (w.heap.size + 1) (w.heap.size + 1 + 1) [0, 0, 0, 0, 0] l ((((w.alloc (.cells (n.map nv).toArray 51)).alloc (.cells (l.map nv).toArray 51)).alloc (.cells #[.int .u64 0, .int .u64 0, .int .u64 0, .int .u64 0, .int .u64 0] 51)).alloc (.cells #[.int .u64 0, .int .u64 0, .int .u64 0, .int .u64 0, .int .u64 0] 51)) := by
  have h0 := N3.new w n l
  refine ⟨?_, h0.oth.alloc _, h0.res.alloc _, by omega, by omega, by omega, by omega, h0.bel.alloc (by simp <;> omega) _⟩
  have := heap_alloc_new (((w.alloc (.cells (n.map nv).toArray 51)).alloc (.cells (l.map nv).toArray 51)).alloc (.cells #[.int .u64 0, .int .u64 0, .int .u64 0, .int .u64 0, .int .u64 0] 51)) (.cells #[.int .u64 0, .int .u64 0, .int .u64 0, .int .u64 0, .int .u64 0] 51)
  rw [World.size_alloc, World.size_alloc, World.size_alloc] at this
  exact this
theorem N3.later {w W W' : World} {g h r : Nat} {l m : List Nat} (t : N3 w g h r l m W) (hb : Below W.heap.size W W') : N3 w g h r l m W' :=
  ⟨t.now.later hb, t.oth.later hb, t.res.later hb, t.nh, t.nr, t.bg, t.br, t.bel.trans (hb.mono t.bel.size)⟩
theorem N3.put {w W : World} {g h r : Nat} {l m : List Nat} (t : N3 w g h r l m W) (l' : List Nat) : N3 w g h r l' m (W.setRow g (l'.map nv).toArray) := by
  have hg := t.bg
  refine ⟨setRow_heap W g _ _ _ _ t.now, ?_, ?_, t.nh, t.nr, t.bg, t.br, below_setRow t.bel hg _⟩
  · unfold Num; rw [setRow_other _ _ _ _ t.nh]; exact t.oth
  · unfold Num; rw [setRow_other _ _ _ _ t.nr]; exact t.res
theorem num_index (n : List Nat) (i : Nat) (hi : i < n.length) : (n.map nv).toArray[i]? = some (.int .u64 (atD n i : Int)) := by
  rw [atD_get n i hi]; simp [hi, nv]
theorem run_num_index (w : World) (n : List Nat) (i : Nat) (hn : n.length = 5) (hi : i < 5) : (Instr.index 51 (.agg (n.map nv).toArray) (.int .i64 (i : Int))).run Try.prog w = .ok (.int .u64 (atD n i : Int)) w := by
  have hu : Try.prog.underlying 51 = some (.array 5 33) := Try.underlying51
  have he : Try.prog.plainKey 33 = true := by kernel_rfl
  have hc : Try.prog.cellsOf 33 = 1 := by kernel_rfl
  have p1 := run_part_plain (P := Try.prog) w he (xs := (n.map nv).toArray) (off := i * 1) (v := .int .u64 (atD n i : Int)) (by rw [Nat.mul_one]; exact num_index n i (by omega))
  rw [Nat.mul_one] at p1
  simp [Instr.index, asIntOf, run_underlying hu, hi, go_sem]
  rw [List.getElem?_eq_getElem (by omega), atD_get n i (by omega)]
  rfl

set_option maxHeartbeats 2000000 in
set_option maxRecDepth 100000 in
theorem times_any (n r : List Nat) (w : World) (hn : n.length = 5) (hr : r.length = 5) (hb : ∀ x ∈ n, x < 134217728) (hc : ∀ x ∈ r, x < 67108864) :
    Calls Try.prog 27 #[.agg (n.map nv).toArray, .agg (r.map nv).toArray] w fun e w' => e = .returned (.agg ((timL n r).map nv).toArray) ∧ Below w.heap.size w w' := by
  have IN : Hid ((Try.prog.info? 51).map (·.size) = some (n.map nv).toArray.size) := num_info n hn
  have IR : Hid ((Try.prog.info? 51).map (·.size) = some (r.map nv).toArray.size) := num_info r hr
  have hNn := (((num_new2 w n r).2.alloc (.cells #[.int .u64 0, .int .u64 0, .int .u64 0, .int .u64 0, .int .u64 0] 51)).alloc (.cells #[.int .u64 0, .int .u64 0, .int .u64 0, .int .u64 0, .int .u64 0] 51))
  have HNn : Hid _ := hNn
  clear hNn
  go_enter Try.func27, Try.ntmps27
  go_wp2_with (first | (refine wpList_load_row rfl 51 _ rfl w.heap.size rfl 51 _ (0, 0) _ HNn.out Try.underlying51 rfl IN.out ?_))
  clear HNn
  refine from_world (P := Code.wp Try.prog _ _ _) (R := fun W => Hid (N3 w (w.heap.size + 1 + 1 + 1) (w.heap.size + 1) (w.heap.size + 1 + 1) [0, 0, 0, 0, 0] r W)) _ (N3.new4 w n r) ?_
  intro W0 hN0
  generalize w.heap.size + 1 + 1 + 1 = g at hN0 ⊢
  generalize w.heap.size + 1 + 1 = q at hN0 ⊢
  generalize w.heap.size + 1 = h at hN0 ⊢
  go_loopw [11] (fun i wr => ∃ k : Nat, k ≤ 5 ∧ i = .int .i64 k ∧ Hid (N3 w g h q (mulTo n r k) r wr)) (fun i _ => 5 - (intOf i).toNat)
  case atStart => exact ⟨0, by omega, rfl, hN0⟩
  case round =>
    clear hN0
    obtain ⟨k, hk, rfl, hN⟩ := hrel
    by_cases hlt : k < 5
    · have hki : (k : Int) < 5 := by omega
      obtain ⟨x, hx⟩ : ∃ x, atD n k = x := ⟨_, rfl⟩
      have hix := run_num_index wr n k hn hlt
      rw [hx] at hix
      go_wp2_with (first | (refine wpList_load_row rfl 51 _ rfl h rfl 51 _ (0, 0) _ hN.out.oth Try.underlying51 rfl IR.out ?_))
      clear hix
      have HO : Hid (N3 w g h q (mulRow (mulTo n r k) x r k 0) r wr) := hN
      clear hN
      go_loopw [16] (fun i wr => ∃ j : Nat, j ≤ 5 ∧ i = .int .i64 j ∧ Hid (N3 w g h q (mulRow (mulTo n r k) x r k j) r wr)) (fun i _ => 5 - (intOf i).toNat)
      case atStart => exact ⟨0, by omega, rfl, HO⟩
      case round =>
        clear HO
        obtain ⟨j, hj, rfl, hN⟩ := hrel
        have hxb : x < 134217728 := by rw [← hx]; exact atD_bound n _ (by omega) hb k
        by_cases hjl : j < 5
        · have hji : (j : Int) < 5 := by omega
          obtain ⟨y, hy⟩ : ∃ y, atD r j = y := ⟨_, rfl⟩
          have hyb : y < 67108864 := by rw [← hy]; exact atD_bound r _ (by omega) hc j
          have hix := run_num_index wr r j hr hjl
          rw [hy] at hix
          have hle := mulRow_le (mulTo n r k) x r k _ hxb hc (mulTo_le n r hb hc k) j
          have hzs := mul_small x y hxb hyb
          by_cases hp : k + j < 5
          · obtain ⟨p, hpe⟩ : ∃ p, k + j = p := ⟨_, rfl⟩
            obtain ⟨c, hc1⟩ : ∃ c, atD (mulRow (mulTo n r k) x r k j) p = c := ⟨_, rfl⟩
            obtain ⟨cc, fr⟩ := hN.out.now.word p (by rw [mulRow_length, mulTo_length]; omega)
            rw [hc1] at cc
            have hcb := atD_le _ _ hle p
            rw [hc1] at hcb
            have hpi : (k : Int) + (j : Int) = (p : Int) := by omega
            have hp5 : (p : Int) < 5 := by omega
            have hN1 := hN.out.set p (c + x * y)
            obtain ⟨z, hz⟩ : ∃ z, x * y = z := ⟨_, rfl⟩
            have hzi : (x : Int) * (y : Int) = (z : Int) := by rw [← hz]; simp
            rw [hz] at hzs hN1
            have hzb : z < 18446744073709551616 := by omega
            have hczb : c + z < 18446744073709551616 := by omega
            have HN1 : Hid (N3 w g h q (mulRow (mulTo n r k) x r k (j + 1)) r (wr.setCell ⟨g, p, none⟩ (.int .u64 ((c : Int) + (z : Int))))) := by
              rw [mulRow, if_pos hp, hpe, hc1, hy, hz]; exact hN1
            clear hN hN1 hle hz hcb
            go_wp2
            exact ⟨⟨j + 1, by omega, by go_num, HN1⟩, by simp [intOf]; omega⟩
          · obtain ⟨p0, hpe0⟩ : ∃ p, k + j = p := ⟨_, rfl⟩
            obtain ⟨p, hpe⟩ : ∃ p, k + j - 5 = p := ⟨_, rfl⟩
            obtain ⟨c, hc1⟩ : ∃ c, atD (mulRow (mulTo n r k) x r k j) p = c := ⟨_, rfl⟩
            obtain ⟨cc, fr⟩ := hN.out.now.word p (by rw [mulRow_length, mulTo_length]; omega)
            rw [hc1] at cc
            have hcb := atD_le _ _ hle p
            rw [hc1] at hcb
            have hpi : (k : Int) + (j : Int) = (p0 : Int) := by omega
            have hp5 : ¬ (p0 : Int) < 5 := by omega
            have hpi2 : (p0 : Int) - 5 = (p : Int) := by omega
            have hp5' : (p : Int) < 5 := by omega
            have hN1 := hN.out.set p (c + 5 * x * y)
            obtain ⟨z, hz⟩ : ∃ z, 5 * x * y = z := ⟨_, rfl⟩
            have hz5 : z = 5 * (x * y) := by rw [← hz]; exact Nat.mul_assoc _ _ _
            have hzi : 5 * (x : Int) * (y : Int) = (z : Int) := by rw [← hz]; simp
            rw [hz] at hN1
            have hzb : z < 18446744073709551616 := by omega
            have hczb : c + z < 18446744073709551616 := by omega
            have HN1 : Hid (N3 w g h q (mulRow (mulTo n r k) x r k (j + 1)) r (wr.setCell ⟨g, p, none⟩ (.int .u64 ((c : Int) + (z : Int))))) := by
              rw [mulRow, if_neg hp, hpe, hc1, hy, hz]; exact hN1
            clear hN hN1 hle hz hcb hz5 hzs
            go_wp2
            exact ⟨⟨j + 1, by omega, by go_num, HN1⟩, by simp [intOf]; omega⟩
        · have ej : j = 5 := by omega
          subst ej
          have hjr : ¬ ((5 : Nat) : Int) < 5 := by omega
          have HN1 : Hid (N3 w g h q (mulTo n r (k + 1)) r wr) := by rw [mulTo, hx]; exact hN
          clear hN
          go_wp2
          exact ⟨⟨k + 1, by omega, by go_num, HN1⟩, by simp [intOf]; omega⟩
    · have ek : k = 5 := by omega
      subst ek
      have hkr : ¬ ((5 : Nat) : Int) < 5 := by omega
      obtain ⟨L, hL⟩ : ∃ L, mulTo n r 5 = L := ⟨_, rfl⟩
      have hLl : L.length = 5 := by rw [← hL, mulTo_length]
      have hLb : ∀ x ∈ L, x < 4611686018427387904 := fun x hx => by have := mulTo_le n r hb hc 5 x (by rw [hL]; exact hx); omega
      have HL : Hid (timL n r = carN L 3) := by rw [timL, hL]; rfl
      rw [hL] at hN
      clear hL hb hc
      go_wp2
      go_loopw [48] (fun i wr => ∃ t : Nat, t ≤ 3 ∧ i = .int .i64 t ∧ Hid (N3 w g h q (carN L t) r wr)) (fun i _ => 3 - (intOf i).toNat)
      case atStart => exact ⟨0, by omega, rfl, hN⟩
      case round =>
        clear hN
        obtain ⟨t, ht, rfl, hN⟩ := hrel
        obtain ⟨M, hM⟩ : ∃ M, carN L t = M := ⟨_, rfl⟩
        have hMl : M.length = 5 := by rw [← hM, carN_length, hLl]
        have hMb : ∀ x ∈ M, x < 4611686018427387904 := by rw [← hM]; exact carN_small L hLl hLb t
        rw [hM] at hN
        have IM : Hid ((Try.prog.info? 51).map (·.size) = some (M.map nv).toArray.size) := num_info M hMl
        by_cases htl : t < 3
        · have hti : (t : Int) < 3 := by omega
          go_wp2_with (first | (refine wpList_load_row rfl 51 _ rfl g rfl 51 _ (0, 0) _ hN.out.now Try.underlying51 rfl IM.out ?_))
          refine (carry_any M wr hMl hMb).mono ?_
          rintro e w8 ⟨rfl, hb8⟩
          have hN8 := hN.out.later hb8
          have hcl : (carL M).length = 5 := by rw [carL_length, hMl]
          have hst := store_row w8 g _ _ ((carL M).map nv) hN8.now (by simp [hcl, hMl]) (nv_oneCell _)
          have HN9 : Hid (N3 w g h q (carN L (t + 1)) r (w8.setRow g ((carL M).map nv).toArray)) := by rw [carN, hM]; exact hN8.put _
          clear hN hN8 hb8
          go_wp2
          exact ⟨⟨t + 1, by omega, by go_num, HN9⟩, by simp [intOf]; omega⟩
        · have et : t = 3 := by omega
          subst et
          have htr : ¬ ((3 : Nat) : Int) < 3 := by omega
          have HM : Hid (timL n r = M) := HL.out.trans hM
          have hst := store_row wr q _ _ (M.map nv) hN.out.res (by simp [hMl]) (nv_oneCell M)
          have hrow := setRow_heap wr q _ (M.map nv).toArray _ _ hN.out.res
          have HBel : Hid (Below w.heap.size w (wr.setRow q (M.map nv).toArray)) := below_setRow hN.out.bel hN.out.br _
          obtain ⟨W4, hW4⟩ : ∃ W4, wr.setRow q (M.map nv).toArray = W4 := ⟨_, rfl⟩
          rw [hW4] at hst hrow HBel
          have HRow : Hid (W4.heap[q]? = some (.cells (M.map nv).toArray 51 (0, 0))) := hrow
          clear hrow hW4 hM hMb hLb
          go_wp2_with (first | (refine wpList_load_row rfl 51 _ rfl g rfl 51 _ (0, 0) _ hN.out.now Try.underlying51 rfl IM.out ?_))
          (try simp only [Exit.inBlock, Exit.then])
          refine bodyPost_ret (results_cell_row rfl _ _ q 51 _ (0, 0) _ rfl HRow.out Try.underlying51 rfl IM.out) rfl ?_
          exact ⟨by rw [HM.out], HBel.out⟩
end Go.Proofs.Ytcnihgjibiidpaa
