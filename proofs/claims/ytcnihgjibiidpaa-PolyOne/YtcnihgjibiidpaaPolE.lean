/- The walk over the program's multiplier. -/
import Derived.Test.YtcnihgjibiidpaaPolD
namespace Go.Proofs.Ytcnihgjibiidpaa
set_option linter.unusedVariables false
open Go.RowKit

theorem and8_nat (c m : Nat) (hc : c < 256) (hm : m < 256) : bits .and .u8 (c : Int) (m : Int) = ((c &&& m : Nat) : Int) := by
  have e : (BitVec.ofInt 8 (c : Int) &&& BitVec.ofInt 8 (m : Int)).toNat = c &&& m := by
    rw [BitVec.toNat_and, BitVec.toNat_ofInt, BitVec.toNat_ofInt]
    have h1 : ((c : Int) % ((2 ^ 8 : Nat) : Int)).toNat = c := by omega
    have h2 : ((m : Int) % ((2 ^ 8 : Nat) : Int)).toNat = m := by omega
    rw [h1, h2]
  show IntKind.u8.wrap ((BitVec.ofInt 8 (c : Int) &&& BitVec.ofInt 8 (m : Int)).toNat : Int) = _
  rw [e, IntKind.wrap_u8]
  have : c &&& m ≤ c := Nat.and_le_left
  omega
theorem and8_15 (c : Nat) (hc : c < 256) : bits .and .u8 (c : Int) 15 = ((c % 16 : Nat) : Int) := by
  have h := and8_nat c 15 hc (by omega)
  have e : c &&& 15 = c % 16 := Nat.and_two_pow_sub_one_eq_mod c 4
  rw [e] at h
  exact h
set_option maxRecDepth 100000 in
theorem and252 : ∀ c : Fin 256, c.val &&& 252 = c.val / 4 * 4 := by decide
theorem and8_252 (c : Nat) (hc : c < 256) : bits .and .u8 (c : Int) 252 = ((c / 4 * 4 : Nat) : Int) := by
  have h := and8_nat c 252 hc (by omega)
  have e := and252 ⟨c, hc⟩
  simp only at e
  rw [e] at h
  exact h
/-- Bytes that change, and the place of the answer. -/
structure MK (w : World) (g r : Nat) (B : List UInt8) (W : World) : Prop where
  now : Arr W g 53 B
  res : Arr W r 53 z17
  nr : r ≠ g
  bg : w.heap.size ≤ g
  br : w.heap.size ≤ r
  bel : Below w.heap.size w W
theorem MK.set {w W : World} {g r : Nat} {B : List UInt8} (t : MK w g r B W) (i : Nat) (x : UInt8) : MK w g r (B.set i x) (W.setCell ⟨g, i, none⟩ (.int .u8 (x.toNat : Int))) := by
  have hg := t.bg
  exact ⟨t.now.set i x, t.res.other t.nr i _, t.nr, t.bg, t.br, t.bel.setCell (p := ⟨g, i, none⟩) (by show _ ≤ g; omega) _⟩
theorem clM_next (key : List UInt8) : clM 19 0 key = clM 19 4 key := by
  apply List.ext_getElem
  · simp [clM]
  · intro i h1 h2
    simp only [clM, List.getElem_map, List.getElem_range]
    by_cases h3 : i % 4 = 3 ∧ i < 19
    · rw [if_pos h3, if_pos h3]
    · rw [if_neg h3, if_neg h3, if_neg (by omega), if_neg (by omega)]
theorem set_front (l : List UInt8) (i : Nat) (x : UInt8) (h : i < l.length) : (l ++ [0]).set i x = l.set i x ++ [0] := List.set_append_left _ _ h
theorem at8_front (l : List UInt8) (i : Nat) (h : i < l.length) : at8 (l ++ [0]) i = at8 l i := by simp [at8, List.getElem?_append_left h]

set_option maxHeartbeats 1000000 in
set_option maxRecDepth 100000 in
theorem multiplier_any (key : List UInt8) (w : World) (hk : key.length = 32) :
    Calls Try.prog 24 #[.agg (key.map bv).toArray] w fun e w' => e = .returned (.agg ((clampB key ++ [0]).map bv).toArray) ∧ Below w.heap.size w w' := by
  obtain ⟨a1, a0⟩ := arr_new2 w 23 key z17 53
  have b1 : Below w.heap.size w ((w.alloc (.cells (key.map bv).toArray 23)).alloc (.cells (z17.map bv).toArray 53)) := ((Below.refl _ _).alloc (Nat.le_refl _) _).alloc (by simp) _
  have a2 := heap_alloc_new ((w.alloc (.cells (key.map bv).toArray 23)).alloc (.cells (z17.map bv).toArray 53)) (.cells (z17.map bv).toArray 53)
  rw [World.size_alloc, World.size_alloc] at a2
  have a11 := a1.alloc (.cells (z17.map bv).toArray 53)
  have a01 := a0.alloc (.cells (z17.map bv).toArray 53)
  have b2 := b1.alloc (by simp <;> omega) (.cells (z17.map bv).toArray 53)
  have hR : Arr (((w.alloc (.cells (key.map bv).toArray 23)).alloc (.cells (z17.map bv).toArray 53)).alloc (.cells (z17.map bv).toArray 53)) w.heap.size 23 key ∧ MK w (w.heap.size + 1 + 1) (w.heap.size + 1) z17 (((w.alloc (.cells (key.map bv).toArray 23)).alloc (.cells (z17.map bv).toArray 53)).alloc (.cells (z17.map bv).toArray 53)) :=
    ⟨a01, a2, a11, by omega, by omega, by omega, b2⟩
  have HR : Hid _ := hR
  clear a0 a1 a2 a11 a01 b1 b2 hR
  go_enter Try.func24, Try.ntmps24
  go_wp2
  refine from_world (P := Code.wp Try.prog _ _ _) (R := fun W => Hid (Arr W w.heap.size 23 key ∧ MK w (w.heap.size + 1 + 1) (w.heap.size + 1) z17 W)) _ HR ?_
  intro W0 hN0
  clear HR
  generalize w.heap.size + 1 + 1 = g at hN0 ⊢
  generalize w.heap.size + 1 = r at hN0 ⊢
  generalize hb0 : w.heap.size = b0 at hN0 ⊢
  obtain ⟨hK, hM⟩ := hN0.out
  obtain ⟨W1, hW1⟩ : ∃ W1, W0.drew = W1 := ⟨_, rfl⟩
  have hK1 : Arr W1 b0 23 key := by rw [← hW1]; exact hK
  have hM1 : MK w g r z17 W1 := by rw [← hW1]; exact ⟨hM.now, hM.res, hM.nr, hM.bg, hM.br, hM.bel.drew⟩
  have hcp := run_copy_row Try.prog W1 24 24 3 5 g 0 17 17 ⟨b0, 0, none⟩ 16 32 _ _ ((key.take 16).map bv) Try.underlying24 Try.info1U8 hM1.now
    (by rw [List.length_map, List.length_take, hk]; rfl) (fun j v hj => ((hK1.byt 32 hk).cut (by omega)).cells _ rfl j v hj) (by simp [z17]; omega) (bv_oneCell _)
  have h16 : ((key.take 16).map bv).length = 16 := by simp [hk]
  rw [h16] at hcp
  have erow : (z17.map bv).take 0 ++ (key.take 16).map bv ++ (z17.map bv).drop (0 + 16) = (clM 3 0 key ++ [0]).map bv := by
    rw [clM_none key hk, List.map_append]; rfl
  simp only [] at hcp
  rw [erow] at hcp
  have hM2 : MK w g r (clM 3 0 key ++ [0]) (W1.setRow g ((clM 3 0 key ++ [0]).map bv).toArray) :=
    ⟨hM1.now.put _, hM1.res.keep hM1.nr _, hM1.nr, hM1.bg, hM1.br, below_setRow hM1.bel hM1.bg _⟩
  obtain ⟨W2, hW2⟩ : ∃ W2, W1.setRow g ((clM 3 0 key ++ [0]).map bv).toArray = W2 := ⟨_, rfl⟩
  rw [hW2] at hcp hM2
  have HM2 : Hid (MK w g r (clM 3 0 key ++ [0]) W2) := hM2
  have HW1 : Hid (W0.drew = W1) := hW1
  clear hM2 hW1 hW2 erow h16 hM1 hK1 hM hK hN0
  refine wp_region_sched' (G := fun _ _ => True) (by kernel_rfl) (fun _ => trivial) (fun _ _ _ _ _ => trivial) (by kernel_rfl) [(0, true), (1, true), (2, false)] rfl (by kernel_rfl) ?_
  intro KK hKK
  rw [HW1.out]
  iterate 2 (refine sched_take rfl (by rfl) (v := ?_) ?_ ?_; rotate_left; (intro w' hw'; clear hw'; go_simp; with_reducible rfl); go_simp)
  refine sched_val (w' := W2) (v := goInt 16) rfl (by rfl) (by go_simp) trivial ?_
  clear hcp
  go_simp
  refine sched_done hKK ?_
  go_wp2
  go_loopw [4] (fun i wr => ∃ j : Nat, j ≤ 4 ∧ i = .int .i64 ((3 + 4 * j : Nat) : Int) ∧ Hid (MK w g r (clM (3 + 4 * j) 0 key ++ [0]) wr)) (fun i _ => 20 - (intOf i).toNat)
  case atStart => exact ⟨0, by omega, rfl, HM2⟩
  case round =>
    clear HM2
    obtain ⟨j, hj, rfl, hN⟩ := hrel
    obtain ⟨p, hp⟩ : ∃ p, 3 + 4 * j = p := ⟨_, rfl⟩
    rw [hp] at hN ⊢
    by_cases hlt : j < 4
    · have hp16 : (p : Int) < 16 := by omega
      have hp17 : (p : Int) < 17 := by omega
      obtain ⟨cc, fr⟩ := hN.out.now.at_ p (by simp [clM_length]; omega)
      rw [at8_front _ _ (by rw [clM_length]; omega), clM_at p 0 key p (by omega), if_neg (by omega), if_neg (by omega)] at cc
      obtain ⟨x, hx⟩ : ∃ x, (at8 key p).toNat = x := ⟨_, rfl⟩
      have hxb : x < 256 := by rw [← hx]; exact (at8 key p).toNat_lt
      rw [hx] at cc
      have e16 : ((x % 16 : Nat) : Int) = (x : Int) % 16 := by omega
      have hN1 := hN.out.set p (UInt8.ofNat (x % 16))
      rw [set_front _ _ _ (by rw [clM_length]; omega)] at hN1
      have hs := clM_set1 key j hlt
      rw [hp, hx] at hs
      rw [hs] at hN1
      have ev : (UInt8.ofNat (x % 16)).toNat = x % 16 := by simp; omega
      rw [ev] at hN1
      rw [e16] at hN1
      have HN1 : Hid (MK w g r (clM (3 + 4 * (j + 1)) 0 key ++ [0]) (wr.setCell ⟨g, p, none⟩ (.int .u8 ((x : Int) % 16)))) := hN1
      clear hN hN1 hs ev hx e16
      go_wp2
      exact ⟨⟨j + 1, by omega, by go_num, HN1⟩, by simp [intOf]; omega⟩
    · have hp16 : ¬ (p : Int) < 16 := by omega
      have HN4 : Hid (MK w g r (clM 19 4 key ++ [0]) wr) := by
        rw [← clM_next, ← show p = 19 by omega]; exact hN
      clear hN
      go_wp2
      go_loopw [5] (fun i wr => ∃ j : Nat, j ≤ 3 ∧ i = .int .i64 ((4 + 4 * j : Nat) : Int) ∧ Hid (MK w g r (clM 19 (4 + 4 * j) key ++ [0]) wr)) (fun i _ => 20 - (intOf i).toNat)
      case atStart => exact ⟨0, by omega, rfl, HN4⟩
      case round =>
        clear HN4 hp hp16 hlt hj
        obtain ⟨j, hj, rfl, hN⟩ := hrel
        obtain ⟨p, hp⟩ : ∃ p, 4 + 4 * j = p := ⟨_, rfl⟩
        rw [hp] at hN ⊢
        by_cases hlt : j < 3
        · have hp16 : (p : Int) < 16 := by omega
          have hp17 : (p : Int) < 17 := by omega
          obtain ⟨cc, fr⟩ := hN.out.now.at_ p (by simp [clM_length]; omega)
          rw [at8_front _ _ (by rw [clM_length]; omega), clM_at 19 p key p (by omega), if_neg (by omega), if_neg (by omega)] at cc
          obtain ⟨x, hx⟩ : ∃ x, (at8 key p).toNat = x := ⟨_, rfl⟩
          have hxb : x < 256 := by rw [← hx]; exact (at8 key p).toNat_lt
          rw [hx] at cc
          have E1 : Hid (bits .and .u8 (x : Int) 252 = ((x / 4 * 4 : Nat) : Int)) := and8_252 x hxb
          have hN1 := hN.out.set p (UInt8.ofNat (x / 4 * 4))
          rw [set_front _ _ _ (by rw [clM_length]; omega)] at hN1
          have hs := clM_set2 key j hlt
          rw [hp, hx] at hs
          rw [hs] at hN1
          have ev : (UInt8.ofNat (x / 4 * 4)).toNat = x / 4 * 4 := by simp; omega
          rw [ev] at hN1
          have HN1 : Hid (MK w g r (clM 19 (4 + 4 * (j + 1)) key ++ [0]) (wr.setCell ⟨g, p, none⟩ (.int .u8 ((x / 4 * 4 : Nat) : Int)))) := hN1
          clear hN hN1 hs ev hx
          go_wp2
          rw [E1.out]
          exact ⟨⟨j + 1, by omega, by go_num, HN1⟩, by simp [intOf]; omega⟩
        · have hp16 : ¬ (p : Int) < 16 := by omega
          obtain ⟨C, hC⟩ : ∃ C, clampB key ++ [0] = C := ⟨_, rfl⟩
          have hCl : C.length = 17 := by rw [← hC]; simp [clampB_length]
          have HN4 : Hid (MK w g r C wr) := by
            rw [← hC, ← clM_all, ← show p = 16 by omega]; exact hN
          have HC : Hid (clampB key ++ [0] = C) := hC
          have IC : Hid ((Try.prog.info? 53).map (·.size) = some (C.map bv).toArray.size) := arr17_info C hCl
          have hst := store_row wr r _ _ (C.map bv) HN4.out.res (by simp [hCl, z17]) (bv_oneCell C)
          have hrow := setRow_heap wr r _ (C.map bv).toArray _ _ HN4.out.res
          have HBel : Hid (Below w.heap.size w (wr.setRow r (C.map bv).toArray)) := below_setRow HN4.out.bel HN4.out.br _
          obtain ⟨W4, hW4⟩ : ∃ W4, wr.setRow r (C.map bv).toArray = W4 := ⟨_, rfl⟩
          rw [hW4] at hst hrow HBel
          have HRow : Hid (W4.heap[r]? = some (.cells (C.map bv).toArray 53 (0, 0))) := hrow
          clear hrow hW4 hC hN
          go_wp2_with (first | (refine wpList_load_row rfl 53 _ rfl g rfl 53 _ (0, 0) _ HN4.out.now Try.underlying53 rfl IC.out ?_))
          (try simp only [Exit.inBlock, Exit.then])
          refine bodyPost_ret (results_cell_row rfl _ _ r 53 _ (0, 0) _ rfl HRow.out Try.underlying53 rfl IC.out) rfl ?_
          exact ⟨by rw [← HC.out, List.map_append]; rfl, by rw [← hb0]; exact HBel.out⟩
end Go.Proofs.Ytcnihgjibiidpaa
