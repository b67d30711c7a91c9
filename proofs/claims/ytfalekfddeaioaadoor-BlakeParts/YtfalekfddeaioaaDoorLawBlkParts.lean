/- BlakeParts: in whatever pieces bytes are written, and whenever a sum is asked for, it is that of all. For every row of rows of bytes, where the program's tables are as its text lays them. -/
import Derived.Test.YtfalekfddeaioaaDoorLawBlkApart
namespace Go.Proofs.YtfalekfddeaioaaDoor.blakeParts
open Go.ChangeShapes Go.WideShapes Go.ChangeAt Go.RowKit
set_option linter.unusedVariables false

/-- A hash, and all that was written to it. -/
structure PT (w : World) (g base : Nat) (v : Value) (C : List UInt8) (W : World) : Prop where
  h : HashIs W g C
  o : W.ownsRow base 5 1 v C.length (C.map bv)
  lg : w.heap.size ≤ g
  gb : g < base
  sz : base ≤ W.heap.size
  bel : Below w.heap.size w W
theorem PT.later {w W W' : World} {g base : Nat} {v : Value} {C : List UInt8} (x : PT w g base v C W) (hb : Below W.heap.size W W') : PT w g base v C W' := by
  have hG : W.grownBy W' none := ⟨hb.os, hb.tape, hb.output, hb.size, fun k hk _ => hb.block k hk⟩
  exact ⟨x.h.later hb, own_but x.o hG (fun _ _ e => by cases e), x.lg, x.gb, Nat.le_trans x.sz hb.size, x.bel.trans (hb.mono x.bel.size)⟩
/-- What lies at or behind B may turn, and all stays. -/
theorem PT.grown {w W W' : World} {g base : Nat} {v : Value} {C : List UInt8} {row : Option Nat} (x : PT w g base v C W) (hG : W.grownBy W' row) (hr : ∀ b, row = some b → w.heap.size ≤ b ∧ b ≠ g ∧ v.ownBlock ≠ some b) : PT w g base v C W' := by
  have hs := x.bel.size
  refine ⟨x.h.grown hG (fun e => (hr g e).2.1 rfl), own_but x.o hG (fun b hb e => (hr b e).2.2 hb), x.lg, x.gb, Nat.le_trans x.sz hG.size, x.bel.trans ⟨hG.os, hG.tape, hG.output, hG.size, fun k hk => hG.block k (by omega) (fun e => by have := (hr k e.symm).1; omega)⟩⟩
/-- The piece, while it is written over. -/
structure PI (w : World) (g base : Nat) (v : Value) (C : List UInt8) (a : Option Addr) (n : Nat) (W : World) : Prop where
  pt : PT w g base v C W
  own : 0 < n → ∃ b cur, a = some ⟨b, 0, none⟩ ∧ W.heap[b]? = some (.cells cur 5 (0, 0)) ∧ n ≤ cur.size ∧ w.heap.size ≤ b ∧ b ≠ g ∧ v.ownBlock ≠ some b

set_option maxHeartbeats 4000000 in
set_option maxRecDepth 100000 in
theorem walk (a0 : Option Addr) (len0 cap0 : Nat) (w : World) (w0 : IsRows w a0 len0 cap0) (htab : Tab w) :
    Calls Tryd.prog 4 #[.slice a0 len0 cap0] w fun e w' => e = .returned (.bool true) ∧ Below w.heap.size w w' := by
  have HR0 : Hid (IsRows w a0 len0 cap0) := w0
  have HTab : Hid (Tab w) := htab
  have hlt := htab.lt
  clear htab w0
  go_enter Tryd.func4, Tryd.ntmps4
  go_wp2_with fail
  refine (blkShown_any _ HTab.out).mono ?_
  rintro e w4 ⟨rfl, hb4⟩
  have HW4 : Hid (Below w.heap.size w w4) := hb4
  clear hb4
  go_wp2_with fail
  refine (bnew_any w4 (HTab.out.later HW4.out)).mono ?_
  rintro e w6 ⟨g, rfl, hg, hH, hb6⟩
  have hgw : w.heap.size ≤ g := Nat.le_trans HW4.out.size hg
  have hla := hH.lt
  have HX6 : Hid (PT w g w6.heap.size (.slice none 0 0) [] w6) := ⟨hH, ⟨rfl, .inl ⟨rfl, rfl⟩⟩, hgw, by omega, Nat.le_refl _, HW4.out.trans (hb6.mono HW4.out.size)⟩
  have hgt : g ≠ 0 ∧ g ≠ 1 := by omega
  clear hg hH hb6 hla HW4 hlt
  go_wp2
  generalize w6.heap.size = base at HX6
  go_loopw [5, 6] (fun v i wr => ∃ (k : Nat) (C : List UInt8), k ≤ 20 ∧ C.length ≤ 100 * k ∧ i = .int .i64 k ∧ Hid (PT w g base v C wr)) (fun _ i _ => 20 - (intOf i).toNat)
  case atStart => exact ⟨0, [], by omega, by simp, rfl, HX6⟩
  case round =>
    clear HX6
    obtain ⟨k, C, hk, hCl, rfl, HX⟩ := hrel
    by_cases hc : k < len0 ∧ k < 20
    · obtain ⟨hc1, hc2⟩ := hc
      have i1 : (k : Int) < (len0 : Int) := by omega
      have i2 : (k : Int) < 20 := by omega
      obtain ⟨b, off, rfl, hbw, hrows⟩ := rows_at HR0.out (by omega)
      obtain ⟨ai, li, ci, zs, hcell, hrow⟩ := hrows k hc1
      have hnil := brow_nil hrow
      obtain ⟨m, n, hnE0, hn1, hn2, hnc, hncm, hBm⟩ := cut_row hrow 100
      have hnE : (if (100 : Int) < (li : Int) then (100 : Int) else (li : Int)) = (n : Int) := hnE0
      have hml := hBm.1
      obtain ⟨W, hWd⟩ : ∃ W, wr.drew = W := ⟨_, rfl⟩
      have HWd : Hid (wr.drew = W) := hWd
      have HXW : Hid (PT w g base u5 C W) := HX.out.later (by rw [← hWd]; exact (Below.refl _ _).drew)
      obtain ⟨B, hB⟩ : ∃ B, W.heap.size = B := ⟨_, rfl⟩
      have HBs : Hid (W.heap.size = B) := hB
      have hwB : w.heap.size ≤ B := by rw [← hB]; exact HXW.out.bel.size
      have hcW : ∀ w', Below B W w' → w'.cell? ⟨b, off + k, none⟩ = some (.slice ai li ci) := fun w' hw' => by
        rw [World.cell?_of_block (hw'.block b (by omega)), World.cell?_of_block (HXW.out.bel.block b hbw)]
        exact hcell
      have HBm : Hid (Byt w ai n m) := hBm
      have e1 : (n : Int) ≤ (ci : Int) := by omega
      have hcm' : ci ≤ 9223372036854775807 := by unfold maxLen at hncm; exact hncm
      clear hnE0 hBm hrow hcell hrows hWd HX hB
      go_wp2
      refine wp_region_sched' (G := Below B) (by kernel_rfl) (fun _ => Below.refl _ _) (fun _ _ _ h k => Below.trans h k) (by kernel_rfl) [(1, true), (2, true), (3, true), (4, true), (5, true), (6, true), (7, true), (8, true), (9, true), (10, true), (11, true), (0, false), (12, false), (13, true)] rfl (by kernel_rfl) ?_
      intro KK hKK
      rw [HWd.out]
      iterate 11 (refine sched_take rfl (by rfl) (v := ?_) ?_ ?_; rotate_left; (intro w' hw'; have q1 := hcW w' hw'; clear hw'; go_simp; with_reducible rfl); go_simp)
      clear hcW HWd
      refine sched_val rfl (by rfl) (v := .slice (some ⟨W.heap.size, 0, none⟩) 0 0) (w' := W.alloc (.cells #[] 5)) (by go_simp; try rfl) ((Below.refl _ _).alloc (Nat.le_of_eq HBs.out.symm) _) ?_
      go_simp
      have hX1 : PT w g base u5 C (W.alloc (.cells #[] 5)) := HXW.out.later ((Below.refl _ _).alloc (Nat.le_refl _) _)
      have hown1 : (W.alloc (.cells #[] 5)).ownsRow B 5 1 (.slice (some ⟨W.heap.size, 0, none⟩) 0 0) 0 (([] : List UInt8).map bv) := ⟨rfl, .inr ⟨W.heap.size, 0, #[], rfl, Nat.le_of_eq HBs.out.symm, heap_alloc_new W _, Nat.le_refl _, Nat.zero_le _, rfl, rfl⟩⟩
      obtain ⟨v2, w2, hr2, ho2, hg2, hw2⟩ := append_where (W.alloc (.cells #[] 5)) B _ 0 [] hown1 ai n ci m (HBm.out.later hX1.bel) hnil (by rw [World.size_alloc, HBs.out]; omega) (by omega)
      have hXo := own_base HXW.out.o
      have hXg := HXW.out.gb
      have hbB := HXW.out.sz
      rw [HBs.out] at hbB
      have hX2 : PT w g base u5 C w2 := hX1.grown hg2 (fun b' e => by
        have e' : W.heap.size = b' := by simpa [Value.ownBlock] using e
        rw [HBs.out] at e'
        refine ⟨by omega, by omega, fun e2 => ?_⟩
        have := (hXo b' e2).2
        rw [HBs.out] at this
        omega)
      refine sched_append rfl (by rfl) rfl rfl rfl hr2 ?_ ?_
      · exact ⟨hg2.os, hg2.tape, hg2.output, hg2.size, fun k hk => hg2.block k (by rw [World.size_alloc, HBs.out]; omega) (fun e => by
          have e' : k = W.heap.size := by simpa [Value.ownBlock] using e
          rw [HBs.out] at e'; omega)⟩
      have HX2 : Hid (PT w g base u5 C w2) := hX2
      have HO2 : Hid (w2.ownsRow B 5 1 v2 n (m.map bv)) := by
        have := ho2
        rw [Nat.zero_add, List.nil_append] at this
        exact this
      have hBw2 : B ≤ w2.heap.size := by have := hg2.size; rw [World.size_alloc, HBs.out] at this; omega
      clear hX1 hX2 hown1 hr2 ho2 hg2 hw2
      obtain ⟨a2, c2, rfl, hB2', hc2n, hc2m, hn2'⟩ := own_parts HO2.out
      have HB2 : Hid (Byt w2 a2 n m) := hB2'
      have HOB : Hid (∀ b', (Value.slice a2 n c2).ownBlock = some b' → B ≤ b' ∧ b' < w2.heap.size) := own_base HO2.out
      have HU5 : Hid (∀ b', u5.ownBlock = some b' → base ≤ b' ∧ b' < B) := fun b' e => by
        have := hXo b' e
        rw [HBs.out] at this
        exact this
      clear hXo hB2' HXW
      go_simp
      iterate 1 (refine sched_take rfl (by rfl) (v := ?_) ?_ ?_; rotate_left; (intro w' hw'; clear hw'; go_simp; with_reducible rfl); go_simp)
      refine sched_done hKK ?_
      clear hKK
      -- all = append(all, b...)
      obtain ⟨v3, w3, hr3, ho3, hg3, hw3⟩ := append_where w2 base u5 C.length C HX2.out.o a2 n c2 m HB2.out hn2' HX2.out.sz (by omega)
      have HA3 : Hid ((Builtin.append_ #[22, 22] 22 #[u5, .slice a2 n c2]).run Tryd.prog w2 = .ok v3 w3) := hr3
      have HO3 : Hid (w3.ownsRow base 5 1 v3 (C ++ m).length ((C ++ m).map bv)) := by rw [List.length_append, hml]; exact ho3
      have HO23 : Hid (w3.ownsRow B 5 1 (.slice a2 n c2) n (m.map bv)) := own_but HO2.out hg3 (fun b' e e' => by have := HU5.out b' e'; have := HOB.out b' e; omega)
      have HB3 : Hid (Byt w3 a2 n m) := by
        obtain ⟨a', c', e, h, _⟩ := own_parts HO23.out
        cases e
        exact h
      have HH3 : Hid (HashIs w3 g C) := HX2.out.h.grown hg3 (fun e => by have := (HU5.out g e).1; omega)
      have hs2 := HX2.out.bel.size
      have hlg := HX2.out.lg
      have HW3 : Hid (Below w.heap.size w w3) := HX2.out.bel.trans ⟨hg3.os, hg3.tape, hg3.output, hg3.size, fun k hk => hg3.block k (by omega) (fun e => by have := (HU5.out k e.symm).1; omega)⟩
      have HV3 : Hid (∀ b', v3.ownBlock = some b' → base ≤ b' ∧ (Value.slice a2 n c2).ownBlock ≠ some b') := fun b' e => by
        refine ⟨(own_base HO3.out b' e).1, fun e2 => ?_⟩
        have h2 := HOB.out b' e2
        rcases hw3 with h | h
        · rw [h] at e
          have := HU5.out b' e
          omega
        · rw [h] at e
          cases e
          omega
      have hs3 : base ≤ w3.heap.size := Nat.le_trans HX2.out.sz hg3.size
      clear hr3 ho3 hg3 hw3 HX2 HO2 HB2 hs2
      go_wp2_with (first | (at_builtin; refine wpList_append_run rfl (.tmp 36) (.tmp 37) 22 rfl _ _ _ _ rfl rfl HA3.out ?_) | fail)
      refine (bwrite_any g C a2 n c2 m w3 HH3.out HB3.out hn2' (fun hn b' o f e => by
        subst e
        have := (HOB.out b' rfl).1
        omega) hc2n hc2m (by omega) (HTab.out.later HW3.out) hgt).mono ?_
      rintro e w5 ⟨⟨v, rfl⟩, hH5, hG5⟩
      have HX5 : Hid (PT w g base v3 (C ++ m) w5) := by
        refine ⟨hH5, own_but HO3.out hG5 (fun b' e e' => by cases e'; have := (HV3.out g e).1; omega), hlg, hXg, Nat.le_trans hs3 hG5.size, HW3.out.trans ⟨hG5.os, hG5.tape, hG5.output, hG5.size, fun k hk => hG5.block k (by have := HW3.out.size; omega) (fun e => by cases e; omega)⟩⟩
      have HO5 : Hid (w5.ownsRow B 5 1 (.slice a2 n c2) n (m.map bv)) := own_but HO23.out hG5 (fun b' e e' => by cases e'; have := (HOB.out g e).1; omega)
      have HI5 : Hid (PI w g base v3 (C ++ m) a2 n w5) := by
        refine ⟨HX5.out, fun hn => ?_⟩
        rcases HO5.out.2 with ⟨_, h0⟩ | ⟨b2, cap, cur, e, hb, hgr, hnc', hcm', hcs, _⟩
        · omega
        · cases e
          refine ⟨b2, cur, rfl, hgr, by rw [hcs]; omega, by omega, by omega, fun e2 => (HV3.out b2 e2).2 rfl⟩
      clear hH5 hG5 HX5 HO5 HO23 HO3 HH3 HW3 HV3 HB3 HA3 HOB HU5 HBm
      go_wp2
      go_loopw [8] (fun i wr => ∃ j : Nat, j ≤ n ∧ i = .int .i64 j ∧ Hid (PI w g base v3 (C ++ m) a2 n wr)) (fun i _ => n - (intOf i).toNat)
      case atStart => exact ⟨0, Nat.zero_le _, rfl, HI5⟩
      case round =>
        clear HI5
        obtain ⟨j, hj, rfl, HI⟩ := hrel
        by_cases hjl : j < n
        · have j1 : (j : Int) < (n : Int) := by omega
          obtain ⟨b2, cur, rfl, hgr, hcs, hbw2, hbg2, hvb⟩ := HI.out.own (by omega)
          obtain ⟨cv, hcv⟩ : ∃ cv, wr.cell? ⟨b2, j, none⟩ = some cv := ⟨cur[j]'(by omega), by rw [cell_of_row wr b2 j _ _ (0, 0) hgr]; simp [show j < cur.size by omega]⟩
          have hfr := frozen_of_row wr b2 j _ _ hgr
          have HI2 : Hid (PI w g base v3 (C ++ m) (some ⟨b2, 0, none⟩) n (wr.setCell ⟨b2, j, none⟩ (.int .u8 77))) := by
            refine ⟨HI.out.pt.grown (But.setCell wr b2 j _) (fun b' e => by cases e; exact ⟨hbw2, hbg2, hvb⟩), fun _ => ⟨b2, cur.setIfInBounds j (.int .u8 77), rfl, heap_setCell_same wr b2 j _ _ _ hgr, by simpa using hcs, hbw2, hbg2, hvb⟩⟩
          clear HI hgr hcs hbw2 hbg2 hvb
          go_wp2
          exact ⟨⟨j + 1, by omega, by go_num, HI2⟩, by simp [intOf]; omega⟩
        · have hjr : ¬ (j : Int) < (n : Int) := by omega
          obtain ⟨D, hD⟩ : ∃ D, C ++ m = D := ⟨_, rfl⟩
          have hDl : D.length ≤ 100 * (k + 1) := by rw [← hD, List.length_append]; omega
          have HX7 : Hid (PT w g base v3 D wr) := by rw [← hD]; exact HI.out.pt
          clear HI hD
          obtain ⟨ax, cx, rfl, hBx, hcx, hcxm, hnx⟩ := own_parts HX7.out.o
          obtain ⟨nx, hnx'⟩ : ∃ n, D.length = n := ⟨_, rfl⟩
          have HBx : Hid (Byt wr ax nx D) := by rw [← hnx']; exact hBx
          rw [hnx'] at hcx hDl HX7 ⊢
          have hXB := blakeB_length D
          obtain ⟨BX, hBXe⟩ : ∃ B, blakeB D = B := ⟨_, rfl⟩
          rw [hBXe] at hXB
          have HBX : Hid (blakeB D = BX) := hBXe
          have hXs : D.length ≤ 1000000000 := by omega
          have hDl' : D.length ≤ 100 * (k + 1) := by omega
          clear hBx hBXe hnx'
          go_wp2_with fail
          refine (bhsum_any g D wr HX7.out.h hXs (HTab.out.later HX7.out.bel)).mono ?_
          rintro e w1 ⟨rfl, hb1⟩
          rw [HBX.out]
          have HX8 : Hid (PT w g base (.slice ax nx cx) D w1) := HX7.out.later hb1
          have HBx1 : Hid (Byt w1 ax nx D) := HBx.out.later hb1
          clear hb1 HX7 HBx
          go_wp2_with fail
          refine (bsum_any ax nx cx D w1 HBx1.out hnx hcx hcxm (by omega) (HTab.out.later HX8.out.bel)).mono ?_
          rintro e w2' ⟨rfl, hb2⟩
          rw [HBX.out]
          have HX9 : Hid (PT w g base (.slice ax nx cx) D w2') := HX8.out.later hb2
          clear hb2 HX8 HBx1
          have q2 := arr_eq w2' 25 32 BX BX hXB hXB Tryd.underlying25
          rw [decide_eq_true rfl] at q2
          go_wp2
          exact ⟨⟨k + 1, D, by omega, hDl', by go_num, HX9⟩, by simp [intOf]; omega⟩
    · by_cases hc1 : k < len0
      · have i1 : (k : Int) < (len0 : Int) := by omega
        have i2 : ¬ (k : Int) < 20 := by omega
        clear hc
        obtain ⟨ax, cx, rfl, hBx, hcx, hcxm, hnx⟩ := own_parts HX.out.o
        obtain ⟨nx, hnx'⟩ : ∃ n, C.length = n := ⟨_, rfl⟩
        have HBx : Hid (Byt wr ax nx C) := by rw [← hnx']; exact hBx
        have HA : Hid (HashIs wr g C) := HX.out.h
        have HW : Hid (Below w.heap.size w wr) := HX.out.bel
        rw [hnx'] at hcx hCl ⊢
        have hXB := blakeB_length C
        obtain ⟨BX, hBXe⟩ : ∃ B, blakeB C = B := ⟨_, rfl⟩
        rw [hBXe] at hXB
        have HBX : Hid (blakeB C = BX) := hBXe
        have hXs : C.length ≤ 1000000000 := by omega
        clear hBx HX hBXe hnx' HR0
        go_wp2_with fail
        refine (bhsum_any g C wr HA.out hXs (HTab.out.later HW.out)).mono ?_
        rintro e w1 ⟨rfl, hb1⟩
        rw [HBX.out]
        have HW1 : Hid (Below w.heap.size w w1) := HW.out.trans (hb1.mono HW.out.size)
        have HBx1 : Hid (Byt w1 ax nx C) := HBx.out.later hb1
        clear hb1 HA HW HBx
        go_wp2_with fail
        refine (bsum_any ax nx cx C w1 HBx1.out hnx hcx hcxm (by omega) (HTab.out.later HW1.out)).mono ?_
        rintro e w2 ⟨rfl, hb2⟩
        rw [HBX.out]
        have HW2 : Hid (Below w.heap.size w w2) := HW1.out.trans (hb2.mono HW1.out.size)
        clear hb2 HW1 HBx1
        have q2 := arr_eq w2 25 32 BX BX hXB hXB Tryd.underlying25
        rw [decide_eq_true rfl] at q2
        go_wp2
        go_ret
        exact ⟨rfl, HW2.out⟩
      · have i1 : ¬ (k : Int) < (len0 : Int) := by omega
        clear hc
        obtain ⟨ax, cx, rfl, hBx, hcx, hcxm, hnx⟩ := own_parts HX.out.o
        obtain ⟨nx, hnx'⟩ : ∃ n, C.length = n := ⟨_, rfl⟩
        have HBx : Hid (Byt wr ax nx C) := by rw [← hnx']; exact hBx
        have HA : Hid (HashIs wr g C) := HX.out.h
        have HW : Hid (Below w.heap.size w wr) := HX.out.bel
        rw [hnx'] at hcx hCl ⊢
        have hXB := blakeB_length C
        obtain ⟨BX, hBXe⟩ : ∃ B, blakeB C = B := ⟨_, rfl⟩
        rw [hBXe] at hXB
        have HBX : Hid (blakeB C = BX) := hBXe
        have hXs : C.length ≤ 1000000000 := by omega
        clear hBx HX hBXe hnx' HR0
        go_wp2_with fail
        refine (bhsum_any g C wr HA.out hXs (HTab.out.later HW.out)).mono ?_
        rintro e w1 ⟨rfl, hb1⟩
        rw [HBX.out]
        have HW1 : Hid (Below w.heap.size w w1) := HW.out.trans (hb1.mono HW.out.size)
        have HBx1 : Hid (Byt w1 ax nx C) := HBx.out.later hb1
        clear hb1 HA HW HBx
        go_wp2_with fail
        refine (bsum_any ax nx cx C w1 HBx1.out hnx hcx hcxm (by omega) (HTab.out.later HW1.out)).mono ?_
        rintro e w2 ⟨rfl, hb2⟩
        rw [HBX.out]
        have HW2 : Hid (Below w.heap.size w w2) := HW1.out.trans (hb2.mono HW1.out.size)
        clear hb2 HW1 HBx1
        have q2 := arr_eq w2 25 32 BX BX hXB hXB Tryd.underlying25
        rw [decide_eq_true rfl] at q2
        go_wp2
        go_ret
        exact ⟨rfl, HW2.out⟩
end Go.Proofs.YtfalekfddeaioaaDoor.blakeParts
