/- BlakeApart: two hashes have nothing to do with each other. For every row of rows of bytes, where the program's tables are as its text lays them. -/
import Derived.Test.YtfalekfddeaioaaDoorBlkShown
import Derived.Test.YtfalekfddeaioaaDoorFrameB
import Derived.Test.YtfalekfddeaioaaDoorAppW
namespace Go.Proofs.YtfalekfddeaioaaDoor
theorem HashIs.grown {w w' : World} {g : Nat} {row : Option Nat} {C : List UInt8} (h : HashIs w g C) (hG : w.grownBy w' row) (hne : row ≠ some g) : HashIs w' g C := by
  obtain ⟨a, p, h1, h2⟩ := h
  exact ⟨a, p, h1, ⟨by rw [hG.block g h2.hs.lt (fun e => hne e.symm)]; exact h2.hs.row, h2.hs.m8, h2.hs.p64⟩, h2.lo, h2.hi, h2.eq⟩
end Go.Proofs.YtfalekfddeaioaaDoor
namespace Go.Proofs.YtfalekfddeaioaaDoor.blakeApart
open Go.ChangeShapes Go.WideShapes Go.ChangeAt Go.RowKit
set_option linter.unusedVariables false

/-- Two hashes, and what was written to each. -/
structure AP (w : World) (ga gb base : Nat) (vx vy : Value) (Ca Cb X Y : List UInt8) (W : World) : Prop where
  ha : HashIs W ga Ca
  hb : HashIs W gb Cb
  ox : W.ownsRow base 5 1 vx X.length (X.map bv)
  oy : W.ownsRow base 5 1 vy Y.length (Y.map bv)
  ap : ∀ b, vx.ownBlock = some b → vy.ownBlock ≠ some b
  ab : ga ≠ gb
  la : w.heap.size ≤ ga
  lb : w.heap.size ≤ gb
  ba : ga < base
  bb : gb < base
  sz : base ≤ W.heap.size
  bel : Below w.heap.size w W
theorem AP.grown {w W W' : World} {ga gb base : Nat} {vx vy : Value} {Ca Cb X Y : List UInt8} {row : Option Nat} (x : AP w ga gb base vx vy Ca Cb X Y W) (hG : W.grownBy W' row) (hr : ∀ b, row = some b → w.heap.size ≤ b) : Below w.heap.size w W' := by
  have hs := x.bel.size
  exact x.bel.trans ⟨hG.os, hG.tape, hG.output, hG.size, fun k hk => hG.block k (by omega) (fun e => by have := hr k e.symm; omega)⟩
theorem AP.writeA {w W W' : World} {ga gb base : Nat} {vx vy : Value} {Ca Cb X Y C : List UInt8} (x : AP w ga gb base vx vy Ca Cb X Y W) (h : HashIs W' ga C) (hG : W.grownBy W' (some ga)) : AP w ga gb base vx vy C Cb X Y W' :=
  ⟨h, x.hb.grown hG (fun e => x.ab (by cases e; rfl)), own_but x.ox hG (fun b hb e => by cases e; have := (own_base x.ox _ hb).1; have := x.ba; omega), own_but x.oy hG (fun b hb e => by cases e; have := (own_base x.oy _ hb).1; have := x.ba; omega),
    x.ap, x.ab, x.la, x.lb, x.ba, x.bb, Nat.le_trans x.sz hG.size, x.grown hG (fun b e => by cases e; exact x.la)⟩
theorem AP.writeB {w W W' : World} {ga gb base : Nat} {vx vy : Value} {Ca Cb X Y C : List UInt8} (x : AP w ga gb base vx vy Ca Cb X Y W) (h : HashIs W' gb C) (hG : W.grownBy W' (some gb)) : AP w ga gb base vx vy Ca C X Y W' :=
  ⟨x.ha.grown hG (fun e => x.ab (by cases e; rfl)), h, own_but x.ox hG (fun b hb e => by cases e; have := (own_base x.ox _ hb).1; have := x.bb; omega), own_but x.oy hG (fun b hb e => by cases e; have := (own_base x.oy _ hb).1; have := x.bb; omega),
    x.ap, x.ab, x.la, x.lb, x.ba, x.bb, Nat.le_trans x.sz hG.size, x.grown hG (fun b e => by cases e; exact x.lb)⟩
theorem AP.appX {w W W' : World} {ga gb base : Nat} {vx vy v' : Value} {Ca Cb X Y l : List UInt8} (x : AP w ga gb base vx vy Ca Cb X Y W) (n : Nat) (hn : X.length + l.length = n) (h : W'.ownsRow base 5 1 v' n ((X ++ l).map bv)) (hG : W.grownBy W' vx.ownBlock) (hw : v'.ownBlock = vx.ownBlock ∨ v'.ownBlock = some W.heap.size) :
    AP w ga gb base v' vy Ca Cb (X ++ l) Y W' := by
  have hb0 := own_base x.ox
  have ha := x.ba
  have hb := x.bb
  have hl := x.la
  refine ⟨x.ha.grown hG (fun e => by have := hb0 _ e; omega), x.hb.grown hG (fun e => by have := hb0 _ e; omega), by rw [List.length_append, hn]; exact h, own_but x.oy hG (fun b hb' e => x.ap b e hb'), ?_, x.ab, x.la, x.lb, x.ba, x.bb, Nat.le_trans x.sz hG.size, x.grown hG (fun b e => by have := hb0 _ e; omega)⟩
  intro b e1 e2
  rcases hw with hw | hw
  · rw [hw] at e1
    exact x.ap b e1 e2
  · rw [hw] at e1
    cases e1
    have := (own_base x.oy _ e2).2
    omega
theorem AP.appY {w W W' : World} {ga gb base : Nat} {vx vy v' : Value} {Ca Cb X Y l : List UInt8} (x : AP w ga gb base vx vy Ca Cb X Y W) (n : Nat) (hn : Y.length + l.length = n) (h : W'.ownsRow base 5 1 v' n ((Y ++ l).map bv)) (hG : W.grownBy W' vy.ownBlock) (hw : v'.ownBlock = vy.ownBlock ∨ v'.ownBlock = some W.heap.size) :
    AP w ga gb base vx v' Ca Cb X (Y ++ l) W' := by
  have hb0 := own_base x.oy
  have ha := x.ba
  have hb := x.bb
  have hl := x.la
  refine ⟨x.ha.grown hG (fun e => by have := hb0 _ e; omega), x.hb.grown hG (fun e => by have := hb0 _ e; omega), own_but x.ox hG (fun b hb' e => x.ap b hb' e), by rw [List.length_append, hn]; exact h, ?_, x.ab, x.la, x.lb, x.ba, x.bb, Nat.le_trans x.sz hG.size, x.grown hG (fun b e => by have := hb0 _ e; omega)⟩
  intro b e1 e2
  rcases hw with hw | hw
  · rw [hw] at e2
    exact x.ap b e1 e2
  · rw [hw] at e2
    cases e2
    have := (own_base x.ox _ e1).2
    omega
theorem AP.later {w W W' : World} {ga gb base : Nat} {vx vy : Value} {Ca Cb X Y : List UInt8} (x : AP w ga gb base vx vy Ca Cb X Y W) (hb : Below W.heap.size W W') : AP w ga gb base vx vy Ca Cb X Y W' := by
  have hG : W.grownBy W' none := ⟨hb.os, hb.tape, hb.output, hb.size, fun k hk _ => hb.block k hk⟩
  exact ⟨x.ha.later hb, x.hb.later hb, own_but x.ox hG (fun _ _ e => by cases e), own_but x.oy hG (fun _ _ e => by cases e), x.ap, x.ab, x.la, x.lb, x.ba, x.bb, Nat.le_trans x.sz hb.size, x.bel.trans (hb.mono x.bel.size)⟩

set_option maxHeartbeats 4000000 in
set_option maxRecDepth 100000 in
theorem walk (a0 : Option Addr) (len0 cap0 : Nat) (w : World) (w0 : IsRows w a0 len0 cap0) (htab : Tab w) :
    Calls Tryd.prog 6 #[.slice a0 len0 cap0] w fun e w' => e = .returned (.bool true) ∧ Below w.heap.size w w' := by
  have HR0 : Hid (IsRows w a0 len0 cap0) := w0
  have HTab : Hid (Tab w) := htab
  have hlt := htab.lt
  clear htab w0
  go_enter Tryd.func6, Tryd.ntmps6
  go_wp2_with fail
  refine (blkShown_any _ HTab.out).mono ?_
  rintro e w4 ⟨rfl, hb4⟩
  have HW4 : Hid (Below w.heap.size w w4) := hb4
  clear hb4
  go_wp2_with fail
  refine (bnew_any w4 (HTab.out.later HW4.out)).mono ?_
  rintro e w5 ⟨ga, rfl, hga, hHa, hb5⟩
  have hgaw : w.heap.size ≤ ga := Nat.le_trans HW4.out.size hga
  have HW5 : Hid (Below w.heap.size w w5) := HW4.out.trans (hb5.mono HW4.out.size)
  have HHa : Hid (HashIs w5 ga []) := hHa
  clear hb5 HW4 hHa hga
  go_wp2_with fail
  refine (bnew_any w5 (HTab.out.later HW5.out)).mono ?_
  rintro e w6 ⟨gb, rfl, hgb, hHb, hb6⟩
  have hgbw : w.heap.size ≤ gb := Nat.le_trans HW5.out.size hgb
  have hla := HHa.out.lt
  have hlb := hHb.lt
  have h56 := hb6.size
  have HX6 : Hid (AP w ga gb w6.heap.size (.slice none 0 0) (.slice none 0 0) [] [] [] [] w6) :=
    ⟨HHa.out.later hb6, hHb, ⟨rfl, .inl ⟨rfl, rfl⟩⟩, ⟨rfl, .inl ⟨rfl, rfl⟩⟩, (fun b e => by cases e), by omega, hgaw, hgbw, by omega, by omega, Nat.le_refl _, HW5.out.trans (hb6.mono HW5.out.size)⟩
  have hgta : ga ≠ 0 ∧ ga ≠ 1 := by omega
  have hgtb : gb ≠ 0 ∧ gb ≠ 1 := by omega
  clear hgb hHb hb6 hla hlb h56 HHa HW5 hlt
  go_wp2
  generalize w6.heap.size = base at HX6
  go_loopw [6, 7, 8] (fun vx vy i wr => ∃ (k : Nat) (X Y : List UInt8), k ≤ 20 ∧ X.length ≤ 100 * k ∧ Y.length ≤ 100 * k ∧ i = .int .i64 k ∧ Hid (AP w ga gb base vx vy X Y X Y wr)) (fun _ _ i _ => 20 - (intOf i).toNat)
  case atStart => exact ⟨0, [], [], by omega, by simp, by simp, rfl, HX6⟩
  case round =>
    clear HX6
    obtain ⟨k, X, Y, hk, hXl, hYl, rfl, HX⟩ := hrel
    by_cases hc : k < len0 ∧ k < 20
    · obtain ⟨hc1, hc2⟩ := hc
      have i1 : (k : Int) < (len0 : Int) := by omega
      have i2 : (k : Int) < 20 := by omega
      obtain ⟨b, off, rfl, hbw, hrows⟩ := rows_at HR0.out (by omega)
      obtain ⟨ai, li, ci, zs, hcell, hrow⟩ := hrows k hc1
      have hnil := brow_nil hrow
      obtain ⟨m, n, hnE0, hn1, hn2, hnc, hncm, hBm⟩ := cut_row hrow 100
      have hnE : (if (100 : Int) < (li : Int) then (100 : Int) else (li : Int)) = (n : Int) := hnE0
      have hml := hBm.1
      have HOw : Hid (∀ b' o f, ai = some ⟨b', o, f⟩ → 0 < n → b' < w.heap.size) := by
        intro b' o f e hn
        rcases hBm.2 with h0 | ⟨b2, o2, e2, hc⟩
        · omega
        · rw [e2] at e
          cases e
          rw [e2] at hBm
          exact hBm.lt hn
      obtain ⟨W, hWd⟩ : ∃ W, wr.drew = W := ⟨_, rfl⟩
      have HWd : Hid (wr.drew = W) := hWd
      have HXW : Hid (AP w ga gb base u6 u7 X Y X Y W) := HX.out.later (by rw [← hWd]; exact (Below.refl _ _).drew)
      have hcW : W.cell? ⟨b, off + k, none⟩ = some (.slice ai li ci) := by
        rw [World.cell?_of_block (HXW.out.bel.block b hbw)]
        exact hcell
      have HBW : Hid (Byt W ai n m) := hBm.later HXW.out.bel
      have HBm : Hid (Byt w ai n m) := hBm
      have e1 : (n : Int) ≤ (ci : Int) := by omega
      have hcm' : ci ≤ 9223372036854775807 := by unfold maxLen at hncm; exact hncm
      clear hnE0 hBm hrow hcell hrows hWd HX
      go_wp2
      refine wp_region_sched' (G := Stays) (by kernel_rfl) Stays.refl Stays.trans (by kernel_rfl) [(0, true), (1, true), (2, true), (3, true), (4, true), (5, true), (6, true), (7, true), (8, true), (9, true), (10, true), (11, true)] rfl (by kernel_rfl) ?_
      intro KK hKK
      rw [HWd.out]
      iterate 12 (refine sched_take rfl (by rfl) (v := ?_) ?_ ?_; rotate_left; (rintro w' rfl; go_simp; with_reducible rfl); go_simp)
      refine sched_done hKK ?_
      clear hKK HWd hcW hnE e1
      by_cases hpar : k % 2 = 0
      · have hp1 : ((k : Int)).tmod 2 = 0 := by rw [Int.tmod_eq_emod_of_nonneg (by omega)]; omega
        clear hpar
        go_wp2_with fail
        refine (bwrite_any ga X ai n ci m W HXW.out.ha HBW.out hnil (fun hn b' o f e => by have := HOw.out b' o f e hn; omega) (by omega) hncm (by omega) (HTab.out.later HXW.out.bel) hgta).mono ?_
        rintro e w7 ⟨⟨v, rfl⟩, hH7, hG7⟩
        have HX7 : Hid (AP w ga gb base u6 u7 (X ++ m) Y X Y w7) := HXW.out.writeA hH7 hG7
        have HB7 : Hid (Byt w7 ai n m) := HBm.out.later HX7.out.bel
        obtain ⟨v8, w8, hr8, ho8, hg8, hw8⟩ := append_where w7 base u6 X.length X HX7.out.ox ai n ci m HB7.out hnil HX7.out.sz (by omega)
        have HA8 : Hid ((Builtin.append_ #[22, 22] 22 #[u6, .slice ai n ci]).run Tryd.prog w7 = .ok v8 w8) := hr8
        have HX8 : Hid (AP w ga gb base v8 u7 (X ++ m) Y (X ++ m) Y w8) := HX7.out.appX (X.length + n) (by rw [hml]) ho8 hg8 hw8
        clear hH7 hG7 HXW HBW hr8 ho8 hg8 hw8 HX7 HB7
        go_wp2_with (at_builtin; refine wpList_append_run rfl (.tmp 46) (.tmp 47) 22 rfl _ _ _ _ rfl rfl HA8.out ?_)
        exact ⟨⟨k + 1, X ++ m, Y, by omega, by rw [List.length_append]; omega, by omega, by go_num, HX8⟩, by simp [intOf]; omega⟩
      · have hp1 : ((k : Int)).tmod 2 = 1 := by rw [Int.tmod_eq_emod_of_nonneg (by omega)]; omega
        clear hpar
        go_wp2_with fail
        refine (bwrite_any gb Y ai n ci m W HXW.out.hb HBW.out hnil (fun hn b' o f e => by have := HOw.out b' o f e hn; omega) (by omega) hncm (by omega) (HTab.out.later HXW.out.bel) hgtb).mono ?_
        rintro e w7 ⟨⟨v, rfl⟩, hH7, hG7⟩
        have HX7 : Hid (AP w ga gb base u6 u7 X (Y ++ m) X Y w7) := HXW.out.writeB hH7 hG7
        have HB7 : Hid (Byt w7 ai n m) := HBm.out.later HX7.out.bel
        obtain ⟨v8, w8, hr8, ho8, hg8, hw8⟩ := append_where w7 base u7 Y.length Y HX7.out.oy ai n ci m HB7.out hnil HX7.out.sz (by omega)
        have HA8 : Hid ((Builtin.append_ #[22, 22] 22 #[u7, .slice ai n ci]).run Tryd.prog w7 = .ok v8 w8) := hr8
        have HX8 : Hid (AP w ga gb base u6 v8 X (Y ++ m) X (Y ++ m) w8) := HX7.out.appY (Y.length + n) (by rw [hml]) ho8 hg8 hw8
        clear hH7 hG7 HXW HBW hr8 ho8 hg8 hw8 HX7 HB7
        go_wp2_with (at_builtin; refine wpList_append_run rfl (.tmp 52) (.tmp 53) 22 rfl _ _ _ _ rfl rfl HA8.out ?_)
        exact ⟨⟨k + 1, X, Y ++ m, by omega, by omega, by rw [List.length_append]; omega, by go_num, HX8⟩, by simp [intOf]; omega⟩
    · by_cases hc1 : k < len0
      · have i1 : (k : Int) < (len0 : Int) := by omega
        have i2 : ¬ (k : Int) < 20 := by omega
        clear hc
        obtain ⟨ax, cx, rfl, hBx, hcx, hcxm, hnx⟩ := own_parts HX.out.ox
        obtain ⟨ay, cy, rfl, hBy, hcy, hcym, hny⟩ := own_parts HX.out.oy
        obtain ⟨nx, hnx'⟩ : ∃ n, X.length = n := ⟨_, rfl⟩
        obtain ⟨ny, hny'⟩ : ∃ n, Y.length = n := ⟨_, rfl⟩
        have HBx : Hid (Byt wr ax nx X) := by rw [← hnx']; exact hBx
        have HBy : Hid (Byt wr ay ny Y) := by rw [← hny']; exact hBy
        have HA : Hid (HashIs wr ga X) := HX.out.ha
        have HB : Hid (HashIs wr gb Y) := HX.out.hb
        have HW : Hid (Below w.heap.size w wr) := HX.out.bel
        rw [hnx'] at hcx hXl ⊢
        rw [hny'] at hcy hYl ⊢
        have hXB := blakeB_length X
        obtain ⟨BX, hBXe⟩ : ∃ B, blakeB X = B := ⟨_, rfl⟩
        rw [hBXe] at hXB
        have HBX : Hid (blakeB X = BX) := hBXe
        have hYB := blakeB_length Y
        obtain ⟨BY, hBYe⟩ : ∃ B, blakeB Y = B := ⟨_, rfl⟩
        rw [hBYe] at hYB
        have HBY : Hid (blakeB Y = BY) := hBYe
        have hXs : X.length ≤ 1000000000 := by omega
        have hYs : Y.length ≤ 1000000000 := by omega
        clear hBx hBy HX hBXe hBYe hnx' hny' HR0
        go_wp2_with fail
        refine (bhsum_any ga X wr HA.out hXs (HTab.out.later HW.out)).mono ?_
        rintro e w1 ⟨rfl, hb1⟩
        rw [HBX.out]
        have HW1 : Hid (Below w.heap.size w w1) := HW.out.trans (hb1.mono HW.out.size)
        have HBx1 : Hid (Byt w1 ax nx X) := HBx.out.later hb1
        have HBy1 : Hid (Byt w1 ay ny Y) := HBy.out.later hb1
        have HB1 : Hid (HashIs w1 gb Y) := HB.out.later hb1
        clear hb1 HA HB HW HBx HBy
        go_wp2_with fail
        refine (bsum_any ax nx cx X w1 HBx1.out hnx hcx hcxm (by omega) (HTab.out.later HW1.out)).mono ?_
        rintro e w2 ⟨rfl, hb2⟩
        rw [HBX.out]
        have HW2 : Hid (Below w.heap.size w w2) := HW1.out.trans (hb2.mono HW1.out.size)
        have HBy2 : Hid (Byt w2 ay ny Y) := HBy1.out.later hb2
        have HB2 : Hid (HashIs w2 gb Y) := HB1.out.later hb2
        clear hb2 HW1 HBx1 HBy1 HB1
        have q2 := arr_eq w2 25 32 BX BX hXB hXB Tryd.underlying25
        rw [decide_eq_true rfl] at q2
        go_wp2_with fail
        clear q2
        refine (bhsum_any gb Y w2 HB2.out hYs (HTab.out.later HW2.out)).mono ?_
        rintro e w3 ⟨rfl, hb3⟩
        rw [HBY.out]
        have HW3 : Hid (Below w.heap.size w w3) := HW2.out.trans (hb3.mono HW2.out.size)
        have HBy3 : Hid (Byt w3 ay ny Y) := HBy2.out.later hb3
        clear hb3 HW2 HBy2 HB2
        go_wp2_with fail
        refine (bsum_any ay ny cy Y w3 HBy3.out hny hcy hcym (by omega) (HTab.out.later HW3.out)).mono ?_
        rintro e w9 ⟨rfl, hb9⟩
        rw [HBY.out]
        have HW9 : Hid (Below w.heap.size w w9) := HW3.out.trans (hb9.mono HW3.out.size)
        clear hb9 HW3 HBy3
        have q9 := arr_eq w9 25 32 BY BY hYB hYB Tryd.underlying25
        rw [decide_eq_true rfl] at q9
        go_wp2
        go_ret
        exact ⟨rfl, HW9.out⟩
      · have i1 : ¬ (k : Int) < (len0 : Int) := by omega
        clear hc
        obtain ⟨ax, cx, rfl, hBx, hcx, hcxm, hnx⟩ := own_parts HX.out.ox
        obtain ⟨ay, cy, rfl, hBy, hcy, hcym, hny⟩ := own_parts HX.out.oy
        obtain ⟨nx, hnx'⟩ : ∃ n, X.length = n := ⟨_, rfl⟩
        obtain ⟨ny, hny'⟩ : ∃ n, Y.length = n := ⟨_, rfl⟩
        have HBx : Hid (Byt wr ax nx X) := by rw [← hnx']; exact hBx
        have HBy : Hid (Byt wr ay ny Y) := by rw [← hny']; exact hBy
        have HA : Hid (HashIs wr ga X) := HX.out.ha
        have HB : Hid (HashIs wr gb Y) := HX.out.hb
        have HW : Hid (Below w.heap.size w wr) := HX.out.bel
        rw [hnx'] at hcx hXl ⊢
        rw [hny'] at hcy hYl ⊢
        have hXB := blakeB_length X
        obtain ⟨BX, hBXe⟩ : ∃ B, blakeB X = B := ⟨_, rfl⟩
        rw [hBXe] at hXB
        have HBX : Hid (blakeB X = BX) := hBXe
        have hYB := blakeB_length Y
        obtain ⟨BY, hBYe⟩ : ∃ B, blakeB Y = B := ⟨_, rfl⟩
        rw [hBYe] at hYB
        have HBY : Hid (blakeB Y = BY) := hBYe
        have hXs : X.length ≤ 1000000000 := by omega
        have hYs : Y.length ≤ 1000000000 := by omega
        clear hBx hBy HX hBXe hBYe hnx' hny' HR0
        go_wp2_with fail
        refine (bhsum_any ga X wr HA.out hXs (HTab.out.later HW.out)).mono ?_
        rintro e w1 ⟨rfl, hb1⟩
        rw [HBX.out]
        have HW1 : Hid (Below w.heap.size w w1) := HW.out.trans (hb1.mono HW.out.size)
        have HBx1 : Hid (Byt w1 ax nx X) := HBx.out.later hb1
        have HBy1 : Hid (Byt w1 ay ny Y) := HBy.out.later hb1
        have HB1 : Hid (HashIs w1 gb Y) := HB.out.later hb1
        clear hb1 HA HB HW HBx HBy
        go_wp2_with fail
        refine (bsum_any ax nx cx X w1 HBx1.out hnx hcx hcxm (by omega) (HTab.out.later HW1.out)).mono ?_
        rintro e w2 ⟨rfl, hb2⟩
        rw [HBX.out]
        have HW2 : Hid (Below w.heap.size w w2) := HW1.out.trans (hb2.mono HW1.out.size)
        have HBy2 : Hid (Byt w2 ay ny Y) := HBy1.out.later hb2
        have HB2 : Hid (HashIs w2 gb Y) := HB1.out.later hb2
        clear hb2 HW1 HBx1 HBy1 HB1
        have q2 := arr_eq w2 25 32 BX BX hXB hXB Tryd.underlying25
        rw [decide_eq_true rfl] at q2
        go_wp2_with fail
        clear q2
        refine (bhsum_any gb Y w2 HB2.out hYs (HTab.out.later HW2.out)).mono ?_
        rintro e w3 ⟨rfl, hb3⟩
        rw [HBY.out]
        have HW3 : Hid (Below w.heap.size w w3) := HW2.out.trans (hb3.mono HW2.out.size)
        have HBy3 : Hid (Byt w3 ay ny Y) := HBy2.out.later hb3
        clear hb3 HW2 HBy2 HB2
        go_wp2_with fail
        refine (bsum_any ay ny cy Y w3 HBy3.out hny hcy hcym (by omega) (HTab.out.later HW3.out)).mono ?_
        rintro e w9 ⟨rfl, hb9⟩
        rw [HBY.out]
        have HW9 : Hid (Below w.heap.size w w9) := HW3.out.trans (hb9.mono HW3.out.size)
        clear hb9 HW3 HBy3
        have q9 := arr_eq w9 25 32 BY BY hYB hYB Tryd.underlying25
        rw [decide_eq_true rfl] at q9
        go_wp2
        go_ret
        exact ⟨rfl, HW9.out⟩
end Go.Proofs.YtfalekfddeaioaaDoor.blakeApart
