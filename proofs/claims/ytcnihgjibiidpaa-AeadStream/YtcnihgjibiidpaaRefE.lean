/- The walk over the document's block. -/
import Derived.Test.YtcnihgjibiidpaaRefD
namespace Go.Proofs.Ytcnihgjibiidpaa
set_option linter.unusedVariables false
open Go.RowKit

theorem wv_oneCell (l : List (BitVec 32)) : ∀ u ∈ l.map wv, u.oneCell' = true := by
  intro u hu
  simp only [List.mem_map] at hu
  obtain ⟨c, _, rfl⟩ := hu
  rfl
/-- 'append(l, s...)' of words. -/
theorem append_words (w : World) (base : Nat) (v : Value) (n : Nat) (xs : List (BitVec 32)) (hown : w.ownsRow base 33 1 v n (xs.map wv)) (x : Addr) (m c : Nat) (ys : List (BitVec 32)) (hs : Seg w 33 (some x) m c (ys.map wv)) (hb : base ≤ w.heap.size) (hsm : n + m ≤ 1000) :
    ∃ v' w', (Builtin.append_ #[87, 87] 87 #[v, .slice (some x) m c]).run Try.prog w = .ok v' w' ∧ w'.ownsRow base 33 1 v' (n + m) ((xs ++ ys).map wv) ∧ w.grownBy w' v.ownBlock := by
  obtain ⟨i0, hi, hz0, hz1, hz2⟩ := info_parts Try.infoU64
  have hl := hs.1
  obtain ⟨v', w', hr, ho, hg, _⟩ := run_append_own (P := Try.prog) w base 87 87 33 i0 (.int .u64 0) 1 8 Try.underlying87 hi hz0 hz1 hz2 rfl (by decide) v n _ hown x m c (ys.map wv) (by omega) hs.cellsW (wv_oneCell ys) (by unfold maxLen; omega) (by omega) hb
  exact ⟨v', w', hr, by rw [List.map_append]; exact ho, hg⟩
/-- Between the turns: the words, and what they were. -/
structure Cha (w : World) (g h cg ch : Nat) (l l0 : List (BitVec 32)) (wr : World) : Prop where
  now : Seg wr 33 (some ⟨g, 0, none⟩) 16 cg (l.map wv)
  was : Seg wr 33 (some ⟨h, 0, none⟩) 16 ch (l0.map wv)
  ne : h ≠ g
  bg : w.heap.size ≤ g
  bel : Below w.heap.size w wr
theorem Cha.next {w wr w' : World} {g h cg ch : Nat} {l l' l0 : List (BitVec 32)} (c : Cha w g h cg ch l l0 wr) (hs : Seg w' 33 (some ⟨g, 0, none⟩) 16 cg (l'.map wv)) (hg : wr.grownBy w' (some g)) : Cha w g h cg ch l' l0 w' :=
  ⟨hs, c.was.kept fun j hj => by
      have e : j = h := by simp [blockOf] at hj; exact hj.symm
      subst e
      exact hg.block j (c.was.lt j rfl) (fun e => c.ne (by cases e; rfl)),
    c.ne, c.bg, c.bel.grown hg c.bel.size (fun k e => by cases e; exact c.bg)⟩
theorem Cha.grow {w wr w' : World} {g h cg ch : Nat} {l l0 : List (BitVec 32)} (c : Cha w g h cg ch l l0 wr) (hb : Below wr.heap.size wr w') : Cha w g h cg ch l l0 w' :=
  ⟨c.now.kept fun j hj => hb.block j (c.now.lt j hj), c.was.kept fun j hj => hb.block j (c.was.lt j hj), c.ne, c.bg, c.bel.trans (hb.mono c.bel.size)⟩
theorem rem4 (k j : Nat) : ((k : Int) + (j : Int)).tmod 4 = (((k + j) % 4 : Nat) : Int) := by
  rw [Int.tmod_eq_emod_of_nonneg (by omega)]; omega

set_option maxHeartbeats 2000000 in
set_option maxRecDepth 100000 in
theorem refBlock_cap (kb koff nb noff kc nc : Nat) (key nonce : List UInt8) (ctr : BitVec 32) (w : World) (hkc : 32 ≤ kc) (hnc : 12 ≤ nc) (hkm : kc ≤ 1000000) (hnm : nc ≤ 1000000)
    (hK : Byt w (some ⟨kb, koff, none⟩) 32 key) (hN : Byt w (some ⟨nb, noff, none⟩) 12 nonce) :
    Calls Try.prog 53 #[.slice (some ⟨kb, koff, none⟩) 32 kc, .int .u32 (ctr.toNat : Int), .slice (some ⟨nb, noff, none⟩) 12 nc] w fun e w' => ∃ a' cap', e = .returned (.slice a' 64 cap') ∧ Below w.heap.size w w' ∧ Byt w' a' 64 (blk key ctr nonce) ∧ 64 ≤ cap' := by
  have hkb := hK.lt (by omega)
  have hnb := hN.lt (by omega)
  obtain ⟨W0, hW0⟩ : ∃ W0, w.alloc (.cells #[.int .u64 1634760805, .int .u64 857760878, .int .u64 2036477234, .int .u64 1797285236] 33) = W0 := ⟨_, rfl⟩
  have own0 : W0.ownsRow w.heap.size 33 1 (.slice (some ⟨w.heap.size, 0, none⟩) 4 4) 4 (chaHead.map wv) := by
    rw [← hW0]
    exact World.ownsRow_lit w _ 4 (Nat.le_refl _) (by unfold maxLen; omega) rfl
  have bel0 : Below w.heap.size w W0 := by rw [← hW0]; exact (Below.refl _ _).alloc (Nat.le_refl _) _
  have HK0 : Hid (Byt W0 (some ⟨kb, koff, none⟩) 32 key) := hK.below hkb bel0
  have HO0 : Hid (W0.ownsRow w.heap.size 33 1 (.slice (some ⟨w.heap.size, 0, none⟩) 4 4) 4 (chaHead.map wv)) := own0
  have HN : Hid (Byt w (some ⟨nb, noff, none⟩) 12 nonce) := hN
  have HB0 : Hid (Below w.heap.size w W0) := bel0
  have HW0 : Hid (w.alloc (.cells #[.int .u64 1634760805, .int .u64 857760878, .int .u64 2036477234, .int .u64 1797285236] 33) = W0) := hW0
  clear hK hN own0 bel0 hW0
  go_enter Try.func53, Try.ntmps53
  go_wp2_with fail
  rw [HW0.out]
  refine (refWords_any kb koff 8 kc key _ hkc hkm HK0.out).mono ?_
  rintro e w1 ⟨a1, c1, rfl, hb1, hs1, hbl1⟩
  obtain ⟨g1, off1, rfl, _, _⟩ := hs1.cell 0 (by omega)
  have bel1 : Below w.heap.size w w1 := HB0.out.trans (hb1.mono HB0.out.size)
  have own1 := HO0.out.kept (grown_below hb1) (.inr (by simp [Value.ownBlock]))
  obtain ⟨v2, w2, hap2, own2, hg2⟩ := append_words w1 w.heap.size _ 4 _ own1 ⟨g1, off1, none⟩ 8 c1 _ hs1 bel1.size (by omega)
  have bel2 : Below w.heap.size w w2 := bel1.grown hg2 bel1.size (fun k hk => (own1.lt k hk).1)
  have hs2 : Seg (w2.alloc (.cells #[.int .u64 (ctr.toNat : Int)] 33)) 33 (some ⟨w2.heap.size, 0, none⟩) 1 1 ([ctr].map wv) :=
    ⟨rfl, .inr ⟨w2.heap.size, 0, #[.int .u64 (ctr.toNat : Int)], rfl, heap_alloc_new w2 _, by simp, Nat.le_refl _, fun i hi => by have : i = 0 := by omega
                                                                                                                                  subst this; rfl⟩⟩
  obtain ⟨v3, w3, hap3, own3, hg3⟩ := append_words (w2.alloc (.cells #[.int .u64 (ctr.toNat : Int)] 33)) w.heap.size _ 12 _ (own2.alloc _) ⟨w2.heap.size, 0, none⟩ 1 1 [ctr] hs2 (by have := bel2.size; simp; omega) (by omega)
  have bel3 : Below w.heap.size w w3 := (bel2.alloc bel2.size _).grown hg3 (by have := bel2.size; simp; omega) (fun k hk => (own2.lt k hk).1)
  have HA2 : Hid ((Builtin.append_ #[87, 87] 87 #[.slice (some ⟨w.heap.size, 0, none⟩) 4 4, .slice (some ⟨g1, off1, none⟩) 8 c1]).run Try.prog w1 = .ok v2 w2) := hap2
  have HA3 : Hid ((Builtin.append_ #[87, 87] 87 #[v2, .slice (some ⟨w2.heap.size, 0, none⟩) 1 1]).run Try.prog (w2.alloc (.cells #[.int .u64 (ctr.toNat : Int)] 33)) = .ok v3 w3) := hap3
  have HO3 : Hid (w3.ownsRow w.heap.size 33 1 v3 13 ((chaHead ++ wordsTo key 8 ++ [ctr]).map wv)) := own3
  have HB3 : Hid (Below w.heap.size w w3) := bel3
  clear hs1 hb1 hbl1 bel1 own1 hap2 own2 hg2 bel2 hs2 hap3 own3 hg3 bel3 HK0 HO0 HB0 HW0
  go_wp2_with (at_builtin; first | refine wpList_append_run rfl (.tmp 15) (.tmp 17) 87 rfl _ _ _ _ rfl rfl HA2.out ?_ | refine wpList_append_run rfl (.tmp 19) (.tmp 22) 87 rfl _ _ _ _ rfl rfl HA3.out ?_)
  refine (refWords_any nb noff 3 nc nonce _ hnc hnm (HN.out.below hnb HB3.out)).mono ?_
  rintro e w4 ⟨a4, c4, rfl, hb4, hs4, hbl4⟩
  obtain ⟨g4, off4, rfl, _, _⟩ := hs4.cell 0 (by omega)
  have bel4 : Below w.heap.size w w4 := HB3.out.trans (hb4.mono HB3.out.size)
  have own4 := HO3.out.kept (grown_below hb4) (by
    rcases h : v3.ownBlock with _ | j
    · exact .inl rfl
    · exact .inr (by simp))
  obtain ⟨v5, w5, hap5, own5, hg5⟩ := append_words w4 w.heap.size _ 13 _ own4 ⟨g4, off4, none⟩ 3 c4 _ hs4 bel4.size (by omega)
  have bel5 : Below w.heap.size w w5 := bel4.grown hg5 bel4.size (fun k hk => (own4.lt k hk).1)
  obtain ⟨g, cg, rfl, hbg, seg5⟩ := own_slice own5 (by omega)
  have hg5lt : g < w5.heap.size := seg5.lt g rfl
  have own6 : (w5.alloc (.cells #[] 33)).ownsRow w5.heap.size 33 1 (.slice (some ⟨w5.heap.size, 0, none⟩) 0 0) 0 (([] : List (BitVec 32)).map wv) := World.ownsRow_made w5 #[] 0 (Nat.le_refl _) (Nat.zero_le _) rfl
  have seg6 : Seg (w5.alloc (.cells #[] 33)) 33 (some ⟨g, 0, none⟩) 16 cg ((chaHead ++ wordsTo key 8 ++ [ctr] ++ wordsTo nonce 3).map wv) := seg5.kept fun j hj => Below.heap_alloc w5 _ j (seg5.lt j hj)
  obtain ⟨v7, w7, hap7, own7, hg7⟩ := append_words (w5.alloc (.cells #[] 33)) w5.heap.size _ 0 [] own6 ⟨g, 0, none⟩ 16 cg _ seg6 (by simp) (by omega)
  obtain ⟨h, ch, rfl, hbh, seg7⟩ := own_slice own7 (by omega)
  have hg7' : (w5.alloc (.cells #[] 33)).grownBy w7 (some w5.heap.size) := hg7
  have HC0 : Hid (Cha w g h cg ch (chaAt key ctr nonce) (chaAt key ctr nonce) w7) := by
    refine ⟨?_, seg7, by omega, hbg, ?_⟩
    · exact seg6.kept fun j hj => hg7'.block j (seg6.lt j hj) (by
        intro e
        have e1 : j = g := by simp [blockOf] at hj; exact hj.symm
        cases e
        omega)
    · exact (bel5.alloc bel5.size _).grown hg7' (by have := bel5.size; simp; omega) (fun k hk => by cases hk; exact bel5.size)
  have HA5 : Hid ((Builtin.append_ #[87, 87] 87 #[v3, .slice (some ⟨g4, off4, none⟩) 3 c4]).run Try.prog w4 = .ok (.slice (some ⟨g, 0, none⟩) 16 cg) w5) := hap5
  have HA7 : Hid ((Builtin.append_ #[87, 87] 87 #[.slice (some ⟨w5.heap.size, 0, none⟩) 0 0, .slice (some ⟨g, 0, none⟩) 16 cg]).run Try.prog (w5.alloc (.cells #[] 33)) = .ok (.slice (some ⟨h, 0, none⟩) 16 ch) w7) := hap7
  clear hb4 hs4 hbl4 bel4 own4 hap5 own5 hg5 bel5 hbg seg5 own6 seg6 hap7 own7 hg7 hg7' seg7 hbh HO3 HB3 HA2 HA3 HN
  go_wp2_with (at_builtin; first | refine wpList_append_run rfl (.tmp 24) (.tmp 26) 87 rfl _ _ _ _ rfl rfl HA5.out ?_ | refine wpList_append_run rfl (.tmp 28) (.tmp 29) 87 rfl _ _ _ _ rfl rfl HA7.out ?_)
  clear HA5 HA7
  obtain ⟨l0, hl0⟩ : ∃ l0, chaAt key ctr nonce = l0 := ⟨_, rfl⟩
  rw [hl0] at HC0
  have HL0 : Hid (chaAt key ctr nonce = l0) := hl0
  have hlen0 : l0.length = 16 := by rw [← hl0]; exact chaAt_length key ctr nonce
  clear hl0
  go_loopw [9] (fun i wr => ∃ k : Nat, k ≤ 10 ∧ i = .int .i64 k ∧ Hid (Cha w g h cg ch (turned k l0) l0 wr)) (fun i _ => 10 - (intOf i).toNat)
  case atStart => exact ⟨0, by omega, rfl, HC0⟩
  case round =>
    obtain ⟨k, hk, rfl, hC⟩ := hrel
    by_cases hlt : k < 10
    · have hkr : (k : Int) < 10 := by omega
      go_wp2
      go_loopw [10] (fun i wr => ∃ j : Nat, j ≤ 4 ∧ i = .int .i64 j ∧ Hid (Cha w g h cg ch (cols j (turned k l0)) l0 wr)) (fun i _ => 4 - (intOf i).toNat)
      case atStart => exact ⟨0, by omega, rfl, hC⟩
      case round =>
        clear hC
        obtain ⟨j, hj, rfl, hD⟩ := hrel
        by_cases hjl : j < 4
        · obtain ⟨p1, hp1⟩ : ∃ p, 4 + j = p := ⟨_, rfl⟩
          obtain ⟨p2, hp2⟩ : ∃ p, 8 + j = p := ⟨_, rfl⟩
          obtain ⟨p3, hp3⟩ : ∃ p, 12 + j = p := ⟨_, rfl⟩
          have e1 : (4 : Int) + (j : Int) = (p1 : Int) := by omega
          have e2 : (8 : Int) + (j : Int) = (p2 : Int) := by omega
          have e3 : (12 : Int) + (j : Int) = (p3 : Int) := by omega
          have hlj : (j : Int) < 4 := by omega
          go_wp2_with fail
          refine (refQuarter_any g 0 cg 16 _ j p1 p2 p3 _ hD.out.now (by omega) (by omega) (by omega) (by omega) (by omega) (by omega)).mono ?_
          rintro e w8 ⟨⟨v, rfl⟩, hs8, hg8⟩
          have HD8 : Hid (Cha w g h cg ch (cols (j + 1) (turned k l0)) l0 w8) := by
            rw [cols, hp1, hp2, hp3]
            exact hD.out.next hs8 hg8
          clear hs8 hg8
          go_wp2
          exact ⟨⟨j + 1, by omega, by go_num, HD8⟩, by simp [intOf]; omega⟩
        · have ej : j = 4 := by omega
          have hjr : ¬ (j : Int) < 4 := by omega
          have HD4 : Hid (Cha w g h cg ch (cols 4 (turned k l0)) l0 wr) := by rw [← ej]; exact hD.out
          clear hD
          go_wp2
          go_loopw [11] (fun i wr => ∃ j : Nat, j ≤ 4 ∧ i = .int .i64 j ∧ Hid (Cha w g h cg ch (slants j (cols 4 (turned k l0))) l0 wr)) (fun i _ => 4 - (intOf i).toNat)
          case atStart => exact ⟨0, by omega, rfl, HD4⟩
          case round =>
            clear HD4
            obtain ⟨q, hq, rfl, hE⟩ := hrel
            by_cases hql : q < 4
            · obtain rfl | rfl | rfl | rfl : q = 0 ∨ q = 1 ∨ q = 2 ∨ q = 3 := by omega
              · go_wp2_with fail
                refine (refQuarter_any g 0 cg 16 _ 0 5 10 15 _ hE.out.now (by omega) (by omega) (by omega) (by omega) (by omega) (by omega)).mono ?_
                rintro e w8 ⟨⟨v, rfl⟩, hs8, hg8⟩
                have HE8 : Hid (Cha w g h cg ch (slants 1 (cols 4 (turned k l0))) l0 w8) := hE.out.next hs8 hg8
                clear hs8 hg8
                go_wp2
                go_roundw
                case rel => exact ⟨1, by omega, rfl, HE8⟩
                case measure => simp [intOf]
              · go_wp2_with fail
                refine (refQuarter_any g 0 cg 16 _ 1 6 11 12 _ hE.out.now (by omega) (by omega) (by omega) (by omega) (by omega) (by omega)).mono ?_
                rintro e w8 ⟨⟨v, rfl⟩, hs8, hg8⟩
                have HE8 : Hid (Cha w g h cg ch (slants 2 (cols 4 (turned k l0))) l0 w8) := hE.out.next hs8 hg8
                clear hs8 hg8
                go_wp2
                go_roundw
                case rel => exact ⟨2, by omega, rfl, HE8⟩
                case measure => simp [intOf]
              · go_wp2_with fail
                refine (refQuarter_any g 0 cg 16 _ 2 7 8 13 _ hE.out.now (by omega) (by omega) (by omega) (by omega) (by omega) (by omega)).mono ?_
                rintro e w8 ⟨⟨v, rfl⟩, hs8, hg8⟩
                have HE8 : Hid (Cha w g h cg ch (slants 3 (cols 4 (turned k l0))) l0 w8) := hE.out.next hs8 hg8
                clear hs8 hg8
                go_wp2
                go_roundw
                case rel => exact ⟨3, by omega, rfl, HE8⟩
                case measure => simp [intOf]
              · go_wp2_with fail
                refine (refQuarter_any g 0 cg 16 _ 3 4 9 14 _ hE.out.now (by omega) (by omega) (by omega) (by omega) (by omega) (by omega)).mono ?_
                rintro e w8 ⟨⟨v, rfl⟩, hs8, hg8⟩
                have HE8 : Hid (Cha w g h cg ch (slants 4 (cols 4 (turned k l0))) l0 w8) := hE.out.next hs8 hg8
                clear hs8 hg8
                go_wp2
                go_roundw
                case rel => exact ⟨4, by omega, rfl, HE8⟩
                case measure => simp [intOf]
            · have eq : q = 4 := by omega
              subst eq
              go_wp2
              exact ⟨⟨k + 1, by omega, by go_num, hE⟩, by simp [intOf]; omega⟩
    · have ek : k = 10 := by omega
      have hkr : ¬ (k : Int) < 10 := by omega
      have hC : Hid (Cha w g h cg ch (turned 10 l0) l0 wr) := by rw [← ek]; exact hC.out
      clear ek hlt hk
      go_wp2
      go_loopw [12, 13] (fun v i wr => ∃ (k : Nat) (a' : Option Addr) (cap' : Nat), k ≤ 16 ∧ i = .int .i64 k ∧ v = .slice a' (4 * k) cap' ∧ 4 * k ≤ cap' ∧ (a' = none → cap' = 0) ∧ Hid (Byt wr a' (4 * k) (blkTo key ctr nonce k)) ∧ Hid (Cha w g h cg ch (turned 10 l0) l0 wr)) (fun _ i _ => 16 - (intOf i).toNat)
      case atStart =>
        refine ⟨0, some ⟨_, 0, none⟩, 0, by omega, rfl, rfl, (by omega), (by intro e; cases e), ⟨rfl, .inl rfl⟩, ?_⟩
        exact hC.out.grow ((Below.refl _ _).alloc (Nat.le_refl _) _)
      case round =>
        clear hC
        clear hkr
        obtain ⟨k, a', cap', hk, rfl, rfl, hkc, hnil, hBt, hC⟩ := hrel
        by_cases hlt : k < 16
        · obtain ⟨x, hx⟩ : ∃ x, at32 (turned 10 l0) k = x := ⟨_, rfl⟩
          obtain ⟨y, hy⟩ : ∃ y, at32 l0 k = y := ⟨_, rfl⟩
          have i1 : (k : Int) < 16 := by omega
          obtain ⟨n, hn⟩ : ∃ n, x.toNat + y.toNat = n := ⟨_, rfl⟩
          have hnlt : n < 8589934592 := by have := x.isLt; have := y.isLt; omega
          have HU : Hid (IntKind.u64.wrap ((x.toNat : Int) + (y.toNat : Int)) = (n : Int)) := by show _ = _; rw [IntKind.wrap_u64]; omega
          have HE : Hid (blkTo key ctr nonce (k + 1) = blkTo key ctr nonce k ++ putB 4 n false) := by
            show _ = _
            rw [blkTo, chaWord, HL0.out, hx, hy, ← leB4_add, hn]
            rfl
          obtain ⟨W, hW⟩ : ∃ W, wr.drew = W := ⟨_, rfl⟩
          have hgr : Below wr.heap.size wr W := by rw [← hW]; exact (Below.refl _ _).drew
          have HCW : Hid (Cha w g h cg ch (turned 10 l0) l0 W) := hC.out.grow hgr
          have HBW : Hid (Byt W a' (4 * k) (blkTo key ctr nonce k)) := hBt.out.later hgr
          have HW : Hid (wr.drew = W) := hW
          have hld1 : ∀ w', Grows W w' → w'.cell? ⟨g, k, none⟩ = some (.int .u64 (x.toNat : Int)) := fun w' hw' => by
            have := ((HCW.out.grow hw').now.word k hlt).1
            rwa [Nat.zero_add, hx] at this
          have hld2 : ∀ w', Grows W w' → w'.cell? ⟨h, k, none⟩ = some (.int .u64 (y.toNat : Int)) := fun w' hw' => by
            have := ((HCW.out.grow hw').was.word k hlt).1
            rwa [Nat.zero_add, hy] at this
          clear hC hBt hgr hW hx hy
          go_wp2
          refine wp_region_sched' (G := Grows) (by kernel_rfl) Grows.refl Grows.trans (by kernel_rfl) [(0, true), (1, true), (2, true), (3, true), (4, true), (5, true), (6, true), (7, true), (8, true), (9, true), (10, false), (11, true)] rfl (by kernel_rfl) ?_
          intro KK hKK
          rw [HW.out]
          iterate 10 (refine sched_take rfl (by rfl) (v := ?_) ?_ ?_; rotate_left; (intro w' hw'; have q1 := hld1 w' hw'; have q2 := hld2 w' hw'; go_simp; with_reducible rfl); go_simp)
          refine sched_call (f := 56) (args := #[.slice a' (4 * k) cap', .int .i64 4, .int .u64 (n : Int), .bool false]) rfl (by rfl) (by go_simp; rw [HU.out]) ?_
          refine (refPut_seg a' (4 * k) cap' 4 n (by omega) false _ _ (by omega) HBW.out hnil 4 (by decide)).mono ?_
          rintro e w8 ⟨a8, c8, rfl, hb8, hs8, _⟩
          have hB8 := Byt.ofSeg hs8
          have hkc8 : 4 * (k + 1) ≤ c8 := by rcases hs8.2 with ⟨_, h0, _⟩ | ⟨_, _, _, _, _, _, h0, _⟩ <;> omega
          clear hs8
          refine ⟨_, rfl, hb8, ?_⟩
          have HB8 : Hid (Byt w8 a8 (4 * (k + 1)) (blkTo key ctr nonce (k + 1))) := by rw [HE.out]; exact hB8
          have HC8 : Hid (Cha w g h cg ch (turned 10 l0) l0 w8) := HCW.out.grow hb8
          have hnil8 : a8 = none → c8 = 0 := by
            intro e
            rcases HB8.out.2 with h0 | ⟨b', off', e', _⟩
            · omega
            · rw [e] at e'; cases e'
          clear hB8 hb8 hld1 hld2
          go_simp
          iterate 1 (refine sched_take rfl (by rfl) (v := ?_) ?_ ?_; rotate_left; (intro w' hw'; go_simp; with_reducible rfl); go_simp)
          refine sched_done hKK ?_
          go_wp2
          exact ⟨⟨k + 1, a8, c8, by omega, by go_num, rfl, hkc8, hnil8, HB8, HC8⟩, by simp [intOf]; omega⟩
        · have ek : k = 16 := by omega
          subst ek
          go_wp2
          go_ret
          exact ⟨a', cap', rfl, hC.out.bel, hBt.out, hkc⟩
theorem refBlock_any (kb koff nb noff kc nc : Nat) (key nonce : List UInt8) (ctr : BitVec 32) (w : World) (hkc : 32 ≤ kc) (hnc : 12 ≤ nc) (hkm : kc ≤ 1000000) (hnm : nc ≤ 1000000)
    (hK : Byt w (some ⟨kb, koff, none⟩) 32 key) (hN : Byt w (some ⟨nb, noff, none⟩) 12 nonce) :
    Calls Try.prog 53 #[.slice (some ⟨kb, koff, none⟩) 32 kc, .int .u32 (ctr.toNat : Int), .slice (some ⟨nb, noff, none⟩) 12 nc] w fun e w' => ∃ a' cap', e = .returned (.slice a' 64 cap') ∧ Below w.heap.size w w' ∧ Byt w' a' 64 (blk key ctr nonce) :=
  (refBlock_cap kb koff nb noff kc nc key nonce ctr w hkc hnc hkm hnm hK hN).mono fun e w' h => by
    obtain ⟨a', cap', rfl, hb, hB, _⟩ := h
    exact ⟨a', cap', rfl, hb, hB⟩
end Go.Proofs.Ytcnihgjibiidpaa
