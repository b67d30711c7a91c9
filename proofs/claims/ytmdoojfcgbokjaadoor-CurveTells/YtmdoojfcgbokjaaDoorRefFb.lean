/- The walks over the document's P, Neg and Inv (field). -/
import Derived.Test.YtmdoojfcgbokjaaDoorRefFa
namespace Go.Proofs.YtmdoojfcgbokjaaDoor
set_option linter.unusedVariables false
open Go.RowKit

theorem pD_succ (k : Nat) (h : 1 ≤ k) : pD k ++ [255] = pD (k + 1) := by
  rw [pD, pD, show k + 1 - 1 = (k - 1) + 1 by omega, List.replicate_succ']; rfl
set_option maxHeartbeats 400000 in
set_option maxRecDepth 100000 in
theorem refFP_any (w : World) :
    Calls Tryd.prog 46 #[] w fun e w' => ∃ v, e = .returned v ∧ Below w.heap.size w w' ∧ w'.ownsRow w.heap.size 3 1 v 32 (pDs.map iv) := by
  have own0 : (w.alloc (.cells #[.int .i64 237] 3)).ownsRow w.heap.size 3 1 (.slice (some ⟨w.heap.size, 0, none⟩) 1 1) 1 ((pD 1).map iv) := World.ownsRow_lit w _ 1 (Nat.le_refl _) (by unfold maxLen; omega) rfl
  have HO0 : Hid ((w.alloc (.cells #[.int .i64 237] 3)).ownsRow w.heap.size 3 1 (.slice (some ⟨w.heap.size, 0, none⟩) 1 1) 1 ((pD 1).map iv)) := own0
  clear own0
  go_enter Tryd.func46, Tryd.ntmps46
  go_wp2
  go_loopw [1, 2] (fun v i wr => ∃ k : Nat, 1 ≤ k ∧ k ≤ 31 ∧ i = .int .i64 k ∧ Hid (wr.ownsRow w.heap.size 3 1 v k ((pD k).map iv)) ∧ Hid (Below w.heap.size w wr)) (fun _ i _ => 31 - (intOf i).toNat)
  case atStart => exact ⟨1, by omega, by omega, rfl, HO0, (Below.refl _ _).alloc (Nat.le_refl _) _⟩
  case round =>
    clear HO0
    obtain ⟨k, hk1, hk, rfl, hO, hW⟩ := hrel
    by_cases hlt : k < 31
    · have hki : (k : Int) < 31 := by omega
      obtain ⟨v2, w2, hap, own2, hg2⟩ := append_int wr w.heap.size _ k _ hO.out 255 hW.out.size (by omega)
      have HA2 : Hid (_) := hap
      have HO2 : Hid (w2.ownsRow w.heap.size 3 1 v2 (k + 1) ((pD (k + 1)).map iv)) := by rw [← pD_succ k hk1]; exact own2
      have HW2 : Hid (Below w.heap.size w w2) := hW.out.grown hg2 hW.out.size (fun j hj => (hO.out.lt j hj).1)
      clear hap own2 hg2 hO hW
      go_wp2_with (at_builtin; refine wpList_append_run rfl (.tmp 8) (.tmp 9) 53 rfl _ _ _ _ rfl rfl HA2.out ?_)
      exact ⟨⟨k + 1, by omega, by omega, by go_num, HO2, HW2⟩, by simp [intOf]; omega⟩
    · have ek : k = 31 := by omega
      have hki : ¬ (k : Int) < 31 := by omega
      obtain ⟨v2, w2, hap, own2, hg2⟩ := append_int wr w.heap.size _ k _ hO.out 127 hW.out.size (by omega)
      have HA2 : Hid (_) := hap
      have HO2 : Hid (w2.ownsRow w.heap.size 3 1 v2 32 (pDs.map iv)) := by
        rw [pDs]
        rw [ek] at own2
        exact own2
      have HW2 : Hid (Below w.heap.size w w2) := hW.out.grown hg2 hW.out.size (fun j hj => (hO.out.lt j hj).1)
      clear hap own2 hg2 hO hW
      go_wp2_with (at_builtin; refine wpList_append_run rfl (.tmp 11) (.tmp 12) 53 rfl _ _ _ _ rfl rfl HA2.out ?_)
      go_ret
      exact ⟨v2, rfl, HW2.out, HO2.out⟩

/-- While digits are taken from P's: P, the number, what there is. -/
structure NG (w : World) (x : Nat) (a : Option Addr) (n cap : Nat) (pg pc B i b : Nat) (v : Value) (o : List Nat) (W : World) : Prop where
  p : Ints W (some ⟨pg, 0, none⟩) 32 pDs
  num : Dig W a n cap x
  own : W.ownsRow B 3 1 v i (o.map iv)
  pb : pg < B
  ab : w.heap.size ≤ B
  bs : B ≤ W.heap.size
  neg : Neg x i b o
  bel : Below w.heap.size w W
theorem Ints.grown {w w' : World} {B : Nat} {a : Option Addr} {n : Nat} {l : List Nat} (h : Ints w a n l) (hb : 0 < n → ∀ j, blockOf a = some j → j < B) (hg : ∀ j, j < B → w'.heap[j]? = w.heap[j]?) : Ints w' a n l := by
  refine ⟨h.1, ?_⟩
  rcases h.2 with h0 | ⟨b, off, rfl, hc⟩
  · exact .inl h0
  · refine .inr ⟨b, off, rfl, fun i hi => ?_⟩
    rw [World.cell?_of_block (w := w) (hg b (hb (by omega) b rfl))]
    exact hc i hi
/- from here: mkneg -/
theorem NG.app {w W w2 : World} {x : Nat} {a : Option Addr} {n cap pg pc B i b i' b' : Nat} {v v2 : Value} {o o' : List Nat} (t : NG w x a n cap pg pc B i b v o W) (hab : 0 < n → ∀ j, blockOf a = some j → j < w.heap.size) (ho : w2.ownsRow B 3 1 v2 i' (o'.map iv)) (hg : W.grownBy w2 v.ownBlock) (hn : Neg x i' b' o') : NG w x a n cap pg pc B i' b' v2 o' w2 := by
  have hbs := t.bs
  have hab' := t.ab
  have hown := t.own.lt
  have hk : ∀ j, j < B → w2.heap[j]? = W.heap[j]? := fun j hj => hg.block j (by omega) (fun e => by have := (hown j e.symm).1; omega)
  exact ⟨t.p.grown (B := B) (fun _ j hj => by have := t.pb; simp [blockOf] at hj; omega) hk, ⟨t.num.ints.grown (B := B) (fun h0 j hj => by have := hab h0 j hj; omega) hk, t.num.cap⟩, ho, t.pb, t.ab, by have := hg.size; omega, hn, t.bel.grown hg (by omega) (fun k hk => by have := (hown k hk).1; omega)⟩
theorem Ints.blk {w : World} {a : Option Addr} {n : Nat} {l : List Nat} (h : Ints w a n l) (hn : 0 < n) : ∀ j, blockOf a = some j → j < w.heap.size := by
  intro j hj
  rcases h.2 with h0 | ⟨b, off, rfl, hc⟩
  · omega
  · have hb : b < w.heap.size := World.block_lt_of_cell? w _ (hc 0 hn)
    simp [blockOf] at hj
    omega

set_option maxHeartbeats 1000000 in
set_option maxRecDepth 100000 in
theorem refFneg_any (a : Option Addr) (n cap x : Nat) (w : World) (hD : Dig w a n cap x) (hx : x ≤ P255) :
    Calls Tryd.prog 54 #[.slice a n cap] w fun e w' => ∃ a' n' cap', e = .returned (.slice a' n' cap') ∧ Below w.heap.size w w' ∧ Dig w' a' n' cap' ((P255 - x) % P255) := by
  have HD : Hid (Dig w a n cap x) := hD
  have hn32 : n ≤ 32 := hD.len (Nat.lt_of_le_of_lt hx P255_lt)
  have hab : 0 < n → ∀ j, blockOf a = some j → j < w.heap.size := fun h0 => hD.ints.blk h0
  clear hD
  go_enter Tryd.func54, Tryd.ntmps54
  go_wp2_with fail
  refine (refFP_any w).mono ?_
  rintro e w1 ⟨v1, rfl, hb1, ho1⟩
  obtain ⟨pg, pc, rfl, hpg, hs1⟩ := Seg.ofOwn ho1 (by omega)
  have hpl := hs1.lt pg rfl
  have HN0 : Hid (NG w x a n cap pg pc w1.heap.size 0 0 (.slice (some ⟨w1.heap.size, 0, none⟩) 0 0) [] (w1.alloc (.cells #[] 3))) :=
    ⟨(Ints.ofSeg hs1).later ((Below.refl _ _).alloc (Nat.le_refl _) _), (HD.out.later hb1).later ((Below.refl _ _).alloc (Nat.le_refl _) _), World.ownsRow_made w1 #[] 0 (Nat.le_refl _) (Nat.zero_le _) rfl, hpl, hb1.size, by simp, Neg.zero x, hb1.alloc hb1.size _⟩
  clear ho1 hs1 hb1
  go_wp2
  generalize w1.heap.size = B at HN0 hpl ⊢
  go_loopw [4, 5, 6] (fun v c i wr => ∃ (k b : Nat) (o : List Nat) (v' : Value), k ≤ 32 ∧ i = .int .i64 k ∧ c = .int .i64 (b : Int) ∧ v' = v ∧ Hid (NG w x a n cap pg pc B k b v' o wr)) (fun _ _ i _ => 32 - (intOf i).toNat)
  case atStart => exact ⟨0, 0, [], _, by omega, rfl, rfl, rfl, HN0⟩
  case round =>
    clear HN0
    obtain ⟨i, b, o, v, hi, rfl, rfl, hv, hN⟩ := hrel
    subst hv
    by_cases hi32 : i < 32
    · have hii : (i : Int) < 32 := by omega
      have hb1 := hN.out.neg.bl
      obtain ⟨_, _, e1, hc1⟩ := hN.out.p.at_ i hi32
      cases e1
      rw [Nat.zero_add] at hc1
      obtain ⟨q, hq⟩ : ∃ q, atD pDs i = q := ⟨_, rfl⟩
      have hpq : q = P255 / 256 ^ i % 256 := by rw [← hq]; exact pDs_at i
      have hqb : q < 256 := by rw [hpq]; exact Nat.mod_lt _ (by decide)
      rw [hq] at hc1
      by_cases hin : i < n
      · have hini : (i : Int) < (n : Int) := by omega
        obtain ⟨ab, aoff, rfl, hc2⟩ := hN.out.num.ints.at_ i hin
        obtain ⟨u, hu⟩ : ∃ u, atD (dig x) i = u := ⟨_, rfl⟩
        have hxu : u = x / 256 ^ i % 256 := by rw [← hu]; exact dig_at x i
        have hub : u < 256 := by rw [hxu]; exact Nat.mod_lt _ (by decide)
        rw [hu] at hc2
        have HXU : Hid (u = x / 256 ^ i % 256) := hxu
        have HPQ : Hid (q = P255 / 256 ^ i % 256) := hpq
        clear hxu hpq hu hq
        by_cases hneg : (q : Int) - (b : Int) - (u : Int) < 0
        · obtain ⟨d, hd⟩ : ∃ d : Nat, (q : Int) - (b : Int) - (u : Int) + 256 = (d : Int) := ⟨((q : Int) - (b : Int) - (u : Int) + 256).toNat, by omega⟩
          obtain ⟨v2, w2, hap, own2, hg2⟩ := append_int wr B _ i _ hN.out.own d hN.out.bs (by omega)
          have HA2 : Hid ((Builtin.append_ #[53, 53] 53 #[v, .slice (some ⟨wr.heap.size, 0, none⟩) 1 1]).run Tryd.prog (wr.alloc (.cells #[.int .i64 (d : Int)] 3)) = .ok v2 w2) := hap
          have HN2 : Hid (NG w x (some ⟨ab, aoff, none⟩) n cap pg pc B (i + 1) 1 v2 (o ++ [d]) w2) := hN.out.app hab own2 hg2 (hN.out.neg.next d 1 (by omega) (by omega) (by rw [← HXU.out, ← HPQ.out]; omega))
          clear hap own2 hg2 hN
          go_wp2_with (at_builtin; refine wpList_append_run rfl (.tmp 34) (.tmp 36) 53 rfl _ _ _ _ rfl rfl HA2.out ?_)
          exact ⟨⟨i + 1, 1, o ++ [d], v2, by omega, by go_num, rfl, rfl, HN2⟩, by simp [intOf]; omega⟩
        · obtain ⟨d, hd⟩ : ∃ d : Nat, (q : Int) - (b : Int) - (u : Int) = (d : Int) := ⟨((q : Int) - (b : Int) - (u : Int)).toNat, by omega⟩
          obtain ⟨v2, w2, hap, own2, hg2⟩ := append_int wr B _ i _ hN.out.own d hN.out.bs (by omega)
          have HA2 : Hid ((Builtin.append_ #[53, 53] 53 #[v, .slice (some ⟨wr.heap.size, 0, none⟩) 1 1]).run Tryd.prog (wr.alloc (.cells #[.int .i64 (d : Int)] 3)) = .ok v2 w2) := hap
          have HN2 : Hid (NG w x (some ⟨ab, aoff, none⟩) n cap pg pc B (i + 1) 0 v2 (o ++ [d]) w2) := hN.out.app hab own2 hg2 (hN.out.neg.next d 0 (by omega) (by omega) (by rw [← HXU.out, ← HPQ.out]; omega))
          clear hap own2 hg2 hN
          go_wp2_with (at_builtin; refine wpList_append_run rfl (.tmp 34) (.tmp 36) 53 rfl _ _ _ _ rfl rfl HA2.out ?_)
          exact ⟨⟨i + 1, 0, o ++ [d], v2, by omega, by go_num, rfl, rfl, HN2⟩, by simp [intOf]; omega⟩
      · have hini : ¬ (i : Int) < (n : Int) := by omega
        obtain ⟨u, hu0⟩ : ∃ u, u = 0 := ⟨_, rfl⟩
        have hxu : u = x / 256 ^ i % 256 := by rw [hu0, ← dig_at x i, atD_out _ _ (by rw [hN.out.num.ints.1]; omega)]
        have HXU : Hid (u = x / 256 ^ i % 256) := hxu
        have HPQ : Hid (q = P255 / 256 ^ i % 256) := hpq
        clear hxu hpq hq
        by_cases hneg : (q : Int) - (b : Int) < 0
        · obtain ⟨d, hd⟩ : ∃ d : Nat, (q : Int) - (b : Int) + 256 = (d : Int) := ⟨((q : Int) - (b : Int) + 256).toNat, by omega⟩
          obtain ⟨v2, w2, hap, own2, hg2⟩ := append_int wr B _ i _ hN.out.own d hN.out.bs (by omega)
          have HA2 : Hid ((Builtin.append_ #[53, 53] 53 #[v, .slice (some ⟨wr.heap.size, 0, none⟩) 1 1]).run Tryd.prog (wr.alloc (.cells #[.int .i64 (d : Int)] 3)) = .ok v2 w2) := hap
          have HN2 : Hid (NG w x a n cap pg pc B (i + 1) 1 v2 (o ++ [d]) w2) := hN.out.app hab own2 hg2 (hN.out.neg.next d 1 (by omega) (by omega) (by rw [← HXU.out, ← HPQ.out]; omega))
          clear hap own2 hg2 hN
          go_wp2_with (at_builtin; refine wpList_append_run rfl (.tmp 34) (.tmp 36) 53 rfl _ _ _ _ rfl rfl HA2.out ?_)
          exact ⟨⟨i + 1, 1, o ++ [d], v2, by omega, by go_num, rfl, rfl, HN2⟩, by simp [intOf]; omega⟩
        · obtain ⟨d, hd⟩ : ∃ d : Nat, (q : Int) - (b : Int) = (d : Int) := ⟨((q : Int) - (b : Int)).toNat, by omega⟩
          obtain ⟨v2, w2, hap, own2, hg2⟩ := append_int wr B _ i _ hN.out.own d hN.out.bs (by omega)
          have HA2 : Hid ((Builtin.append_ #[53, 53] 53 #[v, .slice (some ⟨wr.heap.size, 0, none⟩) 1 1]).run Tryd.prog (wr.alloc (.cells #[.int .i64 (d : Int)] 3)) = .ok v2 w2) := hap
          have HN2 : Hid (NG w x a n cap pg pc B (i + 1) 0 v2 (o ++ [d]) w2) := hN.out.app hab own2 hg2 (hN.out.neg.next d 0 (by omega) (by omega) (by rw [← HXU.out, ← HPQ.out]; omega))
          clear hap own2 hg2 hN
          go_wp2_with (at_builtin; refine wpList_append_run rfl (.tmp 34) (.tmp 36) 53 rfl _ _ _ _ rfl rfl HA2.out ?_)
          exact ⟨⟨i + 1, 0, o ++ [d], v2, by omega, by go_num, rfl, rfl, HN2⟩, by simp [intOf]; omega⟩
    · have ei : i = 32 := by omega
      have hii : ¬ (i : Int) < 32 := by omega
      obtain ⟨a2, c2, rfl, hI2, hc2, hm2⟩ := ints_out hN.out.own
      have hng := hN.out.neg
      rw [ei] at hng
      have hval := hng.done hx
      have HI2 : Hid (Ints wr a2 i o) := hI2
      have HLt : Hid (∀ y ∈ o, y ≤ 2 ^ 50) := fun y hy => by have h1 := hng.lt y hy; exact Nat.le_trans (Nat.le_of_lt h1) (show (256 : Nat) ≤ 2 ^ 50 from by decide)
      have HW2 : Hid (Below w.heap.size w wr) := hN.out.bel
      clear hN hI2 hng ei hi32
      go_wp2_with fail
      refine (refCarry_any a2 i c2 o wr HI2.out HLt.out hc2 (by omega)).mono ?_
      rintro e w3 ⟨a3, n3, c3, rfl, hb3, hI3, hc3⟩
      rw [hval] at hI3
      have HD3 : Hid (Dig w3 a3 n3 c3 (P255 - x)) := ⟨hI3, hc3⟩
      have hn3 : n3 ≤ 32 := HD3.out.len (Nat.lt_of_le_of_lt (Nat.sub_le _ _) P255_lt)
      have HW3 : Hid (Below w.heap.size w w3) := HW2.out.trans (hb3.mono HW2.out.size)
      clear hI3 hb3 HW2 HI2 HLt hval
      go_wp2_with fail
      refine (refFmod_any a3 n3 c3 _ w3 HD3.out (by omega)).mono ?_
      rintro e w4 ⟨a4, n4, c4, rfl, hb4, hD4⟩
      have HB4 : Hid (Below w.heap.size w w4) := HW3.out.trans (hb4.mono HW3.out.size)
      have HD4 : Hid _ := hD4
      clear hD4 hb4
      go_wp2
      go_ret
      exact ⟨a4, n4, c4, rfl, HB4.out, HD4.out⟩

/-- While the power is reckoned: the exponent's digits, the number, the power. -/
structure IV (w : World) (x : Nat) (a : Option Addr) (n cap : Nat) (g c : Nat) (b : Option Addr) (m d j : Nat) (W : World) : Prop where
  e : Ints W (some ⟨g, 0, none⟩) 32 eDs
  num : Dig W a n cap x
  pow : Dig W b m d (x ^ (E255 / 2 ^ j) % P255)
  bel : Below w.heap.size w W
theorem IV.later {w W W' : World} {x : Nat} {a : Option Addr} {n cap g c : Nat} {b b' : Option Addr} {m d j m' d' j' : Nat} (t : IV w x a n cap g c b m d j W) (hb : Below W.heap.size W W') (hp : Dig W' b' m' d' (x ^ (E255 / 2 ^ j') % P255)) : IV w x a n cap g c b' m' d' j' W' :=
  ⟨t.e.later hb, t.num.later hb, hp, t.bel.trans (hb.mono t.bel.size)⟩
theorem and1i (r : Nat) (h : r < 256) : bits .and .i64 (r : Int) 1 = ((r % 2 : Nat) : Int) := by
  have e : (BitVec.ofInt 64 (r : Int) &&& BitVec.ofInt 64 1).toNat = r % 2 := by
    rw [BitVec.toNat_and, BitVec.toNat_ofInt]
    have h7 : (BitVec.ofInt 64 1).toNat = 2 ^ 1 - 1 := by decide
    rw [h7, Nat.and_two_pow_sub_one_eq_mod]
    omega
  show IntKind.i64.wrap ((BitVec.ofInt 64 (r : Int) &&& BitVec.ofInt 64 1).toNat : Int) = _
  rw [e, IntKind.wrap_i64]
  omega
theorem dig_one : dig 1 = [1] := by rw [dig_pos 1 (by decide)]; simp [dig_zero]
theorem mod_small33 (y : Nat) : y % P255 < 256 ^ 33 := Nat.lt_trans (Nat.mod_lt _ P255_pos) (by decide)

set_option maxHeartbeats 1000000 in
set_option maxRecDepth 100000 in
theorem refFinv_any (a : Option Addr) (n cap x : Nat) (w : World) (hD : Dig w a n cap x) (hx : x < P255) :
    Calls Tryd.prog 29 #[.slice a n cap] w fun e w' => ∃ a' n' cap', e = .returned (.slice a' n' cap') ∧ Below w.heap.size w w' ∧ Dig w' a' n' cap' (x ^ E255 % P255) := by
  have HD : Hid (Dig w a n cap x) := hD
  have hx33 : x < 256 ^ 33 := Nat.lt_trans hx (by decide)
  clear hD
  go_enter Tryd.func29, Tryd.ntmps29
  go_wp2_with fail
  refine (refFP_any w).mono ?_
  rintro e w1 ⟨v1, rfl, hb1, ho1⟩
  obtain ⟨g, c, rfl, hg1, hs1⟩ := Seg.ofOwn ho1 (by omega)
  obtain ⟨_, _, e1, cc, fr⟩ := hs1.cell 0 (by omega)
  cases e1
  have cc' : w1.cell? ⟨g, 0, none⟩ = some (.int .i64 237) := cc
  have hs2 := hs1.set 0 (by omega) (.int .i64 235)
  have hs2' : Seg (w1.setCell ⟨g, 0, none⟩ (.int .i64 235)) 3 (some ⟨g, 0, none⟩) 32 c (eDs.map iv) := hs2
  have hbel2 : Below w.heap.size w (w1.setCell ⟨g, 0, none⟩ (.int .i64 235)) := hb1.setCell hg1 _
  obtain ⟨W2, hW2⟩ : ∃ W2, w1.setCell ⟨g, 0, none⟩ (.int .i64 235) = W2 := ⟨_, rfl⟩
  rw [hW2] at hs2' hbel2
  have hal : Below W2.heap.size W2 (W2.alloc (.cells #[.int .i64 1] 3)) := (Below.refl _ _).alloc (Nat.le_refl _) _
  have h1P : 1 % P255 = 1 := by decide
  have hsz : W2.heap.size = w1.heap.size := by rw [← hW2]; simp
  have HI0 : Hid (IV w x a n cap g c (some ⟨w1.heap.size, 0, none⟩) 1 1 255 (W2.alloc (.cells #[.int .i64 1] 3))) := by
    rw [← hsz]
    refine ⟨(Ints.ofSeg hs2').later hal, (HD.out.later hbel2).later hal, ⟨?_, Nat.le_refl _⟩, hbel2.trans (hal.mono hbel2.size)⟩
    rw [E255_top, Nat.pow_zero, h1P, dig_one]
    exact ints_one W2 1
  have fr' : w1.frozen? ⟨g, 0, none⟩ = false := fr
  rw [← hW2] at HI0
  clear hs1 hs2 hs2' ho1 hb1 hbel2 hal hsz hW2 cc fr h1P
  go_wp2
  clear cc' fr'
  go_loopw [4, 5] (fun v i wr => ∃ (j : Nat) (b : Option Addr) (m d : Nat), j ≤ 255 ∧ i = .int .i64 ((j : Int) - 1) ∧ v = .slice b m d ∧ Hid (IV w x a n cap g c b m d j wr)) (fun _ i _ => (intOf i + 1).toNat)
  case atStart => exact ⟨255, _, _, _, by omega, rfl, rfl, HI0⟩
  case round =>
    clear HI0
    obtain ⟨j, b, m, d, hj, rfl, rfl, hI⟩ := hrel
    obtain ⟨y, hy⟩ : ∃ y, x ^ (E255 / 2 ^ j) % P255 = y := ⟨_, rfl⟩
    have hyb : y < 256 ^ 33 := by rw [← hy]; exact mod_small33 _
    by_cases hj0 : 0 < j
    · obtain ⟨i, rfl⟩ : ∃ i, j = i + 1 := ⟨j - 1, by omega⟩
      have ei : (((i + 1 : Nat) : Int)) - 1 = (i : Int) := by omega
      rw [ei]
      have hi0 : 0 ≤ (i : Int) := by omega
      have hpow := hI.out.pow
      rw [hy] at hpow
      have HP : Hid (Dig wr b m d y) := hpow
      clear hpow
      go_wp2_with fail
      refine (refFmul_any b m d y b m d y wr HP.out HP.out hyb hyb).mono ?_
      rintro e w3 ⟨b3, m3, d3, rfl, hb3, hD3⟩
      obtain ⟨z, hz⟩ : ∃ z, y * y % P255 = z := ⟨_, rfl⟩
      have hzb : z < 256 ^ 33 := by rw [← hz]; exact mod_small33 _
      rw [hz] at hD3
      obtain ⟨q, hq⟩ : ∃ q, i / 8 = q := ⟨_, rfl⟩
      obtain ⟨s, hs⟩ : ∃ s, i % 8 = s := ⟨_, rfl⟩
      obtain ⟨_, _, e1, hc0⟩ := (hI.out.e.later hb3).at_ q (by omega)
      cases e1
      rw [Nat.zero_add] at hc0
      obtain ⟨t, ht⟩ : ∃ t, atD eDs q = t := ⟨_, rfl⟩
      rw [ht] at hc0
      have htv : t / 2 ^ s % 2 = E255 / 2 ^ i % 2 := by
        rw [← ht, eDs_at, bit_digit _ _ _ (by omega), ← hq, ← hs, Nat.div_add_mod]
      have htb : t < 256 := by rw [← ht, eDs_at]; exact Nat.mod_lt _ (by decide)
      have hstep := pow_step x E255 i P255
      rw [hy, hz, ← htv] at hstep
      have e2 : (i : Int).tdiv 8 = (q : Int) := by rw [Int.tdiv_eq_ediv_of_nonneg (by omega)]; omega
      have e2' : (i : Int) / 8 = (q : Int) := by omega
      have e3 : (i : Int).tmod 8 = (s : Int) := by rw [Int.tmod_eq_emod_of_nonneg (by omega)]; omega
      have e3' : (i : Int) % 8 = (s : Int) := by omega
      have hq32 : (q : Int) < 32 := by omega
      have hs8 : s < 8 := by omega
      obtain ⟨r, hr⟩ : ∃ r, t / 2 ^ s = r := ⟨_, rfl⟩
      have er : (t : Int) / 2 ^ s = (r : Int) := by rw [← hr]; simp
      have hrb : r < 256 := by rw [← hr]; exact Nat.lt_of_le_of_lt (Nat.div_le_self _ _) htb
      rw [hr] at hstep
      have HI3 : Hid (IV w x a n cap g c b m d (i + 1) w3) := hI.out.later hb3 (by rw [hy]; exact HP.out.later hb3)
      have HD3 : Hid (Dig w3 b3 m3 d3 z) := hD3
      clear hI HP hb3 hD3 hy hz hq hs ht htv hr
      by_cases hbit : r % 2 = 1
      · have hbi : bits .and .i64 (r : Int) 1 = 1 := by rw [and1i r hrb, hbit]; rfl
        rw [if_pos hbit] at hstep
        go_wp2_with fail
        refine (refFmul_any b3 m3 d3 z a n cap x w3 HD3.out HI3.out.num hzb hx33).mono ?_
        rintro e w4 ⟨b4, m4, d4, rfl, hb4, hD4⟩
        have HI4 : Hid (IV w x a n cap g c b4 m4 d4 i w4) := HI3.out.later hb4 (by rw [hstep]; exact hD4)
        clear hstep hb4 hD4 HI3 HD3
        go_wp2
        exact ⟨⟨i, b4, m4, d4, by omega, rfl, rfl, HI4⟩, by simp [intOf]⟩
      · have hbi : bits .and .i64 (r : Int) 1 = 0 := by rw [and1i r hrb, show r % 2 = 0 by omega]; rfl
        rw [if_neg hbit] at hstep
        have HI4 : Hid (IV w x a n cap g c b3 m3 d3 i w3) := HI3.out.later (Below.refl _ _) (by rw [hstep]; exact HD3.out)
        clear hstep HI3 HD3
        go_wp2
        exact ⟨⟨i, b3, m3, d3, by omega, rfl, rfl, HI4⟩, by simp [intOf]⟩
    · have ej : j = 0 := by omega
      subst ej
      have hpow := hI.out.pow
      rw [Nat.pow_zero, Nat.div_one] at hpow
      have HP : Hid (Dig wr b m d (x ^ E255 % P255)) := hpow
      have HW : Hid (Below w.heap.size w wr) := hI.out.bel
      clear hI hpow hy hyb
      go_wp2
      go_ret
      exact ⟨b, m, d, rfl, HW.out, HP.out⟩
end Go.Proofs.YtmdoojfcgbokjaaDoor
