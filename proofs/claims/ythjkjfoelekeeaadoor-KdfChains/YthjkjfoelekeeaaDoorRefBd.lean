/- The walk over the document's Sum (blake). -/
import Derived.Test.YthjkjfoelekeeaaDoorRefBc
namespace Go.Proofs.YthjkjfoelekeeaaDoor
set_option linter.unusedVariables false
open Go.RowKit

theorem Seg.later {w w' : World} {e : TypeId} {a : Option Addr} {n cap : Nat} {vs : List Value} (h : Seg w e a n cap vs) (hb : Below w.heap.size w w') : Seg w' e a n cap vs :=
  h.kept fun g hg => hb.block g (h.lt g hg)
theorem Byt.all {w w' : World} {a : Option Addr} {n : Nat} {l : List UInt8} (h : Byt w a n l) (hb : Below w.heap.size w w') : Byt w' a n l := h.later hb
/-- What is left from a place on. -/
theorem Byt.from {w : World} {a : Option Addr} {len : Nat} {l : List UInt8} (h : Byt w a len l) (p cap : Nat) (hp : p ≤ len) (hlc : len ≤ cap) (hlt : p < len ∨ p = 0) :
    ∃ a', (∀ b off, a = some ⟨b, off, none⟩ → (if cap = p then some ⟨b, off, none⟩ else some ⟨b, off + p, none⟩) = a') ∧ (a = none → a' = none) ∧ Byt w a' (len - p) (l.drop p) := by
  have hl := h.1
  rcases h.2 with h0 | ⟨b, off, rfl, hc⟩
  · subst h0
    have hp0 : p = 0 := by omega
    subst hp0
    have hl0 : l = [] := List.eq_nil_of_length_eq_zero hl
    subst hl0
    cases a with
    | none => exact ⟨none, fun b off e => (by cases e), fun _ => rfl, rfl, .inl rfl⟩
    | some x => 
      obtain ⟨b, off, s⟩ := x
      by_cases hs : s = none
      · subst hs
        exact ⟨_, fun b' off' e => (by cases e; rfl), fun e => (by cases e), rfl, .inl rfl⟩
      · exact ⟨none, fun b' off' e => (by cases e; exact absurd rfl hs), fun e => (by cases e), rfl, .inl rfl⟩
  · by_cases hcp : cap = p
    · have hlp : len = p := by omega
      have hp0 : p = 0 := by omega
      exact ⟨some ⟨b, off, none⟩, fun b' off' e => (by cases e; rw [if_pos hcp]), fun e => (by cases e), by simp; omega, .inl (by omega)⟩
    · refine ⟨some ⟨b, off + p, none⟩, fun b' off' e => (by cases e; rw [if_neg hcp]), fun e => (by cases e), by simp; omega, .inr ⟨b, off + p, rfl, fun i hi => ?_⟩⟩
      rw [Nat.add_assoc, hc (p + i) (by omega)]
      simp [at8]
theorem bahead_eq (k len : Nat) (h1 : k = 0 ∨ 64 * k < len) (h2 : ¬ 64 * k + 64 < len) : k = bahead len := by unfold bahead; omega
theorem wordsB_take (H : List (BitVec 32)) (k : Nat) (hk : k < H.length) : wordsB (H.take (k + 1)) = wordsB (H.take k) ++ putB 4 (at32 H k).toNat false := by
  rw [List.take_succ_eq_append_getElem hk, wordsB_append, at32_get H k hk]
  simp [wordsB, putB]
/-- While the parts are taken: H. -/
structure BH (w : World) (l : List UInt8) (hx : Addr) (hc k : Nat) (W : World) : Prop where
  h : Seg W 47 (some hx) 8 hc ((bparts l k).map wv)
  bel : Below w.heap.size w W
def lenOf (v : Value) : Nat := match v with | .slice _ n _ => n | _ => 0
theorem grownBy_alloc (w : World) (o : Obj) : Below w.heap.size w (w.alloc o) := (Below.refl _ _).alloc (Nat.le_refl _) _
theorem grown_alloc {w w' : World} {o : Obj} {b : Option Nat} (hg : (w.alloc o).grownBy w' b) (hb : ∀ k, b = some k → w.heap.size ≤ k) : Below w.heap.size w w' := (grownBy_alloc w o).grown hg (by simp) hb
/-- The last part, while it is filled; H. -/
structure BL (w : World) (B : Nat) (hx : Addr) (hc : Nat) (H : List (BitVec 32)) (v : Value) (n : Nat) (R : List UInt8) (W : World) : Prop where
  own : W.ownsRow B 5 1 v n (R.map bv)
  h : Seg W 47 (some hx) 8 hc (H.map wv)
  hlt : hx.block < B
  bs : B ≤ W.heap.size
  wB : w.heap.size ≤ B
  bel : Below w.heap.size w W
theorem BL.new {w wr W : World} {hx : Addr} {hc : Nat} {H : List (BitVec 32)} {v : Value} {n : Nat} {R : List UInt8} (hh : Seg wr 47 (some hx) 8 hc (H.map wv)) (hb : Below w.heap.size w wr) (ho : W.ownsRow wr.heap.size 5 1 v n (R.map bv)) (hw : Below wr.heap.size wr W) : BL w wr.heap.size hx hc H v n R W :=
  ⟨ho, hh.later hw, hh.lt _ rfl, hw.size, hb.size, hb.trans (hw.mono hb.size)⟩
theorem BL.app {w W w4 : World} {B : Nat} {hx : Addr} {hc : Nat} {H : List (BitVec 32)} {v v4 : Value} {n m : Nat} {R R' : List UInt8} {o : Obj} (t : BL w B hx hc H v n R W) (ho : w4.ownsRow B 5 1 v4 m (R'.map bv)) (hg : (W.alloc o).grownBy w4 v.ownBlock) : BL w B hx hc H v4 m R' w4 := by
  have hbs := t.bs
  have hwB := t.wB
  have hlt := t.hlt
  have hsz := hg.size
  have hown := t.own.lt
  refine ⟨ho, ?_, t.hlt, by simp at hsz; omega, t.wB, ?_⟩
  · refine t.h.kept fun g hgb => ?_
    have hgx : g = hx.block := by simpa [blockOf] using hgb.symm
    rw [hg.block g (by simp; omega) (fun e => by have := (hown g e.symm).1; omega)]
    exact Below.heap_alloc W o g (by omega)
  · exact (t.bel.alloc (by omega) o).grown hg (by simp; omega) (fun k hk => by have := (hown k hk).1; omega)
/-- The bytes of H's words, as they are laid. -/
structure BO5 (w : World) (g c : Nat) (H : List (BitVec 32)) (a' : Option Addr) (c' j : Nat) (W : World) : Prop where
  h : Seg W 47 (some ⟨g, 0, none⟩) 8 c (H.map wv)
  out : Byt W a' (4 * j) (wordsB (H.take j))
  seg : 0 < j → Seg W 5 a' (4 * j) c' ((wordsB (H.take j)).map bv)
  nil : a' = none → c' = 0
  isnew : ∀ k, blockOf a' = some k → w.heap.size ≤ k
  bel : Below w.heap.size w W
theorem BO5.new {w W : World} {g c : Nat} {H : List (BitVec 32)} (hs : Seg W 47 (some ⟨g, 0, none⟩) 8 c (H.map wv)) (hb : Below w.heap.size w W) : BO5 w g c H (some ⟨W.heap.size, 0, none⟩) 0 0 (W.alloc (.cells #[] 5)) :=
  ⟨hs.later (grownBy_alloc W _), ⟨rfl, .inl rfl⟩, fun h => (by omega), fun e => (by cases e), fun k hk => (by have := hb.size; simp [blockOf] at hk; omega), hb.alloc hb.size _⟩
theorem BO5.put {w W W' : World} {g c : Nat} {H : List (BitVec 32)} {a' a8 : Option Addr} {c' c8 j : Nat} (t : BO5 w g c H a' c' j W) (hb : Below W.heap.size W W') (hs : Seg W' 5 a8 (4 * (j + 1)) c8 ((wordsB (H.take (j + 1))).map bv)) (hk : ∀ k, blockOf a8 = some k → W.heap.size ≤ k) : BO5 w g c H a8 c8 (j + 1) W' := by
  refine ⟨t.h.later hb, Byt.ofSeg hs, fun _ => hs, ?_, fun k h => Nat.le_trans t.bel.size (hk k h), t.bel.trans (hb.mono t.bel.size)⟩
  intro e
  rcases hs.2 with ⟨_, h0, _⟩ | ⟨_, _, _, e2, _⟩
  · omega
  · rw [e] at e2; cases e2

set_option maxHeartbeats 1000000 in
set_option maxRecDepth 100000 in
theorem refSumB_any (a : Option Addr) (len cap : Nat) (l : List UInt8) (w : World) (hB : Byt w a len l) (hnil : a = none → cap = 0) (hlm : len ≤ 10000) (hlc : len ≤ cap) :
    Calls Tryd.prog 16 #[.slice a len cap] w fun e w' => ∃ a' cap', e = .returned (.slice a' 32 cap') ∧ Below w.heap.size w w' ∧ Seg w' 5 a' 32 cap' ((blakeB l).map bv) ∧ ∀ j, blockOf a' = some j → w.heap.size ≤ j := by
  have hl := hB.1
  have HB : Hid (Byt w a len l) := hB
  clear hB
  go_enter Tryd.func16, Tryd.ntmps16
  go_wp2_with fail
  refine (refIv_any w).mono ?_
  rintro e w1 ⟨rfl, hb1, ho1⟩
  obtain ⟨_, _, e1, _, hs1⟩ := Seg.ofOwn ho1 (by omega)
  cases e1
  obtain ⟨cc, fr⟩ := hs1.word 0 (by omega)
  have hs2 := hs1.set 0 (by omega) (wv 0x6b08e647#32)
  rw [← List.map_set] at hs2
  have HH0 : Hid (BH w l ⟨w.heap.size, 0, none⟩ 8 0 (w1.setCell ⟨w.heap.size, 0, none⟩ (.int .u64 1795745351))) := ⟨hs2, hb1.setCell (Nat.le_refl _) _⟩
  clear hs1 hs2 ho1 hb1
  go_wp2
  clear cc fr
  go_loopw [3, 4] (fun v i wr => ∃ (k : Nat) (hx : Addr) (hc : Nat), (k = 0 ∨ 64 * k < len) ∧ i = .int .i64 ((64 * k : Nat) : Int) ∧ v = .slice (some hx) 8 hc ∧ Hid (BH w l hx hc k wr)) (fun _ i _ => len + 64 - (intOf i).toNat)
  case atStart => exact ⟨0, _, _, .inl rfl, rfl, rfl, HH0⟩
  case round =>
    clear HH0
    obtain ⟨k, hx, hc, hk, rfl, rfl, hH⟩ := hrel
    obtain ⟨p, hp⟩ : ∃ p, 64 * k = p := ⟨_, rfl⟩
    rw [hp] at hk ⊢
    by_cases hlt : p + 64 < len
    · have i1 : (p : Int) + 64 < (len : Int) := by omega
      obtain ⟨ba, offa, rfl⟩ : ∃ ba offa, a = some ⟨ba, offa, none⟩ := by
        rcases HB.out.2 with h0 | ⟨b', off', e, _⟩
        · omega
        · exact ⟨b', off', e⟩
      have hba := HB.out.lt (by omega)
      have hcn : ¬ cap = p := by omega
      have hpc : (p : Int) ≤ (cap : Int) := by omega
      have hqc : (p : Int) + 64 ≤ (cap : Int) := by omega
      have hBw := (HB.out.below hba hH.out.bel).sub (n := p) (q := p + 64) (by omega) (by omega)
      have e64 : p + 64 - p = 64 := by omega
      rw [e64] at hBw
      have HBw : Hid (Byt wr (some ⟨ba, offa + p, none⟩) 64 (cutB l (64 * k) 64)) := by rw [hp]; exact hBw
      clear hBw
      go_wp2_with fail
      refine (refPart_any hx hc (bparts l k) ba (offa + p) (cap - p) _ (p + 64) false wr hH.out.h HBw.out (by omega) (by omega)).mono ?_
      rintro e w2 ⟨v, rfl, hb2, ho2⟩
      obtain ⟨g2, c2, rfl, hg2, hs2⟩ := Seg.ofOwn ho2 (by omega)
      have HH2 : Hid (BH w l ⟨g2, 0, none⟩ c2 (k + 1) w2) := by
        refine ⟨?_, hH.out.bel.trans (hb2.mono hH.out.bel.size)⟩
        rw [bparts, show 64 * (k + 1) = p + 64 by omega]
        exact hs2
      clear hb2 ho2 hs2 hH HBw
      go_wp2
      exact ⟨⟨k + 1, ⟨g2, 0, none⟩, c2, .inr (by omega), by go_num, rfl, HH2⟩, by simp [intOf]; omega⟩
    · have i1 : ¬ (p : Int) + 64 < (len : Int) := by omega
      have hkb : k = bahead len := bahead_eq k len (by omega) (by omega)
      have hxb := hH.out.h.lt hx.block rfl
      have hsz := hH.out.bel.size
      obtain ⟨B, hBe⟩ : ∃ B, wr.heap.size = B := ⟨_, rfl⟩
      by_cases h0 : len = 0
      · subst h0
        have hp0 : p = 0 := by omega
        subst hp0
        have HL0 : Hid (BL w B hx hc (bparts l k) (.slice (some ⟨wr.heap.size, 0, none⟩) 0 0) 0 (l.drop 0) (wr.alloc (.cells #[] 5))) := by
          have hl0 : l.drop 0 = [] := by rw [List.eq_nil_of_length_eq_zero hl]; rfl
          rw [hl0, ← hBe]
          exact BL.new (hH.out.h) hH.out.bel (World.ownsRow_made wr #[] 0 (Nat.le_refl _) (Nat.zero_le _) rfl) (grownBy_alloc wr _)
        clear hBe
        cases a with
        | none =>
          have hc0 := hnil rfl
          subst hc0
          clear hH
          go_wp2
          go_loopw [5] (fun v wr => ∃ n : Nat, 0 - 0 ≤ n ∧ n ≤ 64 ∧ Hid (BL w B hx hc (bparts l k) v n (l.drop 0 ++ List.replicate (n - (0 - 0)) 0) wr)) (fun v _ => 64 - lenOf v)
          case atStart => exact ⟨0 - 0, Nat.le_refl _, by omega, by rw [Nat.sub_self, List.replicate_zero, List.append_nil]; exact HL0⟩
          case round =>
            clear HL0
            obtain ⟨n, hn1, hn2, hL⟩ := hrel
            obtain ⟨a5, c5, rfl, hB5, hnc5, hcm5, hnil5⟩ := own_parts hL.out.own
            by_cases hn : n < 64
            · have hni : (n : Int) < 64 := by omega
              have hone : Byt (wr.alloc (.cells #[.int .u8 0] 5)) (some ⟨wr.heap.size, 0, none⟩) 1 [0] := byt_lit _ [0] wr.heap.size _ _ _ (heap_alloc_new wr _) rfl
              obtain ⟨v4, w4, hap4, own4, hg4⟩ := append_bytes (wr.alloc (.cells #[.int .u8 0] 5)) B _ n _ (hL.out.own.alloc _) ⟨wr.heap.size, 0, none⟩ 1 1 [0] hone (by have := hL.out.bs; simp; omega) (by omega)
              have HL4 : Hid (BL w B hx hc (bparts l k) v4 (n + 1) (l.drop 0 ++ List.replicate (n + 1 - (0 - 0)) 0) w4) := by
                have e : l.drop 0 ++ List.replicate (n + 1 - (0 - 0)) 0 = l.drop 0 ++ List.replicate (n - (0 - 0)) 0 ++ [0] := by
                  rw [show n + 1 - (0 - 0) = (n - (0 - 0)) + 1 by omega, List.replicate_succ', List.append_assoc]
                rw [e]
                exact hL.out.app own4 hg4
              have HA4 : Hid ((Builtin.append_ #[22, 22] 22 #[.slice a5 n c5, .slice (some ⟨wr.heap.size, 0, none⟩) 1 1]).run Tryd.prog (wr.alloc (.cells #[.int .u8 0] 5)) = .ok v4 w4) := hap4
              have hl4 : lenOf v4 = n + 1 := by
                obtain ⟨a', c', e', _⟩ := own_parts own4
                rw [e']; rfl
              clear hap4 own4 hg4 hone hL hB5
              go_wp2_with (at_builtin; refine wpList_append_run rfl (.tmp 35) (.tmp 36) 22 rfl _ _ _ _ rfl rfl HA4.out ?_)
              clear HA4
              exact ⟨⟨n + 1, by omega, by omega, HL4⟩, by rw [hl4]; show _ < 64 - n; omega⟩
            · have e64 : n = 64 := by omega
              have hni : ¬ (n : Int) < 64 := by omega
              have HLast : Hid (l.drop 0 ++ List.replicate (n - (0 - 0)) 0 = blast l) := by
                show _ = _
                rw [blast, hl, ← hkb, hp, e64]
              subst e64
              obtain ⟨ga5, rfl⟩ : ∃ g, a5 = some ⟨g, 0, none⟩ := by
                obtain ⟨g, c, e, _, _⟩ := Seg.ofOwn hL.out.own (by omega)
                cases e
                exact ⟨g, rfl⟩
              rw [HLast.out] at hB5
              have HB5 : Hid (Byt wr (some ⟨ga5, 0, none⟩) 64 (blast l)) := hB5
              have HW5 : Hid (Below w.heap.size w wr) := hL.out.bel
              have HS5 : Hid (Seg wr 47 (some hx) 8 hc ((bparts l k).map wv)) := hL.out.h
              clear hB5 hL HLast
              go_wp2_with fail
              refine (refPart_any hx hc (bparts l k) ga5 0 c5 (blast l) 0 true wr HS5.out HB5.out (by omega) (by omega)).mono ?_
              rintro e w6 ⟨v6, rfl, hb6, ho6⟩
              obtain ⟨g6, c6, rfl, hg6, hs6⟩ := Seg.ofOwn ho6 (by omega)
              obtain ⟨H, hH⟩ : ∃ H, bpart (bparts l k) (blast l) 0 true = H := ⟨_, rfl⟩
              have hHl : H.length = 8 := by rw [← hH, bpart_length]
              have HBL : Hid (blakeB l = wordsB H) := by
                show _ = _
                rw [blakeB, hl, ← hkb, hH]
              rw [hH] at hs6
              have hbel6 : Below w.heap.size w w6 := HW5.out.trans (hb6.mono HW5.out.size)
              have HO0 : Hid (BO5 w g6 c6 H (some ⟨w6.heap.size, 0, none⟩) 0 0 (w6.alloc (.cells #[] 5))) := BO5.new hs6 hbel6
              clear hb6 ho6 hs6 hH hbel6 HS5 HB5 HW5
              go_wp2
              go_loopw [6, 7] (fun v i wr => ∃ (j : Nat) (a' : Option Addr) (c' : Nat), j ≤ 8 ∧ i = .int .i64 j ∧ v = .slice a' (4 * j : Nat) c' ∧ Hid (BO5 w g6 c6 H a' c' j wr)) (fun _ i _ => 8 - (intOf i).toNat)
              case atStart => exact ⟨0, _, _, by omega, rfl, rfl, HO0⟩
              case round =>
                clear HO0
                obtain ⟨j, a', c', hj, rfl, rfl, hO⟩ := hrel
                by_cases hj8 : j < 8
                · have hji : (j : Int) < 8 := by omega
                  obtain ⟨cc, _⟩ := hO.out.h.word j (by omega)
                  obtain ⟨y, hy⟩ : ∃ y, at32 H j = y := ⟨_, rfl⟩
                  rw [hy, Nat.zero_add] at cc
                  obtain ⟨q, hq⟩ : ∃ q, 4 * j = q := ⟨_, rfl⟩
                  rw [hq]
                  have HSo : Hid (Byt wr a' q (wordsB (H.take j))) := by rw [← hq]; exact hO.out.out
                  have hyb := y.isLt
                  go_wp2_with fail
                  refine (refPut_seg a' q c' 4 y.toNat (by omega) false _ wr (by omega) HSo.out hO.out.nil 4 (by decide)).mono ?_
                  rintro e w8 ⟨a8, c8, rfl, hb8, hs8, hbk8⟩
                  have HO8 : Hid (BO5 w g6 c6 H a8 c8 (j + 1) w8) := by
                    have e := wordsB_take H j (by omega)
                    rw [hy] at e
                    exact hO.out.put hb8 (by rw [e, show 4 * (j + 1) = q + 4 by omega]; exact hs8) hbk8
                  clear hb8 hs8 hbk8 hO
                  go_wp2
                  exact ⟨⟨j + 1, a8, c8, by omega, by go_num, by rw [show 4 * (j + 1) = q + 4 by omega], HO8⟩, by simp [intOf]; omega⟩
                · have ej : j = 8 := by omega
                  subst ej
                  have hji : ¬ ((8 : Nat) : Int) < 8 := by omega
                  have HF : Hid (Seg wr 5 a' 32 c' ((blakeB l).map bv)) := by
                    rw [HBL.out]
                    have := hO.out.seg (by omega)
                    rw [List.take_of_length_le (by omega)] at this
                    exact this
                  have HFb : Hid (∀ j, blockOf a' = some j → w.heap.size ≤ j) := hO.out.isnew
                  have HW8 : Hid (Below w.heap.size w wr) := hO.out.bel
                  clear hO
                  go_wp2
                  go_ret
                  exact ⟨a', c', rfl, HW8.out, HF.out, HFb.out⟩
        | some x =>
          clear hH
          go_wp2
          go_loopw [5] (fun v wr => ∃ n : Nat, 0 - 0 ≤ n ∧ n ≤ 64 ∧ Hid (BL w B hx hc (bparts l k) v n (l.drop 0 ++ List.replicate (n - (0 - 0)) 0) wr)) (fun v _ => 64 - lenOf v)
          case atStart => exact ⟨0 - 0, Nat.le_refl _, by omega, by rw [Nat.sub_self, List.replicate_zero, List.append_nil]; exact HL0⟩
          case round =>
            clear HL0
            obtain ⟨n, hn1, hn2, hL⟩ := hrel
            obtain ⟨a5, c5, rfl, hB5, hnc5, hcm5, hnil5⟩ := own_parts hL.out.own
            by_cases hn : n < 64
            · have hni : (n : Int) < 64 := by omega
              have hone : Byt (wr.alloc (.cells #[.int .u8 0] 5)) (some ⟨wr.heap.size, 0, none⟩) 1 [0] := byt_lit _ [0] wr.heap.size _ _ _ (heap_alloc_new wr _) rfl
              obtain ⟨v4, w4, hap4, own4, hg4⟩ := append_bytes (wr.alloc (.cells #[.int .u8 0] 5)) B _ n _ (hL.out.own.alloc _) ⟨wr.heap.size, 0, none⟩ 1 1 [0] hone (by have := hL.out.bs; simp; omega) (by omega)
              have HL4 : Hid (BL w B hx hc (bparts l k) v4 (n + 1) (l.drop 0 ++ List.replicate (n + 1 - (0 - 0)) 0) w4) := by
                have e : l.drop 0 ++ List.replicate (n + 1 - (0 - 0)) 0 = l.drop 0 ++ List.replicate (n - (0 - 0)) 0 ++ [0] := by
                  rw [show n + 1 - (0 - 0) = (n - (0 - 0)) + 1 by omega, List.replicate_succ', List.append_assoc]
                rw [e]
                exact hL.out.app own4 hg4
              have HA4 : Hid ((Builtin.append_ #[22, 22] 22 #[.slice a5 n c5, .slice (some ⟨wr.heap.size, 0, none⟩) 1 1]).run Tryd.prog (wr.alloc (.cells #[.int .u8 0] 5)) = .ok v4 w4) := hap4
              have hl4 : lenOf v4 = n + 1 := by
                obtain ⟨a', c', e', _⟩ := own_parts own4
                rw [e']; rfl
              clear hap4 own4 hg4 hone hL hB5
              go_wp2_with (at_builtin; refine wpList_append_run rfl (.tmp 35) (.tmp 36) 22 rfl _ _ _ _ rfl rfl HA4.out ?_)
              clear HA4
              exact ⟨⟨n + 1, by omega, by omega, HL4⟩, by rw [hl4]; show _ < 64 - n; omega⟩
            · have e64 : n = 64 := by omega
              have hni : ¬ (n : Int) < 64 := by omega
              have HLast : Hid (l.drop 0 ++ List.replicate (n - (0 - 0)) 0 = blast l) := by
                show _ = _
                rw [blast, hl, ← hkb, hp, e64]
              subst e64
              obtain ⟨ga5, rfl⟩ : ∃ g, a5 = some ⟨g, 0, none⟩ := by
                obtain ⟨g, c, e, _, _⟩ := Seg.ofOwn hL.out.own (by omega)
                cases e
                exact ⟨g, rfl⟩
              rw [HLast.out] at hB5
              have HB5 : Hid (Byt wr (some ⟨ga5, 0, none⟩) 64 (blast l)) := hB5
              have HW5 : Hid (Below w.heap.size w wr) := hL.out.bel
              have HS5 : Hid (Seg wr 47 (some hx) 8 hc ((bparts l k).map wv)) := hL.out.h
              clear hB5 hL HLast
              go_wp2_with fail
              refine (refPart_any hx hc (bparts l k) ga5 0 c5 (blast l) 0 true wr HS5.out HB5.out (by omega) (by omega)).mono ?_
              rintro e w6 ⟨v6, rfl, hb6, ho6⟩
              obtain ⟨g6, c6, rfl, hg6, hs6⟩ := Seg.ofOwn ho6 (by omega)
              obtain ⟨H, hH⟩ : ∃ H, bpart (bparts l k) (blast l) 0 true = H := ⟨_, rfl⟩
              have hHl : H.length = 8 := by rw [← hH, bpart_length]
              have HBL : Hid (blakeB l = wordsB H) := by
                show _ = _
                rw [blakeB, hl, ← hkb, hH]
              rw [hH] at hs6
              have hbel6 : Below w.heap.size w w6 := HW5.out.trans (hb6.mono HW5.out.size)
              have HO0 : Hid (BO5 w g6 c6 H (some ⟨w6.heap.size, 0, none⟩) 0 0 (w6.alloc (.cells #[] 5))) := BO5.new hs6 hbel6
              clear hb6 ho6 hs6 hH hbel6 HS5 HB5 HW5
              go_wp2
              go_loopw [6, 7] (fun v i wr => ∃ (j : Nat) (a' : Option Addr) (c' : Nat), j ≤ 8 ∧ i = .int .i64 j ∧ v = .slice a' (4 * j : Nat) c' ∧ Hid (BO5 w g6 c6 H a' c' j wr)) (fun _ i _ => 8 - (intOf i).toNat)
              case atStart => exact ⟨0, _, _, by omega, rfl, rfl, HO0⟩
              case round =>
                clear HO0
                obtain ⟨j, a', c', hj, rfl, rfl, hO⟩ := hrel
                by_cases hj8 : j < 8
                · have hji : (j : Int) < 8 := by omega
                  obtain ⟨cc, _⟩ := hO.out.h.word j (by omega)
                  obtain ⟨y, hy⟩ : ∃ y, at32 H j = y := ⟨_, rfl⟩
                  rw [hy, Nat.zero_add] at cc
                  obtain ⟨q, hq⟩ : ∃ q, 4 * j = q := ⟨_, rfl⟩
                  rw [hq]
                  have HSo : Hid (Byt wr a' q (wordsB (H.take j))) := by rw [← hq]; exact hO.out.out
                  have hyb := y.isLt
                  go_wp2_with fail
                  refine (refPut_seg a' q c' 4 y.toNat (by omega) false _ wr (by omega) HSo.out hO.out.nil 4 (by decide)).mono ?_
                  rintro e w8 ⟨a8, c8, rfl, hb8, hs8, hbk8⟩
                  have HO8 : Hid (BO5 w g6 c6 H a8 c8 (j + 1) w8) := by
                    have e := wordsB_take H j (by omega)
                    rw [hy] at e
                    exact hO.out.put hb8 (by rw [e, show 4 * (j + 1) = q + 4 by omega]; exact hs8) hbk8
                  clear hb8 hs8 hbk8 hO
                  go_wp2
                  exact ⟨⟨j + 1, a8, c8, by omega, by go_num, by rw [show 4 * (j + 1) = q + 4 by omega], HO8⟩, by simp [intOf]; omega⟩
                · have ej : j = 8 := by omega
                  subst ej
                  have hji : ¬ ((8 : Nat) : Int) < 8 := by omega
                  have HF : Hid (Seg wr 5 a' 32 c' ((blakeB l).map bv)) := by
                    rw [HBL.out]
                    have := hO.out.seg (by omega)
                    rw [List.take_of_length_le (by omega)] at this
                    exact this
                  have HFb : Hid (∀ j, blockOf a' = some j → w.heap.size ≤ j) := hO.out.isnew
                  have HW8 : Hid (Below w.heap.size w wr) := hO.out.bel
                  clear hO
                  go_wp2
                  go_ret
                  exact ⟨a', c', rfl, HW8.out, HF.out, HFb.out⟩
      · obtain ⟨ba, offa, rfl⟩ : ∃ ba offa, a = some ⟨ba, offa, none⟩ := by
          rcases HB.out.2 with h1 | ⟨b', off', e, _⟩
          · omega
          · exact ⟨b', off', e⟩
        have hba := HB.out.lt (by omega)
        have hpl : p < len := by omega
        have hcn : ¬ cap = p := by omega
        have hpc : (p : Int) ≤ (cap : Int) := by omega
        have hpl' : (p : Int) ≤ (len : Int) := by omega
        have hBw := (HB.out.below hba hH.out.bel).sub (n := p) (q := len) (by omega) (by omega)
        have ed : (l.drop p).take (len - p) = l.drop p := List.take_of_length_le (by simp; omega)
        rw [ed] at hBw
        obtain ⟨v3, w3, hap3, own3, hg3⟩ := append_bytes (wr.alloc (.cells #[] 5)) wr.heap.size (.slice (some ⟨wr.heap.size, 0, none⟩) 0 0) 0 [] (World.ownsRow_made wr #[] 0 (Nat.le_refl _) (Nat.zero_le _) rfl) ⟨ba, offa + p, none⟩ (len - p) (cap - p) _ (hBw.later ((Below.refl _ _).alloc (Nat.le_refl _) _)) (by simp) (by omega)
        rw [Nat.zero_add, List.nil_append] at own3
        have HL0 : Hid (BL w B hx hc (bparts l k) v3 (len - p) (l.drop p) w3) := by
          rw [← hBe]
          exact BL.new hH.out.h hH.out.bel own3 (grown_alloc hg3 (fun k hk => by simp [Value.ownBlock] at hk; omega))
        have HA3 : Hid ((Builtin.append_ #[22, 22] 22 #[.slice (some ⟨wr.heap.size, 0, none⟩) 0 0, .slice (some ⟨ba, offa + p, none⟩) (len - p) (cap - p)]).run Tryd.prog (wr.alloc (.cells #[] 5)) = .ok v3 w3) := hap3
        clear hap3 own3 hg3 hBw hH hBe
        go_wp2_with (at_builtin; refine wpList_append_run rfl (.tmp 27) (.tmp 30) 22 rfl _ _ _ _ rfl rfl HA3.out ?_)
        clear HA3
        go_loopw [5] (fun v wr => ∃ n : Nat, len - p ≤ n ∧ n ≤ 64 ∧ Hid (BL w B hx hc (bparts l k) v n (l.drop p ++ List.replicate (n - (len - p)) 0) wr)) (fun v _ => 64 - lenOf v)
        case atStart => exact ⟨len - p, Nat.le_refl _, by omega, by rw [Nat.sub_self, List.replicate_zero, List.append_nil]; exact HL0⟩
        case round =>
          clear HL0
          obtain ⟨n, hn1, hn2, hL⟩ := hrel
          obtain ⟨a5, c5, rfl, hB5, hnc5, hcm5, hnil5⟩ := own_parts hL.out.own
          by_cases hn : n < 64
          · have hni : (n : Int) < 64 := by omega
            have hone : Byt (wr.alloc (.cells #[.int .u8 0] 5)) (some ⟨wr.heap.size, 0, none⟩) 1 [0] := byt_lit _ [0] wr.heap.size _ _ _ (heap_alloc_new wr _) rfl
            obtain ⟨v4, w4, hap4, own4, hg4⟩ := append_bytes (wr.alloc (.cells #[.int .u8 0] 5)) B _ n _ (hL.out.own.alloc _) ⟨wr.heap.size, 0, none⟩ 1 1 [0] hone (by have := hL.out.bs; simp; omega) (by omega)
            have HL4 : Hid (BL w B hx hc (bparts l k) v4 (n + 1) (l.drop p ++ List.replicate (n + 1 - (len - p)) 0) w4) := by
              have e : l.drop p ++ List.replicate (n + 1 - (len - p)) 0 = l.drop p ++ List.replicate (n - (len - p)) 0 ++ [0] := by
                rw [show n + 1 - (len - p) = (n - (len - p)) + 1 by omega, List.replicate_succ', List.append_assoc]
              rw [e]
              exact hL.out.app own4 hg4
            have HA4 : Hid ((Builtin.append_ #[22, 22] 22 #[.slice a5 n c5, .slice (some ⟨wr.heap.size, 0, none⟩) 1 1]).run Tryd.prog (wr.alloc (.cells #[.int .u8 0] 5)) = .ok v4 w4) := hap4
            have hl4 : lenOf v4 = n + 1 := by
              obtain ⟨a', c', e', _⟩ := own_parts own4
              rw [e']; rfl
            clear hap4 own4 hg4 hone hL hB5
            go_wp2_with (at_builtin; refine wpList_append_run rfl (.tmp 35) (.tmp 36) 22 rfl _ _ _ _ rfl rfl HA4.out ?_)
            clear HA4
            exact ⟨⟨n + 1, by omega, by omega, HL4⟩, by rw [hl4]; show _ < 64 - n; omega⟩
          · have e64 : n = 64 := by omega
            have hni : ¬ (n : Int) < 64 := by omega
            have HLast : Hid (l.drop p ++ List.replicate (n - (len - p)) 0 = blast l) := by
              show _ = _
              rw [blast, hl, ← hkb, hp, e64]
            subst e64
            obtain ⟨ga5, rfl⟩ : ∃ g, a5 = some ⟨g, 0, none⟩ := by
              obtain ⟨g, c, e, _, _⟩ := Seg.ofOwn hL.out.own (by omega)
              cases e
              exact ⟨g, rfl⟩
            rw [HLast.out] at hB5
            have HB5 : Hid (Byt wr (some ⟨ga5, 0, none⟩) 64 (blast l)) := hB5
            have HW5 : Hid (Below w.heap.size w wr) := hL.out.bel
            have HS5 : Hid (Seg wr 47 (some hx) 8 hc ((bparts l k).map wv)) := hL.out.h
            clear hB5 hL HLast
            go_wp2_with fail
            refine (refPart_any hx hc (bparts l k) ga5 0 c5 (blast l) len true wr HS5.out HB5.out (by omega) (by omega)).mono ?_
            rintro e w6 ⟨v6, rfl, hb6, ho6⟩
            obtain ⟨g6, c6, rfl, hg6, hs6⟩ := Seg.ofOwn ho6 (by omega)
            obtain ⟨H, hH⟩ : ∃ H, bpart (bparts l k) (blast l) len true = H := ⟨_, rfl⟩
            have hHl : H.length = 8 := by rw [← hH, bpart_length]
            have HBL : Hid (blakeB l = wordsB H) := by
              show _ = _
              rw [blakeB, hl, ← hkb, hH]
            rw [hH] at hs6
            have hbel6 : Below w.heap.size w w6 := HW5.out.trans (hb6.mono HW5.out.size)
            have HO0 : Hid (BO5 w g6 c6 H (some ⟨w6.heap.size, 0, none⟩) 0 0 (w6.alloc (.cells #[] 5))) := BO5.new hs6 hbel6
            clear hb6 ho6 hs6 hH hbel6 HS5 HB5 HW5
            go_wp2
            go_loopw [6, 7] (fun v i wr => ∃ (j : Nat) (a' : Option Addr) (c' : Nat), j ≤ 8 ∧ i = .int .i64 j ∧ v = .slice a' (4 * j : Nat) c' ∧ Hid (BO5 w g6 c6 H a' c' j wr)) (fun _ i _ => 8 - (intOf i).toNat)
            case atStart => exact ⟨0, _, _, by omega, rfl, rfl, HO0⟩
            case round =>
              clear HO0
              obtain ⟨j, a', c', hj, rfl, rfl, hO⟩ := hrel
              by_cases hj8 : j < 8
              · have hji : (j : Int) < 8 := by omega
                obtain ⟨cc, _⟩ := hO.out.h.word j (by omega)
                obtain ⟨y, hy⟩ : ∃ y, at32 H j = y := ⟨_, rfl⟩
                rw [hy, Nat.zero_add] at cc
                obtain ⟨q, hq⟩ : ∃ q, 4 * j = q := ⟨_, rfl⟩
                rw [hq]
                have HSo : Hid (Byt wr a' q (wordsB (H.take j))) := by rw [← hq]; exact hO.out.out
                have hyb := y.isLt
                go_wp2_with fail
                refine (refPut_seg a' q c' 4 y.toNat (by omega) false _ wr (by omega) HSo.out hO.out.nil 4 (by decide)).mono ?_
                rintro e w8 ⟨a8, c8, rfl, hb8, hs8, hbk8⟩
                have HO8 : Hid (BO5 w g6 c6 H a8 c8 (j + 1) w8) := by
                  have e := wordsB_take H j (by omega)
                  rw [hy] at e
                  exact hO.out.put hb8 (by rw [e, show 4 * (j + 1) = q + 4 by omega]; exact hs8) hbk8
                clear hb8 hs8 hbk8 hO
                go_wp2
                exact ⟨⟨j + 1, a8, c8, by omega, by go_num, by rw [show 4 * (j + 1) = q + 4 by omega], HO8⟩, by simp [intOf]; omega⟩
              · have ej : j = 8 := by omega
                subst ej
                have hji : ¬ ((8 : Nat) : Int) < 8 := by omega
                have HF : Hid (Seg wr 5 a' 32 c' ((blakeB l).map bv)) := by
                  rw [HBL.out]
                  have := hO.out.seg (by omega)
                  rw [List.take_of_length_le (by omega)] at this
                  exact this
                have HFb : Hid (∀ j, blockOf a' = some j → w.heap.size ≤ j) := hO.out.isnew
                have HW8 : Hid (Below w.heap.size w wr) := hO.out.bel
                clear hO
                go_wp2
                go_ret
                exact ⟨a', c', rfl, HW8.out, HF.out, HFb.out⟩
end Go.Proofs.YthjkjfoelekeeaaDoor
