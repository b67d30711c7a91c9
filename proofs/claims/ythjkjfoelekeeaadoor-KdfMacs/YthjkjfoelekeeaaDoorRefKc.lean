/- The walk over the document's Derive (kdf). -/
import Derived.Test.YthjkjfoelekeeaaDoorRefKb
namespace Go.Proofs.YthjkjfoelekeeaaDoor
set_option linter.unusedVariables false
open Go.RowKit

/-- 'append(append([]byte{}, l...), x)'. -/
theorem app_tail (w : World) (a : Option Addr) (len cap : Nat) (l : List UInt8) (hS : Byt w a len l) (hnil : a = none → cap = 0) (hm : len ≤ 5000) (x : UInt8) :
    ∃ v3 w3 v4 w4, (Builtin.append_ #[22, 22] 22 #[.slice (some ⟨w.heap.size, 0, none⟩) 0 0, .slice a len cap]).run Tryd.prog (w.alloc (.cells #[] 5)) = .ok v3 w3 ∧
      (Builtin.append_ #[22, 22] 22 #[v3, .slice (some ⟨w3.heap.size, 0, none⟩) 1 1]).run Tryd.prog (w3.alloc (.cells #[.int .u8 (x.toNat : Int)] 5)) = .ok v4 w4 ∧ w4.ownsRow w.heap.size 5 1 v4 (len + 1) ((l ++ [x]).map bv) ∧ Below w.heap.size w w4 := by
  have hb0 : Below w.heap.size w (w.alloc (.cells #[] 5)) := (Below.refl _ _).alloc (Nat.le_refl _) _
  obtain ⟨v3, w3, hap3, own3, hg3⟩ := append_own_any (w.alloc (.cells #[] 5)) w.heap.size (.slice (some ⟨w.heap.size, 0, none⟩) 0 0) 0 [] (World.ownsRow_made w #[] 0 (Nat.le_refl _) (Nat.zero_le _) rfl) a len cap l (hS.later hb0) hnil (by simp) (by omega)
  have bel3 : Below w.heap.size w w3 := hb0.grown hg3 (by simp) (fun k hk => by simp [Value.ownBlock] at hk; omega)
  have hone : Byt (w3.alloc (.cells #[.int .u8 (x.toNat : Int)] 5)) (some ⟨w3.heap.size, 0, none⟩) 1 [x] := byt_lit _ [x] w3.heap.size _ _ _ (heap_alloc_new w3 _) rfl
  obtain ⟨v4, w4, hap4, own4, hg4⟩ := append_bytes (w3.alloc (.cells #[.int .u8 (x.toNat : Int)] 5)) w.heap.size v3 _ _ (own3.alloc _) ⟨w3.heap.size, 0, none⟩ 1 1 [x] hone (by have := bel3.size; simp; omega) (by omega)
  rw [Nat.zero_add, List.nil_append] at own4
  exact ⟨v3, w3, v4, w4, hap3, hap4, own4, (bel3.alloc bel3.size _).grown hg4 (by have := bel3.size; simp; omega) (fun k hk => (own3.lt k hk).1)⟩
theorem seg_nil {w : World} {a : Option Addr} {cap : Nat} {vs : List Value} {n : Nat} (h : Seg w 5 a n cap vs) (hn : 0 < n) : a = none → cap = 0 := fun e => by
  rcases h.2 with ⟨_, h0, _⟩ | ⟨_, _, _, e2, _⟩
  · omega
  · rw [e] at e2; cases e2
/-- What Derive has: t, and the keys so far. -/
structure DV (w : World) (at_ : Option Addr) (ct : Nat) (t : List UInt8) (W : World) : Prop where
  t : Seg W 5 at_ 32 ct (t.map bv)
  bel : Below w.heap.size w W
theorem DV.later {w W W' : World} {a : Option Addr} {c : Nat} {t : List UInt8} (h : DV w a c t W) (hb : Below W.heap.size W W') : DV w a c t W' := ⟨h.t.later hb, h.bel.trans (hb.mono h.bel.size)⟩

set_option maxHeartbeats 2000000 in
set_option maxRecDepth 100000 in
theorem refDerive_any (a : Option Addr) (klen kcap : Nat) (key : List UInt8) (b : Option Addr) (blen bcap : Nat) (bl : List UInt8) (w : World) (hK : Byt w a klen key) (hknil : a = none → kcap = 0) (hkm : klen ≤ 5000) (hkc : klen ≤ kcap) (hB : Byt w b blen bl) (hbnil : b = none → bcap = 0) (hbm : blen ≤ 5000) (hbc : blen ≤ bcap) :
    Calls Tryd.prog 12 #[.slice a klen kcap, .slice b blen bcap] w fun e w' => ∃ v, e = .returned v ∧ Below w.heap.size w w' ∧ w'.ownsRow w.heap.size 5 1 v 96 ((der1 key bl ++ der2 key bl ++ der3 key bl).map bv) := by
  have HK : Hid (Byt w a klen key) := hK
  have HB : Hid (Byt w b blen bl) := hB
  clear hK hB
  go_enter Tryd.func12, Tryd.ntmps12
  go_wp2_with fail
  refine (refMac_any a klen kcap key b blen bcap bl w HK.out hknil hkm hkc HB.out hbnil hbm hbc).mono ?_
  rintro e w1 ⟨a1, c1, rfl, hb1, hs1, hk1⟩
  obtain ⟨t, ht⟩ : ∃ t, macB key bl = t := ⟨_, rfl⟩
  obtain ⟨d1, hd1⟩ : ∃ d, der1 key bl = d := ⟨_, rfl⟩
  obtain ⟨d2, hd2⟩ : ∃ d, der2 key bl = d := ⟨_, rfl⟩
  obtain ⟨d3, hd3⟩ : ∃ d, der3 key bl = d := ⟨_, rfl⟩
  have m1 : macB t [1] = d1 := by rw [← hd1, der1, ht]
  have m2 : macB t (d1 ++ [2]) = d2 := by rw [← hd2, der2, ht, hd1]
  have m3 : macB t (d2 ++ [3]) = d3 := by rw [← hd3, der3, ht, hd2]
  have HD : Hid (der1 key bl ++ der2 key bl ++ der3 key bl = d1 ++ d2 ++ d3) := by show _ = _; rw [hd1, hd2, hd3]
  rw [ht] at hs1
  clear ht hd1 hd2 hd3
  have HT1 : Hid (DV w a1 c1 t w1) := ⟨hs1, hb1⟩
  have hn1 := seg_nil hs1 (by omega)
  have hc1 := hs1.cap_le
  clear hb1 hs1 hk1
  have hlit : Byt (w1.alloc (.cells #[.int .u8 1] 5)) (some ⟨w1.heap.size, 0, none⟩) 1 [1] := byt_lit _ [1] w1.heap.size _ _ _ (heap_alloc_new w1 _) rfl
  have HL : Hid (Byt (w1.alloc (.cells #[.int .u8 1] 5)) (some ⟨w1.heap.size, 0, none⟩) 1 [1]) := hlit
  have HT1' : Hid (DV w a1 c1 t (w1.alloc (.cells #[.int .u8 1] 5))) := HT1.out.later ((Below.refl _ _).alloc (Nat.le_refl _) _)
  clear hlit
  go_wp2_with fail
  refine (refMac_any a1 32 c1 t (some ⟨w1.heap.size, 0, none⟩) 1 1 [1] _ (Byt.ofSeg HT1'.out.t) hn1 (by omega) hc1 HL.out (fun e => by cases e) (by omega) (by omega)).mono ?_
  rintro e w2 ⟨a2, c2, rfl, hb2, hs2, hk2⟩
  have hs2' : Seg w2 5 a2 32 c2 ((d1).map bv) := by rw [← m1]; exact hs2
  have HT2 : Hid (DV w a1 c1 t w2) := HT1'.out.later hb2
  have HO2 : Hid (Seg w2 5 a2 32 c2 ((d1).map bv)) := hs2'
  have hn2 := seg_nil hs2' (by omega)
  clear hb2 hs2 hs2' hk2 HT1 HT1' HL
  obtain ⟨v3, w3, v4, w4, hap3, hap4, ho4, hb4⟩ := app_tail w2 a2 32 c2 _ (Byt.ofSeg HO2.out) hn2 (by omega) 2
  obtain ⟨a4, c4, rfl, hB4, hc4, _, hn4⟩ := own_parts ho4
  have HT4 : Hid (DV w a1 c1 t w4) := HT2.out.later hb4
  have HO4 : Hid (Seg w4 5 a2 32 c2 ((d1).map bv)) := HO2.out.later hb4
  have HB4 : Hid (Byt w4 a4 33 (d1 ++ [2])) := hB4
  have HA3 : Hid _ := hap3
  have HA4 : Hid ((Builtin.append_ #[22, 22] 22 #[v3, .slice (some ⟨w3.heap.size, 0, none⟩) 1 1]).run Tryd.prog (w3.alloc (.cells #[.int .u8 2] 5)) = .ok (.slice a4 33 c4) w4) := hap4
  clear hap3 hap4 ho4 hb4 hB4 HT2 HO2
  go_wp2_with (at_builtin; first | refine wpList_append_run rfl (.tmp 16) (.tmp 17) 22 rfl _ _ _ _ rfl rfl HA3.out ?_ | refine wpList_append_run rfl (.tmp 18) (.tmp 19) 22 rfl _ _ _ _ rfl rfl HA4.out ?_)
  clear HA3 HA4
  refine (refMac_any a1 32 c1 t a4 33 c4 (d1 ++ [2]) w4 (Byt.ofSeg HT4.out.t) hn1 (by omega) hc1 HB4.out hn4 (by omega) hc4).mono ?_
  rintro e w5 ⟨a5, c5, rfl, hb5, hs5, hk5⟩
  have hs5' : Seg w5 5 a5 32 c5 ((d2).map bv) := by rw [← m2]; exact hs5
  have HT5 : Hid (DV w a1 c1 t w5) := HT4.out.later hb5
  have HO5 : Hid (Seg w5 5 a2 32 c2 ((d1).map bv)) := HO4.out.later hb5
  have HQ5 : Hid (Seg w5 5 a5 32 c5 ((d2).map bv)) := hs5'
  have hn5 := seg_nil hs5' (by omega)
  clear hb5 hs5 hs5' hk5 HT4 HO4 HB4
  obtain ⟨v6, w6, v7, w7, hap6, hap7, ho7, hb7⟩ := app_tail w5 a5 32 c5 _ (Byt.ofSeg HQ5.out) hn5 (by omega) 3
  obtain ⟨a7, c7, rfl, hB7, hc7, _, hn7⟩ := own_parts ho7
  have HT7 : Hid (DV w a1 c1 t w7) := HT5.out.later hb7
  have HO7 : Hid (Seg w7 5 a2 32 c2 ((d1).map bv)) := HO5.out.later hb7
  have HQ7 : Hid (Seg w7 5 a5 32 c5 ((d2).map bv)) := HQ5.out.later hb7
  have HB7 : Hid (Byt w7 a7 33 (d2 ++ [3])) := hB7
  have HA6 : Hid _ := hap6
  have HA7 : Hid ((Builtin.append_ #[22, 22] 22 #[v6, .slice (some ⟨w6.heap.size, 0, none⟩) 1 1]).run Tryd.prog (w6.alloc (.cells #[.int .u8 3] 5)) = .ok (.slice a7 33 c7) w7) := hap7
  clear hap6 hap7 ho7 hb7 hB7 HT5 HO5 HQ5
  go_wp2_with (at_builtin; first | refine wpList_append_run rfl (.tmp 23) (.tmp 24) 22 rfl _ _ _ _ rfl rfl HA6.out ?_ | refine wpList_append_run rfl (.tmp 25) (.tmp 26) 22 rfl _ _ _ _ rfl rfl HA7.out ?_)
  clear HA6 HA7
  refine (refMac_any a1 32 c1 t a7 33 c7 (d2 ++ [3]) w7 (Byt.ofSeg HT7.out.t) hn1 (by omega) hc1 HB7.out hn7 (by omega) hc7).mono ?_
  rintro e w8 ⟨a8, c8, rfl, hb8, hs8, hk8⟩
  have hs8' : Seg w8 5 a8 32 c8 ((d3).map bv) := by rw [← m3]; exact hs8
  have hn8 := seg_nil hs8' (by omega)
  have hW8 : Below w.heap.size w w8 := (HT7.out.later hb8).bel
  have hO8 := HO7.out.later hb8
  have hQ8 := HQ7.out.later hb8
  have hb0 : Below w8.heap.size w8 (w8.alloc (.cells #[] 5)) := (Below.refl _ _).alloc (Nat.le_refl _) _
  obtain ⟨v9, w9, hap9, own9, hg9⟩ := append_own_any (w8.alloc (.cells #[] 5)) w8.heap.size (.slice (some ⟨w8.heap.size, 0, none⟩) 0 0) 0 [] (World.ownsRow_made w8 #[] 0 (Nat.le_refl _) (Nat.zero_le _) rfl) a2 32 c2 _ (Byt.ofSeg (hO8.later hb0)) hn2 (by simp) (by omega)
  rw [Nat.zero_add, List.nil_append] at own9
  have bel9 : Below w8.heap.size w8 w9 := hb0.grown hg9 (by simp) (fun k hk => by simp [Value.ownBlock] at hk; omega)
  obtain ⟨v10, w10, hap10, own10, hg10⟩ := append_own_any w9 w8.heap.size v9 _ _ own9 a5 32 c5 _ (Byt.ofSeg (hQ8.later bel9)) hn5 bel9.size (by omega)
  have bel10 : Below w8.heap.size w8 w10 := bel9.grown hg10 bel9.size (fun k hk => (own9.lt k hk).1)
  obtain ⟨v11, w11, hap11, own11, hg11⟩ := append_own_any w10 w8.heap.size v10 _ _ own10 a8 32 c8 _ (Byt.ofSeg (hs8'.later bel10)) hn8 bel10.size (by omega)
  have bel11 : Below w8.heap.size w8 w11 := bel10.grown hg11 bel10.size (fun k hk => (own10.lt k hk).1)
  have HO11 : Hid (w11.ownsRow w.heap.size 5 1 v11 96 ((d1 ++ d2 ++ d3).map bv)) := own_lower own11 hW8.size
  have HW11 : Hid (Below w.heap.size w w11) := hW8.trans (bel11.mono hW8.size)
  have HA9 : Hid _ := hap9
  have HA10 : Hid _ := hap10
  have HA11 : Hid _ := hap11
  clear hap9 hap10 hap11 own9 own10 own11 hg9 hg10 hg11 bel9 bel10 bel11 hb0 hQ8 hO8 hW8 hs8 hs8' hb8 hk8 HT7 HO7 HQ7 HB7
  go_wp2_with (at_builtin; first | refine wpList_append_run rfl (.tmp 29) (.tmp 30) 22 rfl _ _ _ _ rfl rfl HA9.out ?_ | refine wpList_append_run rfl (.tmp 31) (.tmp 32) 22 rfl _ _ _ _ rfl rfl HA10.out ?_ | refine wpList_append_run rfl (.tmp 33) (.tmp 34) 22 rfl _ _ _ _ rfl rfl HA11.out ?_)
  go_ret
  exact ⟨v11, rfl, HW11.out, by rw [HD.out]; exact HO11.out⟩
end Go.Proofs.YthjkjfoelekeeaaDoor
