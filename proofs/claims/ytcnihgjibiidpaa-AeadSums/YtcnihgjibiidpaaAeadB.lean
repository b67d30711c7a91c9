/- The walk over the program's tag (aead). -/
import Derived.Test.YtcnihgjibiidpaaAeadA
namespace Go.Proofs.Ytcnihgjibiidpaa
set_option linter.unusedVariables false
open Go.RowKit

/-- The sealer, and the place of the answer. -/
structure TK (w : World) (s : List UInt8) (W : World) : Prop where
  s : Arr W w.heap.size 64 s
  res : Arr W (w.heap.size + 1) 66 (List.replicate 16 0)
  size : w.heap.size + 1 + 1 ≤ W.heap.size
  bel : Below w.heap.size w W
theorem TK.new (w : World) (s : List UInt8) : TK w s ((w.alloc (.cells (s.map bv).toArray 64)).alloc (.cells ((List.replicate 16 0).map bv).toArray 66)) := by
  obtain ⟨a1, a0⟩ := arr_new2 w 64 s (List.replicate 16 0) 66
  exact ⟨a0, a1, by simp, ((Below.refl _ _).alloc (Nat.le_refl _) _).alloc (by simp) _⟩
theorem TK.later {w W W' : World} {s : List UInt8} (t : TK w s W) (hb : Below (w.heap.size + 1 + 1) W W') : TK w s W' :=
  ⟨t.s.below hb (by omega), t.res.below hb (by omega), Nat.le_trans t.size hb.size, t.bel.trans (hb.mono (by omega))⟩
theorem sealer_info (l : List UInt8) (hl : l.length = 44) : (Try.prog.info? 64).map (·.size) = some (l.map bv).toArray.size := by
  have e1 : (Try.prog.info? 64).map (·.size) = some 44 := by kernel_rfl
  rw [e1]; simp [hl]
theorem atag_info (l : List UInt8) (hl : l.length = 16) : (Try.prog.info? 66).map (·.size) = some (l.map bv).toArray.size := by
  have e1 : (Try.prog.info? 66).map (·.size) = some 16 := by kernel_rfl
  rw [e1]; simp [hl]

theorem pad16_app (x ct : List UInt8) (h : x.length % 16 = 0) : pad16 (x ++ ct) = x ++ pad16 ct := by
  have e : padN (x ++ ct).length = padN ct.length := by unfold padN; rw [List.length_append]; omega
  unfold pad16
  rw [e, List.append_assoc]

set_option maxHeartbeats 1000000 in
set_option maxRecDepth 100000 in
theorem atag_any (s key nonce : List UInt8) (hs : IsSealer s key nonce) (a : Option Addr) (la ca : Nat) (ad : List UInt8) (c : Option Addr) (lc cc : Nat) (ct : List UInt8) (w : World)
    (hA : Byt w a la ad) (hAn : a = none → ca = 0) (hC : Byt w c lc ct) (hCn : c = none → cc = 0) (hla : la ≤ 1100) (hlc : lc ≤ 1100) :
    Calls Try.prog 35 #[.agg (s.map bv).toArray, .slice a la ca, .slice c lc cc] w fun e w' => e = .returned (.agg ((aeadTag key nonce ad ct).map bv).toArray) ∧ Below w.heap.size w w' := by
  have HA : Hid (Byt w a la ad) := hA
  have HC : Hid (Byt w c lc ct) := hC
  have IS : Hid ((Try.prog.info? 64).map (·.size) = some (s.map bv).toArray.size) := sealer_info s hs.len
  have HT0 : Hid (TK w s ((w.alloc (.cells (s.map bv).toArray 64)).alloc (.cells ((List.replicate 16 0).map bv).toArray 66))) := TK.new w s
  obtain ⟨p1, hp1⟩ : ∃ p, la + lc = p := ⟨_, rfl⟩
  obtain ⟨p2, hp2⟩ : ∃ p, p1 + 32 = p := ⟨_, rfl⟩
  obtain ⟨m0, hm0⟩ : ∃ p, p2 + 16 = p := ⟨_, rfl⟩
  have e1 : (la : Int) + (lc : Int) = (p1 : Int) := by omega
  have e2 : (p1 : Int) + 32 = (p2 : Int) := by omega
  have e3 : (p2 : Int) + 16 = (m0 : Int) := by omega
  have hm0b : m0 ≤ 3000 := by omega
  have hp1b : p1 ≤ 3000 := by omega
  have hp2b : p2 ≤ 3000 := by omega
  clear hp1 hp2 hm0
  obtain ⟨W0, hW0⟩ : ∃ W0, (w.alloc (.cells (s.map bv).toArray 64)).alloc (.cells #[.int .u8 0, .int .u8 0, .int .u8 0, .int .u8 0, .int .u8 0, .int .u8 0, .int .u8 0, .int .u8 0, .int .u8 0, .int .u8 0, .int .u8 0, .int .u8 0, .int .u8 0, .int .u8 0, .int .u8 0, .int .u8 0] 66) = W0 := ⟨_, rfl⟩
  have hT0 : TK w s W0 := by rw [← hW0]; exact TK.new w s
  have hsz0 : W0.heap.size = w.heap.size + 1 + 1 := by rw [← hW0]; simp
  obtain ⟨Z, hZ, hmk⟩ := make_room W0 m0 (by omega)
  have own0 : (W0.alloc (.cells Z.toArray 5)).ownsRow (w.heap.size + 1 + 1) 5 1 (.slice (some ⟨W0.heap.size, 0, none⟩) 0 m0) 0 (([] : List UInt8).map bv) :=
    World.ownsRow_made (base := w.heap.size + 1 + 1) (e := 5) (size := 1) W0 Z.toArray m0 (by omega) (by unfold maxLen; omega) (by simp [hZ])
  have hT1 : TK w s (W0.alloc (.cells Z.toArray 5)) := hT0.later ((Below.refl _ _).alloc (by omega) _)
  obtain ⟨W1, hW1⟩ : ∃ W1, W0.alloc (.cells Z.toArray 5) = W1 := ⟨_, rfl⟩
  rw [hW1] at own0 hT1 hmk
  rw [hsz0] at own0 hmk
  obtain ⟨v2, w2, hap2, own2, hg2⟩ := append_own_any W1 (w.heap.size + 1 + 1) _ 0 _ own0 a la ca ad (HA.out.later hT1.bel) hAn hT1.size (by omega)
  rw [Nat.zero_add, List.nil_append] at own2
  obtain ⟨a2, c2, rfl, _, _, _, _⟩ := own_parts own2
  have HT2 : Hid (TK w s w2) := hT1.later ((Below.refl _ _).grown hg2 hT1.size (fun k hk => (own0.lt k hk).1))
  have HO2 : Hid (w2.ownsRow (w.heap.size + 1 + 1) 5 1 (.slice a2 la c2) la (ad.map bv)) := own2
  have HA2 : Hid ((Builtin.append_ #[24, 24] 24 #[.slice (some ⟨w.heap.size + 1 + 1, 0, none⟩) 0 m0, .slice a la ca]).run Try.prog W1 = .ok (.slice a2 la c2) w2) := hap2
  clear hap2 own2 hg2 own0 hT1 hW1 hT0 hsz0 hZ HT0
  rw [← hW0] at hmk
  clear hW0
  go_enter Try.func35, Try.ntmps35
  go_wp2_with (at_builtin; refine wpList_append_run rfl (.tmp 16) (.tmp 17) 24 rfl _ _ _ _ rfl rfl HA2.out ?_)
  clear HA2 hmk e1 e2 e3 hm0b hp1b hp2b
  refine (pfill_any a2 la c2 ad w2 (w.heap.size + 1 + 1) HT2.out.size HO2.out (by omega)).mono ?_
  rintro e w3 ⟨v3, rfl, hb3, own3⟩
  have hT3 := HT2.out.later hb3
  obtain ⟨n3, hn3⟩ : ∃ n, la + padN la = n := ⟨_, rfl⟩
  have hp16 : padN la < 16 := by unfold padN; omega
  have hn3b : n3 ≤ 1200 := by omega
  rw [hn3] at own3
  obtain ⟨v4, w4, hap4, own4, hg4⟩ := append_own_any w3 (w.heap.size + 1 + 1) v3 n3 _ own3 c lc cc ct (HC.out.later hT3.bel) hCn hT3.size (by omega)
  obtain ⟨a4, c4, rfl, _, _, _, _⟩ := own_parts own4
  have HA4 : Hid ((Builtin.append_ #[24, 24] 24 #[v3, .slice c lc cc]).run Try.prog w3 = .ok (.slice a4 (n3 + lc) c4) w4) := hap4
  have HT4 : Hid (TK w s w4) := hT3.later ((Below.refl _ _).grown hg4 hT3.size (fun k hk => (own3.lt k hk).1))
  have HO4 : Hid (w4.ownsRow (w.heap.size + 1 + 1) 5 1 (.slice a4 (n3 + lc) c4) (n3 + lc) ((pad16 ad ++ ct).map bv)) := own4
  clear hap4 own4 hg4 own3 hb3 hT3 HT2 HO2 hn3 hp16
  go_wp2_with (at_builtin; refine wpList_append_run rfl (.tmp 20) (.tmp 21) 24 rfl _ _ _ _ rfl rfl HA4.out ?_)
  clear HA4
  refine (pfill_any a4 (n3 + lc) c4 _ w4 (w.heap.size + 1 + 1) HT4.out.size HO4.out (by omega)).mono ?_
  rintro e w5 ⟨v5, rfl, hb5, own5⟩
  have HT5 : Hid (TK w s w5) := HT4.out.later hb5
  obtain ⟨n5, hn5⟩ : ∃ n, n3 + lc + padN (n3 + lc) = n := ⟨_, rfl⟩
  have hp16 : padN (n3 + lc) < 16 := by unfold padN; omega
  have hn5b : n5 ≤ 2400 := by omega
  rw [hn5, pad16_app _ _ (by rw [pad16_length]; exact pad16_mod ad)] at own5
  have HO5 : Hid (w5.ownsRow (w.heap.size + 1 + 1) 5 1 v5 n5 ((pad16 ad ++ pad16 ct).map bv)) := own5
  clear own5 hb5 HT4 HO4 hn5 hp16
  go_wp2_with fail
  refine (length_any a la ca w5 (by omega)).mono ?_
  rintro e w6 ⟨g6, rfl, hg6, hb6, hB6⟩
  have hT6 := HT5.out.later (hb6.mono HT5.out.size)
  have hO6 := HO5.out.kept (grown_below hb6) (by
    rcases h : Value.ownBlock v5 with _ | j
    · exact .inl rfl
    · exact .inr (by simp))
  obtain ⟨v7, w7, hap7, own7, hg7⟩ := append_bytes w6 (w.heap.size + 1 + 1) v5 n5 _ hO6 ⟨g6, 0, none⟩ 8 8 _ hB6 hT6.size (by omega)
  have HA7 : Hid ((Builtin.append_ #[24, 24] 24 #[v5, .slice (some ⟨g6, 0, none⟩) 8 8]).run Try.prog w6 = .ok v7 w7) := hap7
  have HT7 : Hid (TK w s w7) := hT6.later ((Below.refl _ _).grown hg7 hT6.size (fun k hk => (hO6.lt k hk).1))
  have HO7 : Hid (w7.ownsRow (w.heap.size + 1 + 1) 5 1 v7 (n5 + 8) ((pad16 ad ++ pad16 ct ++ leB 8 la).map bv)) := own7
  clear hap7 own7 hg7 hO6 hT6 hb6 hB6 hg6 HT5 HO5
  go_wp2_with (at_builtin; refine wpList_append_run rfl (.tmp 24) (.tmp 26) 24 rfl _ _ _ _ rfl rfl HA7.out ?_)
  refine (length_any c lc cc w7 (by omega)).mono ?_
  rintro e w8 ⟨g8, rfl, hg8, hb8, hB8⟩
  clear HA7
  have hT8 := HT7.out.later (hb8.mono HT7.out.size)
  have hO8 := HO7.out.kept (grown_below hb8) (by
    rcases h : Value.ownBlock v7 with _ | j
    · exact .inl rfl
    · exact .inr (by simp))
  obtain ⟨v9, w9, hap9, own9, hg9⟩ := append_bytes w8 (w.heap.size + 1 + 1) v7 (n5 + 8) _ hO8 ⟨g8, 0, none⟩ 8 8 _ hB8 hT8.size (by omega)
  obtain ⟨a9, c9, rfl, hB9, hc9, hm9, _⟩ := own_parts own9
  have HA9 : Hid ((Builtin.append_ #[24, 24] 24 #[v7, .slice (some ⟨g8, 0, none⟩) 8 8]).run Try.prog w8 = .ok (.slice a9 (n5 + 8 + 8) c9) w9) := hap9
  have HT9 : Hid (TK w s w9) := hT8.later ((Below.refl _ _).grown hg9 hT8.size (fun k hk => (hO8.lt k hk).1))
  have HB9 : Hid (Byt w9 a9 (n5 + 8 + 8) (tagged ad ct)) := by
    unfold tagged
    rw [HA.out.1, HC.out.1]
    exact hB9
  have Hm9 : Hid (c9 ≤ maxLen) := hm9
  clear hap9 own9 hg9 hO8 hT8 hb8 hB8 hg8 HT7 HO7 hB9 hm9
  go_wp2_with (first | (at_builtin; refine wpList_append_run rfl (.tmp 28) (.tmp 30) 24 rfl _ _ _ _ rfl rfl HA9.out ?_) | refine wpList_load_row rfl 64 _ rfl w.heap.size rfl 64 _ (0, 0) _ HT9.out.s Try.underlying64 rfl IS.out ?_)
  clear HA9
  refine (tagKey_any s key nonce hs w9).mono ?_
  rintro e w10 ⟨rfl, hb10⟩
  have HT10 : Hid (TK w s w10) := HT9.out.later (hb10.mono HT9.out.size)
  have HB10 : Hid (Byt w10 a9 (n5 + 8 + 8) (tagged ad ct)) := HB9.out.later hb10
  obtain ⟨KK, hKK⟩ : ∃ KK, (blk key 0#32 nonce).take 32 = KK := ⟨_, rfl⟩
  have hKl : KK.length = 32 := by rw [← hKK]; simp [blk_length]
  obtain ⟨T, hT⟩ : ∃ T, aeadTag key nonce ad ct = T := ⟨_, rfl⟩
  have hTl : T.length = 16 := by rw [← hT, aeadTag_length]
  have HTT : Hid (tag KK (tagged ad ct) = T) := by rw [← hKK]; exact hT
  have HTa : Hid (aeadTag key nonce ad ct = T) := hT
  rw [hKK]
  clear hb10 HT9 HB9 hKK hT
  go_wp2_with fail
  refine (sum_any KK a9 (n5 + 8 + 8) c9 _ w10 hKl HB10.out (by omega) hc9 Hm9.out).mono ?_
  rintro e w11 ⟨rfl, hb11⟩
  rw [HTT.out]
  have hT11 := HT10.out.later (hb11.mono HT10.out.size)
  have hst := store_row w11 (w.heap.size + 1) _ _ (T.map bv) hT11.res (by simp [hTl]) (bv_oneCell T)
  have hrow := setRow_heap w11 (w.heap.size + 1) _ (T.map bv).toArray _ _ hT11.res
  have HBel : Hid (Below w.heap.size w (w11.setRow (w.heap.size + 1) (T.map bv).toArray)) := below_setRow hT11.bel (by omega) _
  obtain ⟨W4, hW4⟩ : ∃ W4, w11.setRow (w.heap.size + 1) (T.map bv).toArray = W4 := ⟨_, rfl⟩
  rw [hW4] at hst hrow HBel
  have HRow : Hid (W4.heap[w.heap.size + 1]? = some (.cells (T.map bv).toArray 66 (0, 0))) := hrow
  have IT : Hid ((Try.prog.info? 66).map (·.size) = some (T.map bv).toArray.size) := atag_info T hTl
  clear hrow hW4 hT11 hb11 HT10 HB10
  go_wp2
  (try simp only [Exit.inBlock, Exit.then])
  refine bodyPost_ret (results_cell_row rfl _ _ (w.heap.size + 1) 66 _ (0, 0) _ rfl HRow.out Try.underlying66 rfl IT.out) rfl ?_
  exact ⟨by rw [HTa.out], HBel.out⟩
end Go.Proofs.Ytcnihgjibiidpaa
