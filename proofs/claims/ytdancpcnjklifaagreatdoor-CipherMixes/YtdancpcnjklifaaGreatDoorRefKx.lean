/- Several texts laid together. -/
import Derived.Test.YtdancpcnjklifaaGreatDoorRef1
import Derived.Test.YtdancpcnjklifaaGreatDoorBase
import Derived.Test.YtdancpcnjklifaaGreatDoorRefBx
import Derived.Test.YtdancpcnjklifaaGreatDoorMathX
/- The walk over the document's Xor: whose memory it answers. -/
namespace Go.Proofs.YtdancpcnjklifaaGreatDoor
set_option linter.unusedVariables false
set_option maxRecDepth 100000
open Go.RowKit

set_option maxHeartbeats 400000 in
set_option maxRecDepth 100000 in
theorem refXor_own (a b : Option Addr) (len cap lenb capb : Nat) (l m : List UInt8) (w : World) (hA : Byt w a len l) (hB : Byt w b lenb m) (hla : len ≤ 1000000) (hlb : lenb ≤ 1000000) :
    Calls Tryz.prog 57 #[.slice a len cap, .slice b lenb capb] w fun e w' => ∃ v, e = .returned v ∧ Below w.heap.size w w' ∧ w'.ownsRow w.heap.size 5 1 v (min len lenb) ((xorB l m).map bv) := by
  obtain ⟨n, hn⟩ : ∃ n, n = min len lenb := ⟨_, rfl⟩
  rw [← hn]
  have Hn : Hid (n = min len lenb) := hn
  have hn1 : n ≤ len := by omega
  have hn2 : n ≤ lenb := by omega
  have hn3 : len ≤ n ∨ lenb ≤ n := by omega
  clear hn
  go_enter Tryz.func57, Tryz.ntmps57
  go_wp2
  go_loopw [5, 6] (fun v i wr => ∃ (k : Nat) (v' : Value), k ≤ n ∧ i = .int .i64 k ∧ v' = v ∧ Hid (wr.ownsRow w.heap.size 5 1 v' k (((xorB l m).take k).map bv)) ∧ Below w.heap.size w wr) (fun _ i _ => n - (intOf i).toNat)
  case atStart =>
    exact ⟨0, _, Nat.zero_le _, rfl, rfl, World.ownsRow_made w #[] 0 (Nat.le_refl _) (Nat.zero_le _) rfl, (Below.refl _ _).alloc (Nat.le_refl _) _⟩
  case round =>
    obtain ⟨k, v, hk, rfl, hv, hown, hbel⟩ := hrel
    subst hv
    have hlA := hA.1
    have hlB := hB.1
    by_cases hlt : k < n
    · rcases hA.2 with h0 | ⟨ba, offa, rfl, hca⟩
      · omega
      rcases hB.2 with h0 | ⟨bb, offb, rfl, hcb⟩
      · omega
      have hca' := hca k (by omega)
      have hcb' := hcb k (by omega)
      have hba := World.block_lt_of_cell? w _ hca'
      have hbb := World.block_lt_of_cell? w _ hcb'
      have i1 : (k : Int) < (len : Int) := by omega
      have i2 : (k : Int) < (lenb : Int) := by omega
      go_wp2
      refine wp_region_sched' (G := Below w.heap.size) (by kernel_rfl) (Below.refl _) (fun _ _ _ => Below.trans) (by kernel_rfl) [(0, true), (1, true), (2, true), (3, true), (4, true), (5, true), (6, true), (7, true), (8, true), (9, true), (10, true), (11, true), (12, true), (13, true), (14, true), (15, true), (16, true), (17, true), (18, true), (19, true), (20, false), (21, false), (22, true)] rfl (by kernel_rfl) ?_
      intro KK hKK
      have hwr : Below w.heap.size w wr.drew := hbel.drew
      obtain ⟨W, hW⟩ : ∃ W, wr.drew = W := ⟨_, rfl⟩
      rw [hW]
      rw [hW] at hwr
      have hld1 : ∀ w', Below w.heap.size W w' → w'.cell? ⟨ba, offa + k, none⟩ = some (.int .u8 ((at8 l k).toNat : Int)) := fun w' h => by
        rw [(hwr.trans h).cell (p := ⟨ba, offa + k, none⟩) hba]; exact hca'
      have hld2 : ∀ w', Below w.heap.size W w' → w'.cell? ⟨bb, offb + k, none⟩ = some (.int .u8 ((at8 m k).toNat : Int)) := fun w' h => by
        rw [(hwr.trans h).cell (p := ⟨bb, offb + k, none⟩) hbb]; exact hcb'
      iterate 20 (refine sched_take rfl (by rfl) (v := ?_) ?_ ?_; rotate_left; (intro w' hw'; have q1 := hld1 w' hw'; have q2 := hld2 w' hw'; go_simp; with_reducible rfl); go_simp)
      have hownW : W.ownsRow w.heap.size 5 1 v k (((xorB l m).take k).map bv) := by rw [← hW]; exact hown.out
      have hone : Byt (W.alloc (.cells #[bv (at8 l k ^^^ at8 m k)] 5)) (some ⟨W.heap.size, 0, none⟩) 1 [at8 l k ^^^ at8 m k] := byt_lit _ [_] W.heap.size _ _ _ (heap_alloc_new W _) rfl
      obtain ⟨v2, w2, hap, hs2, hgr⟩ := append_bytes (W.alloc (.cells #[bv (at8 l k ^^^ at8 m k)] 5)) w.heap.size v k _ (hownW.alloc _) ⟨W.heap.size, 0, none⟩ 1 1 _ hone (by have := hwr.size; simp; omega) (by omega)
      have hG2 : Below w.heap.size (W.alloc (.cells #[bv (at8 l k ^^^ at8 m k)] 5)) w2 := (Below.refl _ _).grown hgr (by have := hwr.size; simp; omega) (fun j hj => (hownW.lt j hj).1)
      refine sched_val rfl (by rfl) (v := .slice (some ⟨W.heap.size, 0, none⟩) 1 1) (w' := W.alloc (.cells #[bv (at8 l k ^^^ at8 m k)] 5)) ?_ ((Below.refl _ _).alloc hwr.size _) ?_
      · rw [bv, ← or_sub_and]
        go_simp
      · refine sched_append rfl (by rfl) rfl (by rfl) (by rfl) hap hG2 ?_
        go_simp
        refine sched_take rfl (by rfl) (v := ?_) ?_ ?_
        rotate_left
        · intro w' hw'; go_simp; with_reducible rfl
        go_simp
        have hb2 : Below w.heap.size w w2 := hwr.trans (((Below.refl _ _).alloc hwr.size _).trans hG2)
        have hs3 : Hid (w2.ownsRow w.heap.size 5 1 v2 (k + 1) (((xorB l m).take (k + 1)).map bv)) := by
          rw [take_at _ _ (by rw [xorB_length]; omega), xorB_at _ _ _ (by omega) (by omega)]
          exact hs2
        clear hs2 hap hgr hld1 hld2 hownW hca hcb hG2 hone hown
        refine sched_done hKK ?_
        go_wp2
        exact ⟨⟨k + 1, v2, by omega, by go_num, rfl, hs3, hb2⟩, by simp [intOf]; omega⟩
    · have ek : k = n := by omega
      subst ek
      have hf := hown.out
      rw [List.take_of_length_le (by rw [xorB_length, hlA, hlB, ← Hn.out]; exact Nat.le_refl _)] at hf
      have HF : Hid (wr.ownsRow w.heap.size 5 1 v k ((xorB l m).map bv)) := hf
      clear hf hown
      by_cases hk2 : (k : Int) < (len : Int)
      · have hk3 : ¬ (k : Int) < (lenb : Int) := by omega
        go_wp2
        go_ret
        exact ⟨v, rfl, hbel, HF.out⟩
      · go_wp2
        go_ret
        exact ⟨v, rfl, hbel, HF.out⟩
end Go.Proofs.YtdancpcnjklifaaGreatDoor

/- The walks over the document's Mac and Derive (kdf). -/
namespace Go.Proofs.YtdancpcnjklifaaGreatDoor
set_option linter.unusedVariables false
set_option maxRecDepth 100000
open Go.RowKit

theorem replicate_snoc (n : Nat) (c : UInt8) : List.replicate n c ++ [c] = List.replicate (n + 1) c := by rw [List.replicate_succ']
set_option maxHeartbeats 400000 in
set_option maxRecDepth 100000 in
theorem refAll_any (c : UInt8) (w : World) :
    Calls Tryz.prog 58 #[.int .u8 (c.toNat : Int)] w fun e w' => ∃ v, e = .returned v ∧ Below w.heap.size w w' ∧ w'.ownsRow w.heap.size 5 1 v 64 ((allB c).map bv) := by
  go_enter Tryz.func58, Tryz.ntmps58
  go_wp2
  go_loopw [3, 4] (fun v i wr => ∃ (k : Nat) (v' : Value), k ≤ 64 ∧ i = .int .i64 k ∧ v' = v ∧ Hid (wr.ownsRow w.heap.size 5 1 v' k ((List.replicate k c).map bv)) ∧ Hid (Below w.heap.size w wr)) (fun _ i _ => 64 - (intOf i).toNat)
  case atStart => exact ⟨0, _, by omega, rfl, rfl, World.ownsRow_made w #[] 0 (Nat.le_refl _) (Nat.zero_le _) rfl, (Below.refl _ _).alloc (Nat.le_refl _) _⟩
  case round =>
    obtain ⟨k, v, hk, rfl, hv, hO, hW⟩ := hrel
    subst hv
    by_cases hlt : k < 64
    · have hki : (k : Int) < 64 := by omega
      have hone : Byt (wr.alloc (.cells #[.int .u8 (c.toNat : Int)] 5)) (some ⟨wr.heap.size, 0, none⟩) 1 [c] := byt_lit _ [c] wr.heap.size _ _ _ (heap_alloc_new wr _) rfl
      obtain ⟨v4, w4, hap4, own4, hg4⟩ := append_bytes (wr.alloc (.cells #[.int .u8 (c.toNat : Int)] 5)) w.heap.size v k _ (hO.out.alloc _) ⟨wr.heap.size, 0, none⟩ 1 1 [c] hone (by have := hW.out.size; simp; omega) (by omega)
      rw [replicate_snoc] at own4
      have HO4 : Hid (w4.ownsRow w.heap.size 5 1 v4 (k + 1) ((List.replicate (k + 1) c).map bv)) := own4
      have HW4 : Hid (Below w.heap.size w w4) := (hW.out.alloc hW.out.size _).grown hg4 (by have := hW.out.size; simp; omega) (fun j hj => (hO.out.lt j hj).1)
      have HA4 : Hid ((Builtin.append_ #[28, 28] 28 #[v, .slice (some ⟨wr.heap.size, 0, none⟩) 1 1]).run Tryz.prog (wr.alloc (.cells #[.int .u8 (c.toNat : Int)] 5)) = .ok v4 w4) := hap4
      clear hap4 own4 hg4 hone hO hW
      go_wp2_with (at_builtin; refine wpList_append_run rfl (.tmp 10) (.tmp 12) 28 rfl _ _ _ _ rfl rfl HA4.out ?_)
      exact ⟨⟨k + 1, v4, by omega, by go_num, rfl, HO4, HW4⟩, by simp [intOf]; omega⟩
    · have ek : k = 64 := by omega
      have hki : ¬ (k : Int) < 64 := by omega
      have HO4 : Hid (wr.ownsRow w.heap.size 5 1 v 64 ((allB c).map bv)) := by rw [ek] at hO; exact hO
      clear hO
      go_wp2
      go_ret
      exact ⟨v, rfl, hW.out, HO4.out⟩

/-- A key, while 0s are laid behind it. -/
structure KP (w : World) (a : Option Addr) (n cap : Nat) (l : List UInt8) (W : World) : Prop where
  seg : Seg W 5 a n cap (l.map bv)
  isnew : ∀ j, blockOf a = some j → w.heap.size ≤ j
  bel : Below w.heap.size w W
theorem KP.app {w W : World} {a : Option Addr} {n cap : Nat} {l : List UInt8} (t : KP w a n cap l W) (hn : n ≤ 1000) :
    ∃ a' cap' w2, (Builtin.append_ #[28, 28] 28 #[.slice a n cap, .slice (some ⟨W.heap.size, 0, none⟩) 1 1]).run Tryz.prog (W.alloc (.cells #[.int .u8 0] 5)) = .ok (.slice a' (n + 1) cap') w2 ∧ KP w a' (n + 1) cap' (l ++ [0]) w2 := by
  obtain ⟨i0, hi, hz0, hz1, hz2⟩ := info_parts Tryz.infoU8
  obtain ⟨a', cap', w2, hap, hs2, hgr, hfr, hsz2⟩ := append_seg (P := Tryz.prog) 28 28 5 i0 (.int .u8 0) 1 Tryz.underlying28 hi hz0 hz1 hz2 rfl W a n cap _ t.seg (bv 0) rfl (by unfold maxLen; omega) (by omega)
  refine ⟨a', cap', w2, hap, by rw [List.map_append]; exact hs2, ?_, t.bel.grown hgr t.bel.size t.isnew⟩
  intro j hj
  rcases hfr with e | e
  · exact t.isnew j (by rw [← e]; exact hj)
  · have := e j hj; have := t.bel.size; omega
theorem Seg.cap_le {w : World} {e : TypeId} {a : Option Addr} {n cap : Nat} {vs : List Value} (h : Seg w e a n cap vs) : n ≤ cap := by
  rcases h.2 with ⟨_, h1, h2⟩ | ⟨_, _, _, _, _, _, h0, _⟩ <;> omega
end Go.Proofs.YtdancpcnjklifaaGreatDoor

/- The walk over the document's Mac (kdf). -/
namespace Go.Proofs.YtdancpcnjklifaaGreatDoor
set_option linter.unusedVariables false
set_option maxRecDepth 100000
open Go.RowKit

theorem KP.later {w W W' : World} {a : Option Addr} {n cap : Nat} {l : List UInt8} (t : KP w a n cap l W) (hb : Below W.heap.size W W') : KP w a n cap l W' :=
  ⟨t.seg.later hb, t.isnew, t.bel.trans (hb.mono t.bel.size)⟩
set_option maxHeartbeats 2000000 in
set_option maxRecDepth 100000 in
theorem refMac_any (a : Option Addr) (klen kcap : Nat) (key : List UInt8) (b : Option Addr) (blen bcap : Nat) (bl : List UInt8) (w : World) (hK : Byt w a klen key) (hknil : a = none → kcap = 0) (hkm : klen ≤ 5000) (hkc : klen ≤ kcap) (hB : Byt w b blen bl) (hbnil : b = none → bcap = 0) (hbm : blen ≤ 5000) (hbc : blen ≤ bcap) :
    Calls Tryz.prog 40 #[.slice a klen kcap, .slice b blen bcap] w fun e w' => ∃ a' cap', e = .returned (.slice a' 32 cap') ∧ Below w.heap.size w w' ∧ Seg w' 5 a' 32 cap' ((macB key bl).map bv) ∧ ∀ j, blockOf a' = some j → w.heap.size ≤ j := by
  have hkl := hK.1
  have HB : Hid (Byt w b blen bl) := hB
  obtain ⟨a2, cap2, w2, hap, hs2, hb2, hbl2⟩ := append_all w a klen kcap key hK hknil (by omega)
  have HP2 : Hid (KP w a2 klen cap2 key w2) := ⟨hs2, hbl2, hb2⟩
  have HA2 : Hid ((Builtin.append_ #[28, 28] 28 #[.slice (some ⟨w.heap.size, 0, none⟩) 0 0, .slice a klen kcap]).run Tryz.prog (w.alloc (.cells #[] 5)) = .ok (.slice a2 klen cap2) w2) := hap
  clear hap hs2 hb2 hbl2 hK hB
  have hks := kshort_length key
  by_cases hlong : 64 < klen
  · have hli : (64 : Int) < (klen : Int) := by omega
    have eks : kshort key = blakeB key := by unfold kshort; rw [if_pos (by omega)]
    have hkl32 : (kshort key).length = 32 := by rw [eks, blakeB_length]
    have hnil2 : a2 = none → cap2 = 0 := fun e => by
      rcases HP2.out.seg.2 with ⟨_, h0, _⟩ | ⟨_, _, _, e2, _⟩
      · omega
      · rw [e] at e2; cases e2
    go_enter Tryz.func40, Tryz.ntmps40
    go_wp2_with (at_builtin; refine wpList_append_run rfl (.tmp 7) (.tmp 8) 28 rfl _ _ _ _ rfl rfl HA2.out ?_)
    clear HA2
    refine (refSumB_any a2 klen cap2 key w2 (Byt.ofSeg HP2.out.seg) hnil2 (by omega) HP2.out.seg.cap_le).mono ?_
    rintro e w3 ⟨a3, c3, rfl, hb3, hs3, hk3⟩
    have HK0 : Hid (KP w a3 32 c3 (kshort key ++ List.replicate (32 - (kshort key).length) 0) w3) := by
      rw [hkl32, Nat.sub_self, List.replicate_zero, List.append_nil, eks]
      exact ⟨hs3, fun j hj => Nat.le_trans HP2.out.bel.size (hk3 j hj), HP2.out.bel.trans (hb3.mono HP2.out.bel.size)⟩
    clear hb3 hs3 hk3 HP2 eks
    go_wp2
    go_loopw [5] (fun v wr => ∃ (n : Nat) (a' : Option Addr) (c' : Nat), v = .slice a' n c' ∧ (kshort key).length ≤ n ∧ n ≤ 64 ∧ Hid (KP w a' n c' (kshort key ++ List.replicate (n - (kshort key).length) 0) wr)) (fun v _ => 64 - lenOf v)
    case atStart => exact ⟨_, _, _, rfl, by omega, by omega, HK0⟩
    case round =>
      clear HK0
      obtain ⟨n, a3, c3, rfl, hn1, hn2, hP⟩ := hrel
      by_cases hn : n < 64
      · have hni : (n : Int) < 64 := by omega
        obtain ⟨a4, c4, w4, hap4, hP4⟩ := hP.out.app (by omega)
        have HP4 : Hid (KP w a4 (n + 1) c4 (kshort key ++ List.replicate (n + 1 - (kshort key).length) 0) w4) := by
          have e : kshort key ++ List.replicate (n + 1 - (kshort key).length) 0 = kshort key ++ List.replicate (n - (kshort key).length) 0 ++ [0] := by
            rw [show n + 1 - (kshort key).length = (n - (kshort key).length) + 1 by omega, List.replicate_succ', List.append_assoc]
          rw [e]; exact hP4
        have HA4 : Hid _ := hap4
        clear hap4 hP4 hP
        go_wp2_with (at_builtin; refine wpList_append_run rfl (.tmp 18) (.tmp 19) 28 rfl _ _ _ _ rfl rfl HA4.out ?_)
        exact ⟨⟨n + 1, a4, c4, rfl, by omega, by omega, HP4⟩, by show 64 - (n + 1) < 64 - n; omega⟩
      · have e64 : n = 64 := by omega
        have hni : ¬ (n : Int) < 64 := by omega
        have hP' : KP w a3 64 c3 (kpad key) wr := by
          have := hP.out
          rw [e64] at this
          exact this
        subst e64
        have HP : Hid (KP w a3 64 c3 (kpad key) wr) := hP'
        clear hP hP'
        have HBr : Hid (Byt wr b blen bl) := HB.out.later HP.out.bel
        go_wp2_with fail
        refine (refAll_any 0x36 wr).mono ?_
        rintro e w5 ⟨v5, rfl, hb5, ho5⟩
        obtain ⟨a5, c5, rfl, hB5, hnc5, hcm5, hnil5⟩ := own_parts ho5
        have HP5 : Hid (KP w a3 64 c3 (kpad key) w5) := HP.out.later hb5
        have HB5 : Hid (Byt w5 a5 64 (allB 0x36)) := hB5
        have HBb5 : Hid (Byt w5 b blen bl) := HBr.out.later hb5
        clear hb5 ho5 hB5 HP HBr
        go_wp2_with fail
        refine (refXor_own a3 a5 64 c3 64 c5 (kpad key) (allB 0x36) w5 (Byt.ofSeg HP5.out.seg) HB5.out (by omega) (by omega)).mono ?_
        rintro e w6 ⟨v6, rfl, hb6, ho6⟩
        obtain ⟨v7, w7, hap7, ho7, hg7⟩ := append_own_any w6 w5.heap.size v6 (min 64 64) _ ho6 b blen bcap bl (HBb5.out.later hb6) hbnil (by have := hb6.size; omega) (by omega)
        obtain ⟨a7, c7, rfl, hB7, hnc7, hcm7, hnil7⟩ := own_parts ho7
        have hbel7 : Below w5.heap.size w5 w7 := hb6.grown hg7 hb6.size (fun k hk => (ho6.lt k hk).1)
        have HP7 : Hid (KP w a3 64 c3 (kpad key) w7) := HP5.out.later hbel7
        have HB7 : Hid (Byt w7 a7 (64 + blen) (kin key bl)) := hB7
        have HBb7 : Hid (Byt w7 b blen bl) := HBb5.out.later hbel7
        have HA7 : Hid ((Builtin.append_ #[28, 28] 28 #[v6, .slice b blen bcap]).run Tryz.prog w6 = .ok (.slice a7 (64 + blen) c7) w7) := hap7
        clear hap7 ho7 hg7 hB7 hbel7 hb6 ho6 HP5 HB5 HBb5
        go_wp2_with (at_builtin; refine wpList_append_run rfl (.tmp 23) (.tmp 24) 28 rfl _ _ _ _ rfl rfl HA7.out ?_)
        clear HA7
        refine (refSumB_any a7 (64 + blen) c7 (kin key bl) w7 HB7.out hnil7 (by omega) hnc7).mono ?_
        rintro e w8 ⟨a8, c8, rfl, hb8, hs8, hk8⟩
        have HP8 : Hid (KP w a3 64 c3 (kpad key) w8) := HP7.out.later hb8
        have HS8 : Hid (Seg w8 5 a8 32 c8 ((blakeB (kin key bl)).map bv)) := hs8
        clear hb8 hs8 hk8 HP7 HB7 HBb7
        go_wp2_with fail
        refine (refAll_any 0x5c w8).mono ?_
        rintro e w9 ⟨v9, rfl, hb9, ho9⟩
        obtain ⟨a9, c9, rfl, hB9, hnc9, hcm9, hnil9⟩ := own_parts ho9
        have HP9 : Hid (KP w a3 64 c3 (kpad key) w9) := HP8.out.later hb9
        have HB9 : Hid (Byt w9 a9 64 (allB 0x5c)) := hB9
        have HS9 : Hid (Seg w9 5 a8 32 c8 ((blakeB (kin key bl)).map bv)) := HS8.out.later hb9
        clear hb9 ho9 hB9 HP8 HS8
        go_wp2_with fail
        refine (refXor_own a3 a9 64 c3 64 c9 (kpad key) (allB 0x5c) w9 (Byt.ofSeg HP9.out.seg) HB9.out (by omega) (by omega)).mono ?_
        rintro e w10 ⟨v10, rfl, hb10, ho10⟩
        have hnil8 : a8 = none → c8 = 0 := fun e => by
          rcases HS9.out.2 with ⟨_, h0, _⟩ | ⟨_, _, _, e2, _⟩
          · omega
          · rw [e] at e2; cases e2
        obtain ⟨v11, w11, hap11, ho11, hg11⟩ := append_own_any w10 w9.heap.size v10 (min 64 64) _ ho10 a8 32 c8 (blakeB (kin key bl)) (Byt.ofSeg (HS9.out.later hb10)) hnil8 (by have := hb10.size; omega) (by omega)
        obtain ⟨a11, c11, rfl, hB11, hnc11, hcm11, hnil11⟩ := own_parts ho11
        have hbel11 : Below w9.heap.size w9 w11 := hb10.grown hg11 hb10.size (fun k hk => (ho10.lt k hk).1)
        have HW11 : Hid (Below w.heap.size w w11) := (HP9.out.later hbel11).bel
        have HB11 : Hid (Byt w11 a11 96 (kout key bl)) := hB11
        have HA11 : Hid ((Builtin.append_ #[28, 28] 28 #[v10, .slice a8 32 c8]).run Tryz.prog w10 = .ok (.slice a11 96 c11) w11) := hap11
        clear hap11 ho11 hg11 hB11 hbel11 hb10 ho10 HP9 HB9 HS9
        go_wp2_with (at_builtin; refine wpList_append_run rfl (.tmp 29) (.tmp 30) 28 rfl _ _ _ _ rfl rfl HA11.out ?_)
        clear HA11
        refine (refSumB_any a11 96 c11 (kout key bl) w11 HB11.out hnil11 (by omega) hnc11).mono ?_
        rintro e w12 ⟨a12, c12, rfl, hb12, hs12, hk12⟩
        have HS12 : Hid (Seg w12 5 a12 32 c12 ((macB key bl).map bv)) := hs12
        have HW12 : Hid (Below w.heap.size w w12) := HW11.out.trans (hb12.mono HW11.out.size)
        have HK12 : Hid (∀ j, blockOf a12 = some j → w.heap.size ≤ j) := fun j hj => Nat.le_trans HW11.out.size (hk12 j hj)
        clear hb12 hs12 hk12 HW11 HB11
        go_wp2
        go_ret
        exact ⟨a12, c12, rfl, HW12.out, HS12.out, HK12.out⟩
  · have hli : ¬ (64 : Int) < (klen : Int) := by omega
    have eks : kshort key = key := by unfold kshort; rw [if_neg (by omega)]
    have hkl32 : (kshort key).length = klen := by rw [eks, hkl]
    go_enter Tryz.func40, Tryz.ntmps40
    have HK0 : Hid (KP w a2 klen cap2 (kshort key ++ List.replicate (klen - (kshort key).length) 0) w2) := by
      rw [hkl32, Nat.sub_self, List.replicate_zero, List.append_nil, eks]
      exact HP2
    clear HP2 eks
    go_wp2_with (at_builtin; refine wpList_append_run rfl (.tmp 7) (.tmp 8) 28 rfl _ _ _ _ rfl rfl HA2.out ?_)
    clear HA2
    go_loopw [5] (fun v wr => ∃ (n : Nat) (a' : Option Addr) (c' : Nat), v = .slice a' n c' ∧ (kshort key).length ≤ n ∧ n ≤ 64 ∧ Hid (KP w a' n c' (kshort key ++ List.replicate (n - (kshort key).length) 0) wr)) (fun v _ => 64 - lenOf v)
    case atStart => exact ⟨_, _, _, rfl, by omega, by omega, HK0⟩
    case round =>
      clear HK0
      obtain ⟨n, a3, c3, rfl, hn1, hn2, hP⟩ := hrel
      by_cases hn : n < 64
      · have hni : (n : Int) < 64 := by omega
        obtain ⟨a4, c4, w4, hap4, hP4⟩ := hP.out.app (by omega)
        have HP4 : Hid (KP w a4 (n + 1) c4 (kshort key ++ List.replicate (n + 1 - (kshort key).length) 0) w4) := by
          have e : kshort key ++ List.replicate (n + 1 - (kshort key).length) 0 = kshort key ++ List.replicate (n - (kshort key).length) 0 ++ [0] := by
            rw [show n + 1 - (kshort key).length = (n - (kshort key).length) + 1 by omega, List.replicate_succ', List.append_assoc]
          rw [e]; exact hP4
        have HA4 : Hid _ := hap4
        clear hap4 hP4 hP
        go_wp2_with (at_builtin; refine wpList_append_run rfl (.tmp 18) (.tmp 19) 28 rfl _ _ _ _ rfl rfl HA4.out ?_)
        exact ⟨⟨n + 1, a4, c4, rfl, by omega, by omega, HP4⟩, by show 64 - (n + 1) < 64 - n; omega⟩
      · have e64 : n = 64 := by omega
        have hni : ¬ (n : Int) < 64 := by omega
        have hP' : KP w a3 64 c3 (kpad key) wr := by
          have := hP.out
          rw [e64] at this
          exact this
        subst e64
        have HP : Hid (KP w a3 64 c3 (kpad key) wr) := hP'
        clear hP hP'
        have HBr : Hid (Byt wr b blen bl) := HB.out.later HP.out.bel
        go_wp2_with fail
        refine (refAll_any 0x36 wr).mono ?_
        rintro e w5 ⟨v5, rfl, hb5, ho5⟩
        obtain ⟨a5, c5, rfl, hB5, hnc5, hcm5, hnil5⟩ := own_parts ho5
        have HP5 : Hid (KP w a3 64 c3 (kpad key) w5) := HP.out.later hb5
        have HB5 : Hid (Byt w5 a5 64 (allB 0x36)) := hB5
        have HBb5 : Hid (Byt w5 b blen bl) := HBr.out.later hb5
        clear hb5 ho5 hB5 HP HBr
        go_wp2_with fail
        refine (refXor_own a3 a5 64 c3 64 c5 (kpad key) (allB 0x36) w5 (Byt.ofSeg HP5.out.seg) HB5.out (by omega) (by omega)).mono ?_
        rintro e w6 ⟨v6, rfl, hb6, ho6⟩
        obtain ⟨v7, w7, hap7, ho7, hg7⟩ := append_own_any w6 w5.heap.size v6 (min 64 64) _ ho6 b blen bcap bl (HBb5.out.later hb6) hbnil (by have := hb6.size; omega) (by omega)
        obtain ⟨a7, c7, rfl, hB7, hnc7, hcm7, hnil7⟩ := own_parts ho7
        have hbel7 : Below w5.heap.size w5 w7 := hb6.grown hg7 hb6.size (fun k hk => (ho6.lt k hk).1)
        have HP7 : Hid (KP w a3 64 c3 (kpad key) w7) := HP5.out.later hbel7
        have HB7 : Hid (Byt w7 a7 (64 + blen) (kin key bl)) := hB7
        have HBb7 : Hid (Byt w7 b blen bl) := HBb5.out.later hbel7
        have HA7 : Hid ((Builtin.append_ #[28, 28] 28 #[v6, .slice b blen bcap]).run Tryz.prog w6 = .ok (.slice a7 (64 + blen) c7) w7) := hap7
        clear hap7 ho7 hg7 hB7 hbel7 hb6 ho6 HP5 HB5 HBb5
        go_wp2_with (at_builtin; refine wpList_append_run rfl (.tmp 23) (.tmp 24) 28 rfl _ _ _ _ rfl rfl HA7.out ?_)
        clear HA7
        refine (refSumB_any a7 (64 + blen) c7 (kin key bl) w7 HB7.out hnil7 (by omega) hnc7).mono ?_
        rintro e w8 ⟨a8, c8, rfl, hb8, hs8, hk8⟩
        have HP8 : Hid (KP w a3 64 c3 (kpad key) w8) := HP7.out.later hb8
        have HS8 : Hid (Seg w8 5 a8 32 c8 ((blakeB (kin key bl)).map bv)) := hs8
        clear hb8 hs8 hk8 HP7 HB7 HBb7
        go_wp2_with fail
        refine (refAll_any 0x5c w8).mono ?_
        rintro e w9 ⟨v9, rfl, hb9, ho9⟩
        obtain ⟨a9, c9, rfl, hB9, hnc9, hcm9, hnil9⟩ := own_parts ho9
        have HP9 : Hid (KP w a3 64 c3 (kpad key) w9) := HP8.out.later hb9
        have HB9 : Hid (Byt w9 a9 64 (allB 0x5c)) := hB9
        have HS9 : Hid (Seg w9 5 a8 32 c8 ((blakeB (kin key bl)).map bv)) := HS8.out.later hb9
        clear hb9 ho9 hB9 HP8 HS8
        go_wp2_with fail
        refine (refXor_own a3 a9 64 c3 64 c9 (kpad key) (allB 0x5c) w9 (Byt.ofSeg HP9.out.seg) HB9.out (by omega) (by omega)).mono ?_
        rintro e w10 ⟨v10, rfl, hb10, ho10⟩
        have hnil8 : a8 = none → c8 = 0 := fun e => by
          rcases HS9.out.2 with ⟨_, h0, _⟩ | ⟨_, _, _, e2, _⟩
          · omega
          · rw [e] at e2; cases e2
        obtain ⟨v11, w11, hap11, ho11, hg11⟩ := append_own_any w10 w9.heap.size v10 (min 64 64) _ ho10 a8 32 c8 (blakeB (kin key bl)) (Byt.ofSeg (HS9.out.later hb10)) hnil8 (by have := hb10.size; omega) (by omega)
        obtain ⟨a11, c11, rfl, hB11, hnc11, hcm11, hnil11⟩ := own_parts ho11
        have hbel11 : Below w9.heap.size w9 w11 := hb10.grown hg11 hb10.size (fun k hk => (ho10.lt k hk).1)
        have HW11 : Hid (Below w.heap.size w w11) := (HP9.out.later hbel11).bel
        have HB11 : Hid (Byt w11 a11 96 (kout key bl)) := hB11
        have HA11 : Hid ((Builtin.append_ #[28, 28] 28 #[v10, .slice a8 32 c8]).run Tryz.prog w10 = .ok (.slice a11 96 c11) w11) := hap11
        clear hap11 ho11 hg11 hB11 hbel11 hb10 ho10 HP9 HB9 HS9
        go_wp2_with (at_builtin; refine wpList_append_run rfl (.tmp 29) (.tmp 30) 28 rfl _ _ _ _ rfl rfl HA11.out ?_)
        clear HA11
        refine (refSumB_any a11 96 c11 (kout key bl) w11 HB11.out hnil11 (by omega) hnc11).mono ?_
        rintro e w12 ⟨a12, c12, rfl, hb12, hs12, hk12⟩
        have HS12 : Hid (Seg w12 5 a12 32 c12 ((macB key bl).map bv)) := hs12
        have HW12 : Hid (Below w.heap.size w w12) := HW11.out.trans (hb12.mono HW11.out.size)
        have HK12 : Hid (∀ j, blockOf a12 = some j → w.heap.size ≤ j) := fun j hj => Nat.le_trans HW11.out.size (hk12 j hj)
        clear hb12 hs12 hk12 HW11 HB11
        go_wp2
        go_ret
        exact ⟨a12, c12, rfl, HW12.out, HS12.out, HK12.out⟩
end Go.Proofs.YtdancpcnjklifaaGreatDoor

/- The walk over the document's Derive (kdf). -/
namespace Go.Proofs.YtdancpcnjklifaaGreatDoor
set_option linter.unusedVariables false
set_option maxRecDepth 100000
open Go.RowKit

/-- 'append(append([]byte{}, l...), x)'. -/
theorem app_tail (w : World) (a : Option Addr) (len cap : Nat) (l : List UInt8) (hS : Byt w a len l) (hnil : a = none → cap = 0) (hm : len ≤ 5000) (x : UInt8) :
    ∃ v3 w3 v4 w4, (Builtin.append_ #[28, 28] 28 #[.slice (some ⟨w.heap.size, 0, none⟩) 0 0, .slice a len cap]).run Tryz.prog (w.alloc (.cells #[] 5)) = .ok v3 w3 ∧
      (Builtin.append_ #[28, 28] 28 #[v3, .slice (some ⟨w3.heap.size, 0, none⟩) 1 1]).run Tryz.prog (w3.alloc (.cells #[.int .u8 (x.toNat : Int)] 5)) = .ok v4 w4 ∧ w4.ownsRow w.heap.size 5 1 v4 (len + 1) ((l ++ [x]).map bv) ∧ Below w.heap.size w w4 := by
  have hb0 : Below w.heap.size w (w.alloc (.cells #[] 5)) := (Below.refl _ _).alloc (Nat.le_refl _) _
  obtain ⟨v3, w3, hap3, own3, hg3⟩ := append_own_any (w.alloc (.cells #[] 5)) w.heap.size (.slice (some ⟨w.heap.size, 0, none⟩) 0 0) 0 [] (World.ownsRow_made w #[] 0 (Nat.le_refl _) (Nat.zero_le _) rfl) a len cap l (hS.later hb0) hnil (by simp) (by omega)
  have bel3 : Below w.heap.size w w3 := hb0.grown hg3 (by simp) (fun k hk => by simp [Value.ownBlock] at hk; omega)
  have hone : Byt (w3.alloc (.cells #[.int .u8 (x.toNat : Int)] 5)) (some ⟨w3.heap.size, 0, none⟩) 1 [x] := byt_lit _ [x] w3.heap.size _ _ _ (heap_alloc_new w3 _) rfl
  obtain ⟨v4, w4, hap4, own4, hg4⟩ := append_bytes (w3.alloc (.cells #[.int .u8 (x.toNat : Int)] 5)) w.heap.size v3 _ _ (own3.alloc _) ⟨w3.heap.size, 0, none⟩ 1 1 [x] hone (by have := bel3.size; simp; omega) (by omega)
  rw [Nat.zero_add, List.nil_append] at own4
  exact ⟨v3, w3, v4, w4, hap3, hap4, own4, (bel3.alloc bel3.size _).grown hg4 (by have := bel3.size; simp; omega) (fun k hk => (own3.lt k hk).1)⟩
theorem seg_nil {w : World} {a : Option Addr} {cap : Nat} {vs : List Value} {n : Nat} (h : Seg w 5 a n cap vs) (hn : 0 < n) : a = none → cap = 0 := fun e => by
  rcases h.2 with ⟨_, h0, _⟩ | ⟨_, _, _, e2, _⟩
  · omega
  · rw [e] at e2; cases e2
/-- What Derive has: t, and the keys so far. -/
structure DV (w : World) (at_ : Option Addr) (ct : Nat) (t : List UInt8) (W : World) : Prop where
  t : Seg W 5 at_ 32 ct (t.map bv)
  bel : Below w.heap.size w W
theorem DV.later {w W W' : World} {a : Option Addr} {c : Nat} {t : List UInt8} (h : DV w a c t W) (hb : Below W.heap.size W W') : DV w a c t W' := ⟨h.t.later hb, h.bel.trans (hb.mono h.bel.size)⟩

set_option maxHeartbeats 2000000 in
set_option maxRecDepth 100000 in
theorem refDerive_any (a : Option Addr) (klen kcap : Nat) (key : List UInt8) (b : Option Addr) (blen bcap : Nat) (bl : List UInt8) (w : World) (hK : Byt w a klen key) (hknil : a = none → kcap = 0) (hkm : klen ≤ 5000) (hkc : klen ≤ kcap) (hB : Byt w b blen bl) (hbnil : b = none → bcap = 0) (hbm : blen ≤ 5000) (hbc : blen ≤ bcap) :
    Calls Tryz.prog 23 #[.slice a klen kcap, .slice b blen bcap] w fun e w' => ∃ v, e = .returned v ∧ Below w.heap.size w w' ∧ w'.ownsRow w.heap.size 5 1 v 96 ((der1 key bl ++ der2 key bl ++ der3 key bl).map bv) := by
  have HK : Hid (Byt w a klen key) := hK
  have HB : Hid (Byt w b blen bl) := hB
  clear hK hB
  go_enter Tryz.func23, Tryz.ntmps23
  go_wp2_with fail
  refine (refMac_any a klen kcap key b blen bcap bl w HK.out hknil hkm hkc HB.out hbnil hbm hbc).mono ?_
  rintro e w1 ⟨a1, c1, rfl, hb1, hs1, hk1⟩
  obtain ⟨t, ht⟩ : ∃ t, macB key bl = t := ⟨_, rfl⟩
  obtain ⟨d1, hd1⟩ : ∃ d, der1 key bl = d := ⟨_, rfl⟩
  obtain ⟨d2, hd2⟩ : ∃ d, der2 key bl = d := ⟨_, rfl⟩
  obtain ⟨d3, hd3⟩ : ∃ d, der3 key bl = d := ⟨_, rfl⟩
  have m1 : macB t [1] = d1 := by rw [← hd1, der1, ht]
  have m2 : macB t (d1 ++ [2]) = d2 := by rw [← hd2, der2, ht, hd1]
  have m3 : macB t (d2 ++ [3]) = d3 := by rw [← hd3, der3, ht, hd2]
  have HD : Hid (der1 key bl ++ der2 key bl ++ der3 key bl = d1 ++ d2 ++ d3) := by show _ = _; rw [hd1, hd2, hd3]
  rw [ht] at hs1
  clear ht hd1 hd2 hd3
  have HT1 : Hid (DV w a1 c1 t w1) := ⟨hs1, hb1⟩
  have hn1 := seg_nil hs1 (by omega)
  have hc1 := hs1.cap_le
  clear hb1 hs1 hk1
  have hlit : Byt (w1.alloc (.cells #[.int .u8 1] 5)) (some ⟨w1.heap.size, 0, none⟩) 1 [1] := byt_lit _ [1] w1.heap.size _ _ _ (heap_alloc_new w1 _) rfl
  have HL : Hid (Byt (w1.alloc (.cells #[.int .u8 1] 5)) (some ⟨w1.heap.size, 0, none⟩) 1 [1]) := hlit
  have HT1' : Hid (DV w a1 c1 t (w1.alloc (.cells #[.int .u8 1] 5))) := HT1.out.later ((Below.refl _ _).alloc (Nat.le_refl _) _)
  clear hlit
  go_wp2_with fail
  refine (refMac_any a1 32 c1 t (some ⟨w1.heap.size, 0, none⟩) 1 1 [1] _ (Byt.ofSeg HT1'.out.t) hn1 (by omega) hc1 HL.out (fun e => by cases e) (by omega) (by omega)).mono ?_
  rintro e w2 ⟨a2, c2, rfl, hb2, hs2, hk2⟩
  have hs2' : Seg w2 5 a2 32 c2 ((d1).map bv) := by rw [← m1]; exact hs2
  have HT2 : Hid (DV w a1 c1 t w2) := HT1'.out.later hb2
  have HO2 : Hid (Seg w2 5 a2 32 c2 ((d1).map bv)) := hs2'
  have hn2 := seg_nil hs2' (by omega)
  clear hb2 hs2 hs2' hk2 HT1 HT1' HL
  obtain ⟨v3, w3, v4, w4, hap3, hap4, ho4, hb4⟩ := app_tail w2 a2 32 c2 _ (Byt.ofSeg HO2.out) hn2 (by omega) 2
  obtain ⟨a4, c4, rfl, hB4, hc4, _, hn4⟩ := own_parts ho4
  have HT4 : Hid (DV w a1 c1 t w4) := HT2.out.later hb4
  have HO4 : Hid (Seg w4 5 a2 32 c2 ((d1).map bv)) := HO2.out.later hb4
  have HB4 : Hid (Byt w4 a4 33 (d1 ++ [2])) := hB4
  have HA3 : Hid _ := hap3
  have HA4 : Hid ((Builtin.append_ #[28, 28] 28 #[v3, .slice (some ⟨w3.heap.size, 0, none⟩) 1 1]).run Tryz.prog (w3.alloc (.cells #[.int .u8 2] 5)) = .ok (.slice a4 33 c4) w4) := hap4
  clear hap3 hap4 ho4 hb4 hB4 HT2 HO2
  go_wp2_with (at_builtin; first | refine wpList_append_run rfl (.tmp 16) (.tmp 17) 28 rfl _ _ _ _ rfl rfl HA3.out ?_ | refine wpList_append_run rfl (.tmp 18) (.tmp 19) 28 rfl _ _ _ _ rfl rfl HA4.out ?_)
  clear HA3 HA4
  refine (refMac_any a1 32 c1 t a4 33 c4 (d1 ++ [2]) w4 (Byt.ofSeg HT4.out.t) hn1 (by omega) hc1 HB4.out hn4 (by omega) hc4).mono ?_
  rintro e w5 ⟨a5, c5, rfl, hb5, hs5, hk5⟩
  have hs5' : Seg w5 5 a5 32 c5 ((d2).map bv) := by rw [← m2]; exact hs5
  have HT5 : Hid (DV w a1 c1 t w5) := HT4.out.later hb5
  have HO5 : Hid (Seg w5 5 a2 32 c2 ((d1).map bv)) := HO4.out.later hb5
  have HQ5 : Hid (Seg w5 5 a5 32 c5 ((d2).map bv)) := hs5'
  have hn5 := seg_nil hs5' (by omega)
  clear hb5 hs5 hs5' hk5 HT4 HO4 HB4
  obtain ⟨v6, w6, v7, w7, hap6, hap7, ho7, hb7⟩ := app_tail w5 a5 32 c5 _ (Byt.ofSeg HQ5.out) hn5 (by omega) 3
  obtain ⟨a7, c7, rfl, hB7, hc7, _, hn7⟩ := own_parts ho7
  have HT7 : Hid (DV w a1 c1 t w7) := HT5.out.later hb7
  have HO7 : Hid (Seg w7 5 a2 32 c2 ((d1).map bv)) := HO5.out.later hb7
  have HQ7 : Hid (Seg w7 5 a5 32 c5 ((d2).map bv)) := HQ5.out.later hb7
  have HB7 : Hid (Byt w7 a7 33 (d2 ++ [3])) := hB7
  have HA6 : Hid _ := hap6
  have HA7 : Hid ((Builtin.append_ #[28, 28] 28 #[v6, .slice (some ⟨w6.heap.size, 0, none⟩) 1 1]).run Tryz.prog (w6.alloc (.cells #[.int .u8 3] 5)) = .ok (.slice a7 33 c7) w7) := hap7
  clear hap6 hap7 ho7 hb7 hB7 HT5 HO5 HQ5
  go_wp2_with (at_builtin; first | refine wpList_append_run rfl (.tmp 23) (.tmp 24) 28 rfl _ _ _ _ rfl rfl HA6.out ?_ | refine wpList_append_run rfl (.tmp 25) (.tmp 26) 28 rfl _ _ _ _ rfl rfl HA7.out ?_)
  clear HA6 HA7
  refine (refMac_any a1 32 c1 t a7 33 c7 (d2 ++ [3]) w7 (Byt.ofSeg HT7.out.t) hn1 (by omega) hc1 HB7.out hn7 (by omega) hc7).mono ?_
  rintro e w8 ⟨a8, c8, rfl, hb8, hs8, hk8⟩
  have hs8' : Seg w8 5 a8 32 c8 ((d3).map bv) := by rw [← m3]; exact hs8
  have hn8 := seg_nil hs8' (by omega)
  have hW8 : Below w.heap.size w w8 := (HT7.out.later hb8).bel
  have hO8 := HO7.out.later hb8
  have hQ8 := HQ7.out.later hb8
  have hb0 : Below w8.heap.size w8 (w8.alloc (.cells #[] 5)) := (Below.refl _ _).alloc (Nat.le_refl _) _
  obtain ⟨v9, w9, hap9, own9, hg9⟩ := append_own_any (w8.alloc (.cells #[] 5)) w8.heap.size (.slice (some ⟨w8.heap.size, 0, none⟩) 0 0) 0 [] (World.ownsRow_made w8 #[] 0 (Nat.le_refl _) (Nat.zero_le _) rfl) a2 32 c2 _ (Byt.ofSeg (hO8.later hb0)) hn2 (by simp) (by omega)
  rw [Nat.zero_add, List.nil_append] at own9
  have bel9 : Below w8.heap.size w8 w9 := hb0.grown hg9 (by simp) (fun k hk => by simp [Value.ownBlock] at hk; omega)
  obtain ⟨v10, w10, hap10, own10, hg10⟩ := append_own_any w9 w8.heap.size v9 _ _ own9 a5 32 c5 _ (Byt.ofSeg (hQ8.later bel9)) hn5 bel9.size (by omega)
  have bel10 : Below w8.heap.size w8 w10 := bel9.grown hg10 bel9.size (fun k hk => (own9.lt k hk).1)
  obtain ⟨v11, w11, hap11, own11, hg11⟩ := append_own_any w10 w8.heap.size v10 _ _ own10 a8 32 c8 _ (Byt.ofSeg (hs8'.later bel10)) hn8 bel10.size (by omega)
  have bel11 : Below w8.heap.size w8 w11 := bel10.grown hg11 bel10.size (fun k hk => (own10.lt k hk).1)
  have HO11 : Hid (w11.ownsRow w.heap.size 5 1 v11 96 ((d1 ++ d2 ++ d3).map bv)) := own_lower own11 hW8.size
  have HW11 : Hid (Below w.heap.size w w11) := hW8.trans (bel11.mono hW8.size)
  have HA9 : Hid _ := hap9
  have HA10 : Hid _ := hap10
  have HA11 : Hid _ := hap11
  clear hap9 hap10 hap11 own9 own10 own11 hg9 hg10 hg11 bel9 bel10 bel11 hb0 hQ8 hO8 hW8 hs8 hs8' hb8 hk8 HT7 HO7 HQ7 HB7
  go_wp2_with (at_builtin; first | refine wpList_append_run rfl (.tmp 29) (.tmp 30) 28 rfl _ _ _ _ rfl rfl HA9.out ?_ | refine wpList_append_run rfl (.tmp 31) (.tmp 32) 28 rfl _ _ _ _ rfl rfl HA10.out ?_ | refine wpList_append_run rfl (.tmp 33) (.tmp 34) 28 rfl _ _ _ _ rfl rfl HA11.out ?_)
  go_ret
  exact ⟨v11, rfl, HW11.out, by rw [HD.out]; exact HO11.out⟩
end Go.Proofs.YtdancpcnjklifaaGreatDoor
