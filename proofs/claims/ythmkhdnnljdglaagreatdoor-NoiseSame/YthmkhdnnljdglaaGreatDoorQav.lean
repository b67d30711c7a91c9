import Derived.Test.YthmkhdnnljdglaaGreatDoorQaj
import Derived.Test.YthmkhdnnljdglaaGreatDoorQac
import Derived.Deep.QuietTactic
import Derived.BigQuiet
import Derived.Test.YthmkhdnnljdglaaGreatDoorQad
import Derived.Test.YthmkhdnnljdglaaGreatDoorQag
import Derived.Test.YthmkhdnnljdglaaGreatDoorQah
import Derived.Test.YthmkhdnnljdglaaGreatDoorQat
import Derived.Lib.SlBytesConst
import Derived.Test.YthmkhdnnljdglaaGreatDoorQau
import Derived.Test.YthmkhdnnljdglaaGreatDoorQal
namespace Go.Proofs.YthmkhdnnljdglaaGreatDoor
set_option linter.unusedVariables false
set_option maxRecDepth 100000
open Go.RowKit
theorem Seg.later {w w':World} {e:TypeId} {a:Option Addr} {n cap:Nat} {vs:List Value} (h:Seg w e a n cap vs) (hb:Below w.heap.size w w'):Seg w' e a n cap vs:=
 h.kept fun g hg => hb.block g (h.lt g hg)
theorem Byt.all {w w':World} {a:Option Addr} {n:Nat} {l:List UInt8} (h:Byt w a n l) (hb:Below w.heap.size w w'):Byt w' a n l:=h.later hb
theorem Byt.from {w:World} {a:Option Addr} {len:Nat} {l:List UInt8} (h:Byt w a len l) (p cap:Nat) (hp:p ≤ len) (hlc:len ≤ cap) (hlt:p < len ∨ p = 0) :
  ∃ a',(∀ b off,a = some ⟨b,off,none⟩ → (if cap = p then some ⟨b,off,none⟩ else some ⟨b,off + p,none⟩) = a') ∧ (a = none → a' = none) ∧ Byt w a' (len - p) (l.drop p):=by
 have hl:=h.1
 rcases h.2 with h0 | ⟨b,off,rfl,hc⟩
 ·subst h0
  have hp0:p = 0:=by omega
  subst hp0
  have hl0:l = []:=List.eq_nil_of_length_eq_zero hl
  subst hl0
  cases a with
  | none => exact ⟨none,fun b off e => (by cases e),fun _ => rfl,rfl,.inl rfl⟩
  | some x =>
   obtain ⟨b,off,s⟩:=x
   by_cases hs:s = none
   ·subst hs
    exact ⟨_,fun b' off' e => (by cases e;rfl),fun e => (by cases e),rfl,.inl rfl⟩
   ·exact ⟨none,fun b' off' e => (by cases e;exact absurd rfl hs),fun e => (by cases e),rfl,.inl rfl⟩
 ·by_cases hcp:cap = p
  ·have hlp:len = p:=by omega
   have hp0:p = 0:=by omega
   exact ⟨some ⟨b,off,none⟩,fun b' off' e => (by cases e;rw [if_pos hcp]),fun e => (by cases e),by simp;omega,.inl (by omega)⟩
  ·refine ⟨some ⟨b,off + p,none⟩,fun b' off' e => (by cases e;rw [if_neg hcp]),fun e => (by cases e),by simp;omega,.inr ⟨b,off + p,rfl,fun i hi => ?_⟩⟩
   rw [Nat.add_assoc,hc (p + i) (by omega)]
   simp [at8]
end Go.Proofs.YthmkhdnnljdglaaGreatDoor
namespace Go.Proofs.YthmkhdnnljdglaaGreatDoor
set_option maxRecDepth 100000
open Go.RowKit
def digits:List UInt8:=[49,50,51,52,53,54,55,56,57]
end Go.Proofs.YthmkhdnnljdglaaGreatDoor
namespace Go.Proofs.YthmkhdnnljdglaaGreatDoor
set_option linter.unusedVariables false
set_option maxRecDepth 100000
open Go.RowKit
theorem Tab.alloc {w:World} (h:Tab w) (o:Obj):Tab (w.alloc o):=h.later ((Below.refl _ _).alloc (Nat.le_refl _) _)
theorem mac_is (key bl K I R:List UInt8) (hK:kpad key = K) (hI:blakeB (xorB K (allB 0x36) ++ bl) = I) (hR:blakeB (xorB K (allB 0x5c) ++ I) = R):macB key bl = R:=by
 unfold macB kout kin
 rw [hK,hI,hR]
structure Mk (w:World) (n:Nat) (W:World):Prop where
 res:W.heap[w.heap.size + n]? = some (.cells zero32B 24 (0,0))
 bel:Below w.heap.size w W
theorem Mk.later {w W W':World} {n:Nat} (x:Mk w n W) (hb:Below W.heap.size W W'):Mk w n W':=
 ⟨by rw [hb.block _ (Array.getElem?_eq_some_iff.1 x.res).1];exact x.res,x.bel.trans (hb.mono x.bel.size)⟩
set_option maxHeartbeats 1000000 in
set_option maxRecDepth 100000 in
theorem mac_any (a:Option Addr) (klen kcap:Nat) (key:List UInt8) (b:Option Addr) (blen bcap:Nat) (bl:List UInt8) (w:World) (hK:Byt w a klen key) (hknil:a = none → kcap = 0) (hkm:klen ≤ 5000) (hkc:klen ≤ kcap) (hkcm:kcap ≤ maxLen) (hB:Byt w b blen bl) (hbnil:b = none → bcap = 0) (hbm:blen ≤ 5000) (hbc:blen ≤ bcap) (hbcm:bcap ≤ maxLen) (htab:Tab w) :
  Calls Tryz.prog 107 #[.slice a klen kcap,.slice b blen bcap] w fun e w' => e = .returned (.agg ((macB key bl).map bv).toArray) ∧ Below w.heap.size w w':=by
 obtain ⟨K,hKe⟩:∃ K,kpad key = K:=⟨_,rfl⟩
 have hKl:K.length = 64:=by rw [← hKe,kpad_length]
 obtain ⟨I,hI⟩:∃ I,blakeB (xorB K (allB 0x36) ++ bl) = I:=⟨_,rfl⟩
 have hIl:I.length = 32:=by rw [← hI,blakeB_length]
 obtain ⟨R,hR⟩:∃ R,blakeB (xorB K (allB 0x5c) ++ I) = R:=⟨_,rfl⟩
 have hRl:R.length = 32:=by rw [← hR,blakeB_length]
 rw [mac_is key bl K I R hKe hI hR]
 have HKe:Hid (kpad key = K):=hKe
 have HI:Hid (blakeB (xorB K (allB 0x36) ++ bl) = I):=hI
 have HR:Hid (blakeB (xorB K (allB 0x5c) ++ I) = R):=hR
 have IK:Hid ((Tryz.prog.info? 176).map (·.size) = some (K.map bv).toArray.size):=info_size (n:=64) (by kernel_rfl) K hKl
 have IR:Hid ((Tryz.prog.info? 24).map (·.size) = some (R.map bv).toArray.size):=info_size (n:=32) (by kernel_rfl) R hRl
 have HTab:Hid (Tab w):=htab
 have HK:Hid (Byt w a klen key):=hK
 have HB:Hid (Byt w b blen bl):=hB
 have HM0:Hid (Mk w 0 (w.alloc (.cells zero32B 24))):=⟨heap_alloc_new w _,(Below.refl _ _).alloc (Nat.le_refl _) _⟩
 clear hKe hI hR hK hB htab
 go_enter Tryz.func107,Tryz.ntmps107
 go_wp2_with fail
 refine from_world (P:=fun W => Calls Tryz.prog 137 _ W _) (R:=fun W => Hid (Mk w 0 W)) _ HM0 ?_
 intro W0 HM1
 clear HM0
 refine (kfill_any a klen kcap key W0 (HK.out.later HM1.out.bel) hknil hkm hkc hkcm (HTab.out.later HM1.out.bel)).mono ?_
 rintro e w1 ⟨rfl,hb1⟩
 rw [HKe.out]
 have hst:=run_store_arr w1 176 K 64 hKl (by kernel_rfl) zero64V (by kernel_rfl)
 have hA2:=Arr.new w1 176 K
 have hM2:=(HM1.out.later hb1).later ((Below.refl _ _).alloc (Nat.le_refl _) (.cells (K.map bv).toArray 176))
 obtain ⟨W2,hW2⟩:∃ W2,w1.alloc (.cells (K.map bv).toArray 176) = W2:=⟨_,rfl⟩
 rw [hW2] at hst hA2 hM2
 simp only [zero64V,List.replicate] at hst
 have HM2:Hid (Mk w 0 W2):=hM2
 have HA2:Hid (Arr W2 w1.heap.size 176 K):=hA2
 have HT2:Hid (Tab W2):=HTab.out.later hM2.bel
 have HB2:Hid (Byt W2 b blen bl):=HB.out.later hM2.bel
 clear hM2 hA2 hW2 hb1 HM1 HK HB HTab HKe
 go_wp2_with (first | (refine wpList_load_row rfl 176 _ rfl w1.heap.size rfl 176 _ (0,0) _ HA2.out Tryz.underlying176 rfl IK.out ?_))
 have hs:=ksum_any K hKl 0x36 b blen bcap bl W2 HB2.out hbnil hbm hbc hbcm HT2.out
 refine hs.mono ?_
 clear hs hst
 generalize w1.heap.size = g at *
 rintro e w3 ⟨rfl,hb3⟩
 rw [HI.out]
 have hst:=run_store_arr w3 24 I 32 hIl (by kernel_rfl) zero32B (by kernel_rfl)
 have hbel:Below W2.heap.size W2 (w3.alloc (.cells (I.map bv).toArray 24)):=hb3.alloc hb3.size _
 have hA4:=Arr.new w3 24 I
 obtain ⟨W4,hW4⟩:∃ W4,w3.alloc (.cells (I.map bv).toArray 24) = W4:=⟨_,rfl⟩
 rw [hW4] at hst hA4 hbel
 simp only [zero32B,List.replicate] at hst
 have hdr:Below W2.heap.size W2 W4.drew:=hbel.drew
 have hdr4:Below W4.heap.size W4 W4.drew:=(Below.refl _ _).drew
 have HA5:Hid (Arr W4.drew w3.heap.size 24 I):=hA4.later hdr4
 have HM5:Hid (Mk w 0 W4.drew):=HM2.out.later hdr
 have HP5:Hid (Arr W4.drew g 176 K):=HA2.out.later hdr
 have HT5:Hid (Tab W4.drew):=HT2.out.later hdr
 clear hdr hdr4 hA4 hW4 hbel hb3 HM2 HA2 HT2 HB2
 go_wp2_with fail
 clear hst
 generalize w3.heap.size = g3 at *
 obtain ⟨W,hWd⟩:∃ W,W4.drew = W:=⟨_,rfl⟩
 have HWd:Hid (W4.drew = W):=hWd
 rw [hWd] at HA5 HM5 HP5 HT5
 clear hWd
 refine wp_region_sched' (G:=Grows) (by kernel_rfl) Grows.refl Grows.trans (by kernel_rfl) [(0,true),(1,true),(2,false),(3,false)] rfl (by kernel_rfl) ?_
 intro KK hKK
 rw [HWd.out]
 clear HWd
 refine sched_take rfl (by rfl) (v:=.agg (K.map bv).toArray) (fun w' hw' => exec_load_row 176 _ rfl g rfl 176 _ (0,0) _ (HP5.out.later hw') Tryz.underlying176 rfl IK.out) ?_
 go_simp
 refine sched_take rfl (by rfl) (v:=.slice (some ⟨g3,0,none⟩) 32 32) (fun w' hw' => by clear hw';go_simp) ?_
 go_simp
 refine sched_call (f:=138) (args:=#[.agg (K.map bv).toArray,.int .u8 92,.slice (some ⟨g3,0,none⟩) 32 32]) rfl (by rfl) (by go_simp) ?_
 have hs:=ksum_any K hKl 0x5c (some ⟨g3,0,none⟩) 32 32 I W (HA5.out.byt 32 hIl) (fun e => by cases e) (by omega) (Nat.le_refl _) (by unfold maxLen;omega) HT5.out
 refine hs.mono ?_
 clear hs
 rintro e w6 ⟨rfl,hb6⟩
 refine ⟨_,rfl,hb6,?_⟩
 rw [HR.out]
 have hM6:=HM5.out.later hb6
 have hst:=store_row w6 w.heap.size _ _ (R.map bv) hM6.res (by simp [hRl,zero32B]) (bv_oneCell R)
 have hrow:=setRow_heap w6 w.heap.size _ (R.map bv).toArray _ _ hM6.res
 have HBel:Hid (Below w.heap.size w (w6.setRow w.heap.size (R.map bv).toArray)):=below_setRow hM6.bel (Nat.le_refl _) _
 obtain ⟨W7,hW7⟩:∃ W7,w6.setRow w.heap.size (R.map bv).toArray = W7:=⟨_,rfl⟩
 rw [hW7] at hst hrow HBel
 have HRow:Hid (W7.heap[w.heap.size]? = some (.cells (R.map bv).toArray 24 (0,0))):=hrow
 clear hrow hW7 hM6 hb6 HM5 HA5 HP5 HT5
 go_simp
 refine sched_store rfl (by rfl) (w':=W7) (by go_simp) (by kernel_rfl) ?_
 clear hst
 go_simp
 refine sched_done hKK ?_
 (try go_wp2)
 (try simp only [Exit.inBlock,Exit.then])
 refine bodyPost_ret (results_cell_row rfl _ _ w.heap.size 24 _ (0,0) _ rfl HRow.out Tryz.underlying24 rfl IR.out) rfl ?_
 exact ⟨rfl,HBel.out⟩
structure Nx (w:World) (t:List UInt8) (W:World):Prop where
 t:Arr W w.heap.size 24 t
 res:W.heap[w.heap.size + 1]? = some (.cells zero32B 24 (0,0))
 bel:Below w.heap.size w W
 size:w.heap.size + 1 + 1 ≤ W.heap.size
theorem Nx.new (w:World) (t:List UInt8):Nx w t ((w.alloc (.cells (t.map bv).toArray 24)).alloc (.cells zero32B 24)):=by
 have h0:=Arr.new w 24 t
 have h1:=heap_alloc_new (w.alloc (.cells (t.map bv).toArray 24)) (.cells zero32B 24)
 rw [World.size_alloc] at h1
 exact ⟨h0.later ((Below.refl _ _).alloc (Nat.le_refl _) _),h1,((Below.refl _ _).alloc (Nat.le_refl _) _).alloc (by simp) _,by simp⟩
theorem Nx.on {w W W':World} {t:List UInt8} (x:Nx w t W) (hb:Below (w.heap.size + 1 + 1) W W'):Nx w t W':=
 ⟨x.t.below hb (by omega),by rw [hb.block _ (by omega)];exact x.res,x.bel.trans (hb.mono (by omega)),Nat.le_trans x.size hb.size⟩
theorem Nx.later {w W W':World} {t:List UInt8} (x:Nx w t W) (hb:Below W.heap.size W W'):Nx w t W':=x.on (hb.mono x.size)
set_option maxHeartbeats 1000000 in
set_option maxRecDepth 100000 in
theorem knext_any (t:List UInt8) (ht:t.length = 32) (a:Option Addr) (blen bcap:Nat) (bl:List UInt8) (n:UInt8) (w:World) (hB:Byt w a blen bl) (hbnil:a = none → bcap = 0) (hbm:blen ≤ 4000) (htab:Tab w) :
  Calls Tryz.prog 108 #[.agg (t.map bv).toArray,.slice a blen bcap,.int .u8 (n.toNat:Int)] w fun e w' => e = .returned (.agg ((macB t (bl ++ [n])).map bv).toArray) ∧ Below w.heap.size w w':=by
 obtain ⟨R,hR⟩:∃ R,macB t (bl ++ [n]) = R:=⟨_,rfl⟩
 have hRl:R.length = 32:=by rw [← hR,macB_length]
 rw [hR]
 have HR:Hid (macB t (bl ++ [n]) = R):=hR
 have IR:Hid ((Tryz.prog.info? 24).map (·.size) = some (R.map bv).toArray.size):=info_size (n:=32) (by kernel_rfl) R hRl
 have HTab:Hid (Tab w):=htab
 have hbl:=hB.1
 have HB:Hid (Byt w a blen bl):=hB
 obtain ⟨m0,hm0⟩:∃ m0,blen + 1 = m0:=⟨_,rfl⟩
 have e1:(blen:Int) + 1 = (m0:Int):=by omega
 obtain ⟨W0,hW0⟩:∃ W0,(w.alloc (.cells (t.map bv).toArray 24)).alloc (.cells zero32B 24) = W0:=⟨_,rfl⟩
 have hN0:Nx w t W0:=by rw [← hW0];exact Nx.new w t
 have hsz0:W0.heap.size = w.heap.size + 1 + 1:=by rw [← hW0];simp
 obtain ⟨Z,hZ,hmk⟩:=make_room W0 m0 (by omega)
 have own0:(W0.alloc (.cells Z.toArray 5)).ownsRow (w.heap.size + 1 + 1) 5 1 (.slice (some ⟨W0.heap.size,0,none⟩) 0 m0) 0 (([]:List UInt8).map bv):=
  World.ownsRow_made (base:=w.heap.size + 1 + 1) (e:=5) (size:=1) W0 Z.toArray m0 (by omega) (by unfold maxLen;omega) (by simp [hZ])
 have hN1:Nx w t (W0.alloc (.cells Z.toArray 5)):=hN0.later ((Below.refl _ _).alloc (by omega) _)
 obtain ⟨W1,hW1⟩:∃ W1,W0.alloc (.cells Z.toArray 5) = W1:=⟨_,rfl⟩
 rw [hW1] at own0 hN1 hmk
 rw [hsz0] at own0 hmk
 obtain ⟨v2,w2,hap2,own2,hg2⟩:=append_own_any W1 (w.heap.size + 1 + 1) _ 0 _ own0 a blen bcap bl (HB.out.later hN1.bel) hbnil hN1.size (by omega)
 rw [Nat.zero_add,List.nil_append] at own2
 obtain ⟨a2,c2,rfl,_,_,_,_⟩:=own_parts own2
 have hN2:Nx w t w2:=hN1.on ((Below.refl _ _).grown hg2 hN1.size (fun k hk => (own0.lt k hk).1))
 have HA2:Hid ((Builtin.append_ #[22,22] 22 #[.slice (some ⟨w.heap.size + 1 + 1,0,none⟩) 0 m0,.slice a blen bcap]).run Tryz.prog W1 = .ok (.slice a2 blen c2) w2):=hap2
 have hdr:Below w2.heap.size w2 w2.drew:=(Below.refl _ _).drew
 have HN3:Hid (Nx w t w2.drew):=hN2.later hdr
 have HO3:Hid (w2.drew.ownsRow (w.heap.size + 1 + 1) 5 1 (.slice a2 blen c2) blen (bl.map bv)):=own2.drew
 rw [← hW0] at hmk
 clear hap2 own2 hg2 own0 hN1 hW1 hN0 hsz0 hZ hN2 hdr hW0 hB htab hR
 simp only [zero32B,List.replicate] at hmk
 go_enter Tryz.func108,Tryz.ntmps108
 go_wp2_with (at_builtin;refine wpList_append_run rfl (.tmp 12) (.tmp 13) 22 rfl _ _ _ _ rfl rfl HA2.out ?_)
 clear HA2 hmk e1
 obtain ⟨W,hWd⟩:∃ W,w2.drew = W:=⟨_,rfl⟩
 have HWd:Hid (w2.drew = W):=hWd
 rw [hWd] at HN3 HO3
 clear hWd
 refine wp_region_sched' (G:=fun _ _ => True) (by kernel_rfl) (fun _ => trivial) (fun _ _ _ _ _ => trivial) (by kernel_rfl) [(0,true),(1,true),(2,true),(3,false),(4,false),(5,false),(6,false)] rfl (by kernel_rfl) ?_
 intro KK hKK
 rw [HWd.out]
 clear HWd
 iterate 3 (refine sched_take rfl (by rfl) (v:=?_) ?_ ?_;rotate_left;(intro w' hw';clear hw';go_simp;with_reducible rfl);go_simp)
 refine sched_val rfl (by rfl) (v:=.slice (some ⟨W.heap.size,0,none⟩) 1 1) (w':=W.alloc (.cells #[.int .u8 (n.toNat:Int)] 5)) (by go_simp;try rfl) trivial ?_
 go_simp
 have hone:Byt (W.alloc (.cells #[.int .u8 (n.toNat:Int)] 5)) (some ⟨W.heap.size,0,none⟩) 1 [n]:=byt_lit _ [n] W.heap.size _ _ _ (heap_alloc_new W _) rfl
 have hal:Below W.heap.size W (W.alloc (.cells #[.int .u8 (n.toNat:Int)] 5)):=(Below.refl _ _).alloc (Nat.le_refl _) _
 have hN4:=HN3.out.later hal
 have hO4:=HO3.out.alloc (.cells #[.int .u8 (n.toNat:Int)] 5)
 obtain ⟨v5,w5,hap5,own5,hg5⟩:=append_bytes _ (w.heap.size + 1 + 1) _ blen _ hO4 ⟨W.heap.size,0,none⟩ 1 1 [n] hone hN4.size (by omega)
 have hN5:Nx w t w5:=hN4.on ((Below.refl _ _).grown hg5 hN4.size (fun k hk => (hO4.lt k hk).1))
 obtain ⟨a5,c5,rfl,hB5,hnc5,hcm5,hnil5⟩:=own_parts own5
 refine sched_append (s:=.tmp 16) (x:=.tmp 18) (t:=22) rfl (by rfl) rfl rfl rfl hap5 trivial ?_
 have HN5:Hid (Nx w t w5):=hN5
 have HB5:Hid (Byt w5 a5 (blen + 1) (bl ++ [n])):=hB5
 clear hap5 own5 hg5 hone hal hN4 hO4 hN5 hB5 HN3 HO3
 rw [hm0] at HB5 hnc5 ⊢
 go_simp
 refine sched_call (f:=107) (args:=#[.slice (some ⟨w.heap.size,0,none⟩) 32 32,.slice a5 m0 c5]) rfl (by rfl) (by go_simp) ?_
 refine (mac_any (some ⟨w.heap.size,0,none⟩) 32 32 t a5 m0 c5 (bl ++ [n]) w5 (HN5.out.t.byt 32 ht) (fun e => by cases e) (by omega) (Nat.le_refl _) (by unfold maxLen;omega) HB5.out hnil5 (by omega) hnc5 hcm5 (HTab.out.later HN5.out.bel)).mono ?_
 rintro e w6 ⟨rfl,hb6⟩
 refine ⟨_,rfl,trivial,?_⟩
 rw [HR.out]
 have hN6:=HN5.out.later hb6
 have hst:=store_row w6 (w.heap.size + 1) _ _ (R.map bv) hN6.res (by simp [hRl,zero32B]) (bv_oneCell R)
 have hrow:=setRow_heap w6 (w.heap.size + 1) _ (R.map bv).toArray _ _ hN6.res
 have HBel:Hid (Below w.heap.size w (w6.setRow (w.heap.size + 1) (R.map bv).toArray)):=below_setRow hN6.bel (by omega) _
 obtain ⟨W7,hW7⟩:∃ W7,w6.setRow (w.heap.size + 1) (R.map bv).toArray = W7:=⟨_,rfl⟩
 rw [hW7] at hst hrow HBel
 have HRow:Hid (W7.heap[w.heap.size + 1]? = some (.cells (R.map bv).toArray 24 (0,0))):=hrow
 clear hrow hW7 hN6 hb6 HN5 HB5 HTab
 go_simp
 refine sched_store rfl (by rfl) (w':=W7) (by go_simp) (by kernel_rfl) ?_
 clear hst
 go_simp
 refine sched_done hKK ?_
 (try go_wp2)
 (try simp only [Exit.inBlock,Exit.then])
 refine bodyPost_ret (results_cell_row rfl _ _ (w.heap.size + 1) 24 _ (0,0) _ rfl HRow.out Tryz.underlying24 rfl IR.out) rfl ?_
 exact ⟨rfl,HBel.out⟩
theorem results_three {P:Program} {fn:Func} {p q r:Tmp} {ty:TypeId} (h:fn.results = #[.cell p ty,.cell q ty,.cell r ty]) (tmps:Array Value) (w:World) (g1 g2 g3:Nat) (t:TypeId) (A B C:Array Value) (d:TypeDesc)
  (hp:tmps.getD p undef = .pointer (some ⟨g1,0,none⟩)) (hq:tmps.getD q undef = .pointer (some ⟨g2,0,none⟩)) (hr:tmps.getD r undef = .pointer (some ⟨g3,0,none⟩))
  (h1:w.heap[g1]? = some (.cells A t (0,0))) (h2:w.heap[g2]? = some (.cells B t (0,0))) (h3:w.heap[g3]? = some (.cells C t (0,0)))
  (hu:P.underlying ty = some d) (hd:(match d with | .struct _ | .array _ _ => true | _ => false) = true) (hA:(P.info? ty).map (·.size) = some A.size) (hB:(P.info? ty).map (·.size) = some B.size) (hC:(P.info? ty).map (·.size) = some C.size) :
  (results fn tmps).run P w = .ok (.tuple #[.agg A,.agg B,.agg C]) w:=by
 have hp':tmps[p]?.getD undef = .pointer (some ⟨g1,0,none⟩):=by simpa using hp
 have hq':tmps[q]?.getD undef = .pointer (some ⟨g2,0,none⟩):=by simpa using hq
 have hr':tmps[r]?.getD undef = .pointer (some ⟨g3,0,none⟩):=by simpa using hr
 simp [results,h,hp',hq',hr',asAddr,run_loadVar_row w g1 t ty A (0,0) d h1 hu hd hA,run_loadVar_row w g2 t ty B (0,0) d h2 hu hd hB,run_loadVar_row w g3 t ty C (0,0) d h3 hu hd hC]
def Far (n:Nat) (w w':World):Prop:=∀ g,n < g → w'.heap[g]? = w.heap[g]?
structure Dv (w:World) (W:World):Prop where
 r1:W.heap[w.heap.size + 1]? = some (.cells zero32B 24 (0,0))
 r2:W.heap[w.heap.size + 1 + 1]? = some (.cells zero32B 24 (0,0))
 r3:W.heap[w.heap.size + 1 + 1 + 1]? = some (.cells zero32B 24 (0,0))
 bel:Below w.heap.size w W
theorem Dv.later {w W W':World} (x:Dv w W) (hb:Below W.heap.size W W'):Dv w W':=
 ⟨by rw [hb.block _ (Array.getElem?_eq_some_iff.1 x.r1).1];exact x.r1,by rw [hb.block _ (Array.getElem?_eq_some_iff.1 x.r2).1];exact x.r2,by rw [hb.block _ (Array.getElem?_eq_some_iff.1 x.r3).1];exact x.r3,x.bel.trans (hb.mono x.bel.size)⟩
theorem Dv.on {B:Nat} {w W W':World} (x:Dv w W) (hb:Below B W W') (hB:w.heap.size + 3 < B):Dv w W':=
 ⟨by rw [hb.block _ (by omega)];exact x.r1,by rw [hb.block _ (by omega)];exact x.r2,by rw [hb.block _ (by omega)];exact x.r3,x.bel.trans (hb.mono (by omega))⟩
theorem Dv.lt {w W:World} (x:Dv w W):w.heap.size + 3 < W.heap.size:=(Array.getElem?_eq_some_iff.1 x.r3).1
theorem Dv.new (w:World) (key:List UInt8):Dv w ((((w.alloc (.cells (key.map bv).toArray 24)).alloc (.cells zero32B 24)).alloc (.cells zero32B 24)).alloc (.cells zero32B 24)) ∧
  Arr ((((w.alloc (.cells (key.map bv).toArray 24)).alloc (.cells zero32B 24)).alloc (.cells zero32B 24)).alloc (.cells zero32B 24)) w.heap.size 24 key:=by
 obtain ⟨W1,hW1⟩:∃ W1,w.alloc (.cells (key.map bv).toArray 24) = W1:=⟨_,rfl⟩
 have b1:Below w.heap.size w W1:=by rw [← hW1];exact (Below.refl _ _).alloc (Nat.le_refl _) _
 have s1:W1.heap.size = w.heap.size + 1:=by rw [← hW1];simp
 have a1:Arr W1 w.heap.size 24 key:=by rw [← hW1];exact Arr.new w _ key
 rw [hW1]
 have h1:=heap_alloc_new W1 (.cells zero32B 24)
 obtain ⟨W2,hW2⟩:∃ W2,W1.alloc (.cells zero32B 24) = W2:=⟨_,rfl⟩
 have b2:Below W1.heap.size W1 W2:=by rw [← hW2];exact (Below.refl _ _).alloc (Nat.le_refl _) _
 have s2:W2.heap.size = w.heap.size + 1 + 1:=by rw [← hW2];simp [s1]
 rw [hW2] at h1 ⊢
 have h2:=heap_alloc_new W2 (.cells zero32B 24)
 obtain ⟨W3,hW3⟩:∃ W3,W2.alloc (.cells zero32B 24) = W3:=⟨_,rfl⟩
 have b3:Below W2.heap.size W2 W3:=by rw [← hW3];exact (Below.refl _ _).alloc (Nat.le_refl _) _
 have s3:W3.heap.size = w.heap.size + 1 + 1 + 1:=by rw [← hW3];simp [s2]
 rw [hW3] at h2 ⊢
 have h3:=heap_alloc_new W3 (.cells zero32B 24)
 have b4:Below W3.heap.size W3 (W3.alloc (.cells zero32B 24)):=(Below.refl _ _).alloc (Nat.le_refl _) _
 have b34:=b3.trans (b4.mono b3.size)
 have b234:=b2.trans (b34.mono b2.size)
 rw [s1] at h1
 rw [s2] at h2
 rw [s3] at h3
 refine ⟨⟨?_,?_,h3,b1.trans (b234.mono b1.size)⟩,a1.later b234⟩
 ·rw [b34.block _ (by omega)];exact h1
 ·rw [b4.block _ (by omega)];exact h2
set_option maxHeartbeats 1000000 in
set_option maxRecDepth 100000 in
theorem derive_any (key:List UInt8) (b:Option Addr) (blen bcap:Nat) (bl:List UInt8) (w:World) (hk:key.length = 32) (hB:Byt w b blen bl) (hbnil:b = none → bcap = 0) (hbm:blen ≤ 5000) (hbc:blen ≤ bcap) (hbcm:bcap ≤ maxLen) (htab:Tab w) :
  Calls Tryz.prog 76 #[.agg (key.map bv).toArray,.slice b blen bcap] w fun e w' => e = .returned (.tuple #[.agg ((der1 key bl).map bv).toArray,.agg ((der2 key bl).map bv).toArray,.agg ((der3 key bl).map bv).toArray]) ∧ Below w.heap.size w w':=by
 obtain ⟨T,hT⟩:∃ T,macB key bl = T:=⟨_,rfl⟩
 obtain ⟨D1,h1⟩:∃ D1,macB T ([] ++ [1]) = D1:=⟨_,rfl⟩
 obtain ⟨D2,h2⟩:∃ D2,macB T (D1 ++ [2]) = D2:=⟨_,rfl⟩
 obtain ⟨D3,h3⟩:∃ D3,macB T (D2 ++ [3]) = D3:=⟨_,rfl⟩
 have e1:der1 key bl = D1:=by unfold der1;rw [hT];exact h1
 have e2:der2 key bl = D2:=by unfold der2;rw [e1,hT];exact h2
 have e3:der3 key bl = D3:=by unfold der3;rw [e2,hT];exact h3
 have hTl:T.length = 32:=by rw [← hT,macB_length]
 have h1l:D1.length = 32:=by rw [← h1,macB_length]
 have h2l:D2.length = 32:=by rw [← h2,macB_length]
 have h3l:D3.length = 32:=by rw [← h3,macB_length]
 rw [e1,e2,e3]
 have HT:Hid (macB key bl = T):=hT
 have H1:Hid (macB T ([] ++ [1]) = D1):=h1
 have H2:Hid (macB T (D1 ++ [2]) = D2):=h2
 have H3:Hid (macB T (D2 ++ [3]) = D3):=h3
 clear hT h1 h2 h3 e1 e2 e3
 have I32:Hid (∀ l:List UInt8,l.length = 32 → (Tryz.prog.info? 24).map (·.size) = some (l.map bv).toArray.size):=fun l hl => info_size (n:=32) (by kernel_rfl) l hl
 have HTab:Hid (Tab w):=htab
 have HB:Hid (Byt w b blen bl):=hB
 have HD0:Hid (Dv w _ ∧ Arr _ w.heap.size 24 key):=Dv.new w key
 clear hB htab
 go_enter Tryz.func76,Tryz.ntmps76
 go_wp2_with fail
 refine from_world (P:=fun W => Calls Tryz.prog 107 _ W _) (R:=fun W => Hid (Dv w W ∧ Arr W w.heap.size 24 key)) _ HD0 ?_
 intro W0 HD1
 clear HD0
 refine (mac_any (some ⟨w.heap.size,0,none⟩) 32 32 key b blen bcap bl W0 (HD1.out.2.byt 32 hk) (fun e => by cases e) (by omega) (Nat.le_refl _) (by unfold maxLen;omega) (HB.out.later HD1.out.1.bel) hbnil hbm hbc hbcm (HTab.out.later HD1.out.1.bel)).mono ?_
 rintro e w1 ⟨rfl,hb1⟩
 rw [HT.out]
 have hD1:=HD1.out.1.later hb1
 have hst:=run_store_arr w1 24 T 32 hTl (by kernel_rfl) zero32B (by kernel_rfl)
 have hA2:=Arr.new w1 24 T
 have hD2:=hD1.later ((Below.refl _ _).alloc (Nat.le_refl _) (.cells (T.map bv).toArray 24))
 obtain ⟨W2,hW2⟩:∃ W2,w1.alloc (.cells (T.map bv).toArray 24) = W2:=⟨_,rfl⟩
 rw [hW2] at hst hA2 hD2
 simp only [zero32B,List.replicate] at hst
 have HD2:Hid (Dv w W2):=hD2
 have HA2:Hid (Arr W2 w1.heap.size 24 T):=hA2
 have HG:Hid (w.heap.size + 3 < w1.heap.size):=hD1.lt
 have HT2:Hid (Tab W2):=HTab.out.later hD2.bel
 clear hD1 hA2 hD2 hW2 hb1 HD1 HB HTab HT
 go_wp2_with (first | (refine wpList_load_row rfl 24 _ rfl w1.heap.size rfl 24 _ (0,0) _ HA2.out Tryz.underlying24 rfl (I32.out T hTl) ?_))
 refine (knext_any T hTl none 0 0 [] 1 W2 ⟨rfl,.inl rfl⟩ (fun _ => rfl) (by omega) HT2.out).mono ?_
 clear hst
 generalize w1.heap.size = gT at *
 rintro e w3 ⟨rfl,hb3⟩
 rw [H1.out]
 have hD3:=HD2.out.later hb3
 have hst:=run_store_arr w3 24 D1 32 h1l (by kernel_rfl) zero32B (by kernel_rfl)
 have hA4:=Arr.new w3 24 D1
 have hb4:Below W2.heap.size W2 (w3.alloc (.cells (D1.map bv).toArray 24)):=hb3.alloc hb3.size _
 obtain ⟨W4,hW4⟩:∃ W4,w3.alloc (.cells (D1.map bv).toArray 24) = W4:=⟨_,rfl⟩
 rw [hW4] at hst hA4 hb4
 simp only [zero32B,List.replicate] at hst
 have HD4:Hid (Dv w W4):=HD2.out.later hb4
 have HT4:Hid (Tab W4):=HT2.out.later hb4
 have HAT:Hid (Arr W4 gT 24 T):=HA2.out.later hb4
 have HA1:Hid (Arr W4 w3.heap.size 24 D1):=hA4
 have HG1:Hid (w.heap.size + 3 < w3.heap.size):=hD3.lt
 clear hD3 hA4 hb4 hb3 hW4 HD2 HA2 HT2 H1
 go_wp2_with fail
 clear hst
 generalize w3.heap.size = g1 at *
 refine wp_cut (fun a W => ∃ g2:Nat,a = { tmps:=#[.agg (key.map bv).toArray,.slice b blen bcap,.pointer (some ⟨w.heap.size,0,none⟩),undef,.pointer (some ⟨w.heap.size + 1,0,none⟩),.pointer (some ⟨w.heap.size + 1 + 1,0,none⟩),.pointer (some ⟨w.heap.size + 1 + 1 + 1,0,none⟩),.pointer (some ⟨gT,0,none⟩),.pointer (some ⟨g1,0,none⟩),.pointer (some ⟨g2,0,none⟩),undef,.slice (some ⟨w.heap.size,0,none⟩) 32 32,.slice b blen bcap,.agg (T.map bv).toArray,.agg (T.map bv).toArray,.agg (D1.map bv).toArray,.agg (T.map bv).toArray,.slice (some ⟨g1,0,none⟩) 32 32,.agg (D2.map bv).toArray,undef,undef,undef,undef,undef,undef],defers:=[] } ∧ Hid (Arr W gT 24 T) ∧ Hid (Arr W g1 24 D1) ∧ Hid (Arr W g2 24 D2) ∧ Hid (Dv w W) ∧ Hid (Tab W) ∧ Hid (w.heap.size + 3 < g2)) ?_ ?_
 ·obtain ⟨W,hWd⟩:∃ W,W4.drew = W:=⟨_,rfl⟩
  have HWd:Hid (W4.drew = W):=hWd
  have hdr:Below W4.heap.size W4 W:=by rw [← hWd];exact (Below.refl _ _).drew
  obtain ⟨B,hB⟩:∃ B,B = W4.heap.size:=⟨_,rfl⟩
  have LHAT:gT < B:=by rw [hB];exact HAT.out.lt
  have LHA1:g1 < B:=by rw [hB];exact HA1.out.lt
  have LD:w.heap.size + 3 < B:=by rw [hB];exact HD4.out.lt
  have LTab : 1 < B ∧ 2 < B:=by rw [hB];exact HT4.out.lt
  have HBs:Hid (B ≤ W.heap.size):=by rw [hB];exact hdr.size
  rw [← hB] at hdr
  replace HAT:=hid_up (HAT.out.below hdr LHAT)
  replace HA1:=hid_up (HA1.out.below hdr LHA1)
  replace HD4:=hid_up (HD4.out.on hdr LD)
  replace HT4:=hid_up (HT4.out.below hdr LTab)
  clear hdr hWd hB
  refine sched_begin (G:=Below B) (by kernel_rfl) (fun _ => Below.refl _ _) (fun _ _ _ h k => Below.trans h k) (by kernel_rfl) [(0,true),(1,true)] 3 #[true,true,false,false,false] rfl (by kernel_rfl) ?_
  intro KL hKL
  rw [HWd.out]
  refine sched_take rfl (by rfl) (v:=.agg (T.map bv).toArray) (fun w' hw' => exec_load_row 24 _ rfl gT rfl 24 _ (0,0) _ (HAT.out.below hw' LHAT) Tryz.underlying24 rfl (I32.out T hTl)) ?_
  go_simp
  refine sched_take rfl (by rfl) (v:=.slice (some ⟨g1,0,none⟩) 32 32) (fun w' hw' => by clear hw';go_simp) ?_
  go_simp
  refine hKL.out _ _ ?_
  clear hKL HWd
  refine sched_fork [2,3] (by kernel_rfl) rfl ?_
  intro i hi
  simp only [List.mem_cons,List.not_mem_nil,or_false] at hi
  rcases hi with rfl | rfl
  ·refine ⟨_,rfl,by rfl,oper_call (f:=108) (args:=#[.agg (T.map bv).toArray,.slice (some ⟨g1,0,none⟩) 32 32,.int .u8 2]) (by go_simp) ?_⟩
   refine (knext_any T hTl (some ⟨g1,0,none⟩) 32 32 D1 2 W (HA1.out.byt 32 h1l) (fun e => by cases e) (by omega) HT4.out).mono ?_
   rintro e V1 ⟨rfl,hb⟩
   refine ⟨_,rfl,hb.mono HBs.out,?_⟩
   rw [H2.out]
   have hb2:=hb.mono HBs.out
   replace HBs:Hid (B ≤ V1.heap.size):=Nat.le_trans HBs.out hb.size
   replace HAT:=hid_up (HAT.out.below hb2 LHAT)
   replace HA1:=hid_up (HA1.out.below hb2 LHA1)
   replace HD4:=hid_up (HD4.out.on hb2 LD)
   replace HT4:=hid_up (HT4.out.below hb2 LTab)
   clear hb hb2
   refine sched_fork [3] (by kernel_rfl) rfl ?_
   intro i hi
   simp only [List.mem_cons,List.not_mem_nil,or_false] at hi
   subst hi
   refine ⟨_,rfl,by rfl,oper_val (v:=.pointer (some ⟨V1.heap.size,0,none⟩)) (w':=V1.alloc (.cells zero32B 24)) (by go_simp;rfl) ⟨(Below.refl _ _).alloc HBs.out _,?_⟩⟩
   have hb:Below B V1 (V1.alloc (.cells zero32B 24)):=(Below.refl _ _).alloc HBs.out _
   have HZ:Hid ((V1.alloc (.cells zero32B 24)).heap[V1.heap.size]? = some (.cells zero32B 24 (0,0))):=heap_alloc_new V1 _
   have hgv:B ≤ V1.heap.size:=HBs.out
   replace HBs:Hid (B ≤ (V1.alloc (.cells zero32B 24)).heap.size):=Nat.le_trans HBs.out hb.size
   replace HAT:=hid_up (HAT.out.below hb LHAT)
   replace HA1:=hid_up (HA1.out.below hb LHA1)
   replace HD4:=hid_up (HD4.out.on hb LD)
   replace HT4:=hid_up (HT4.out.below hb LTab)
   clear hb
   generalize V1.alloc (.cells zero32B 24) = V2 at *
   generalize V1.heap.size = g2 at *
   have hst:=store_row V2 g2 _ _ (D2.map bv) HZ.out (by simp [h2l,zero32B]) (bv_oneCell D2)
   have HA2:Hid (Arr (V2.setRow g2 (D2.map bv).toArray) g2 24 D2):=setRow_heap V2 g2 _ _ _ _ HZ.out
   have hb:Below B V2 (V2.setRow g2 (D2.map bv).toArray):=below_setRow (Below.refl _ _) hgv _
   replace HAT:=hid_up (HAT.out.below hb LHAT)
   replace HA1:=hid_up (HA1.out.below hb LHA1)
   replace HD4:=hid_up (HD4.out.on hb LD)
   replace HT4:=hid_up (HT4.out.below hb LTab)
   have HGn:Hid (w.heap.size + 3 < g2):=Nat.lt_of_lt_of_le LD hgv
   obtain ⟨V9,hV9⟩:∃ V9,V2.setRow g2 (D2.map bv).toArray = V9:=⟨_,rfl⟩
   rw [hV9] at hst hb HA2 HAT HA1 HD4 HT4
   clear hV9
   refine sched_end (G:=Below B) (fun _ => Below.refl _ _) (fun _ _ _ h k => Below.trans h k) (by kernel_rfl) [(4,false)] rfl (by kernel_rfl) ?_
   intro KM hKM
   go_simp
   refine sched_put rfl (by rfl) (w':=V9) (by go_simp) hb ?_
   go_simp
   exact hKM.out _ _ ⟨rfl,g2,rfl,HAT,HA1,HA2,HD4,HT4,HGn⟩
  ·refine ⟨_,rfl,by rfl,oper_val (v:=.pointer (some ⟨W.heap.size,0,none⟩)) (w':=W.alloc (.cells zero32B 24)) (by go_simp;rfl) ⟨(Below.refl _ _).alloc HBs.out _,?_⟩⟩
   have hb:Below B W (W.alloc (.cells zero32B 24)):=(Below.refl _ _).alloc HBs.out _
   have HZ:Hid ((W.alloc (.cells zero32B 24)).heap[W.heap.size]? = some (.cells zero32B 24 (0,0))):=heap_alloc_new W _
   have hgv:B ≤ W.heap.size:=HBs.out
   replace HBs:Hid (B ≤ (W.alloc (.cells zero32B 24)).heap.size):=Nat.le_trans HBs.out hb.size
   replace HAT:=hid_up (HAT.out.below hb LHAT)
   replace HA1:=hid_up (HA1.out.below hb LHA1)
   replace HD4:=hid_up (HD4.out.on hb LD)
   replace HT4:=hid_up (HT4.out.below hb LTab)
   clear hb
   generalize W.alloc (.cells zero32B 24) = V1 at *
   generalize W.heap.size = g2 at *
   refine sched_fork [2] (by kernel_rfl) rfl ?_
   intro i hi
   simp only [List.mem_cons,List.not_mem_nil,or_false] at hi
   subst hi
   refine ⟨_,rfl,by rfl,oper_call (f:=108) (args:=#[.agg (T.map bv).toArray,.slice (some ⟨g1,0,none⟩) 32 32,.int .u8 2]) (by go_simp) ?_⟩
   refine (knext_any T hTl (some ⟨g1,0,none⟩) 32 32 D1 2 V1 (HA1.out.byt 32 h1l) (fun e => by cases e) (by omega) HT4.out).mono ?_
   rintro e V2 ⟨rfl,hb⟩
   refine ⟨_,rfl,hb.mono HBs.out,?_⟩
   rw [H2.out]
   replace HZ:=hid_up (show V2.heap[g2]? = some (.cells zero32B 24 (0,0)) by rw [hb.block _ (Array.getElem?_eq_some_iff.1 HZ.out).1];exact HZ.out)
   have hb2:=hb.mono HBs.out
   replace HBs:Hid (B ≤ V2.heap.size):=Nat.le_trans HBs.out hb.size
   replace HAT:=hid_up (HAT.out.below hb2 LHAT)
   replace HA1:=hid_up (HA1.out.below hb2 LHA1)
   replace HD4:=hid_up (HD4.out.on hb2 LD)
   replace HT4:=hid_up (HT4.out.below hb2 LTab)
   clear hb hb2
   have hst:=store_row V2 g2 _ _ (D2.map bv) HZ.out (by simp [h2l,zero32B]) (bv_oneCell D2)
   have HA2:Hid (Arr (V2.setRow g2 (D2.map bv).toArray) g2 24 D2):=setRow_heap V2 g2 _ _ _ _ HZ.out
   have hb:Below B V2 (V2.setRow g2 (D2.map bv).toArray):=below_setRow (Below.refl _ _) hgv _
   replace HAT:=hid_up (HAT.out.below hb LHAT)
   replace HA1:=hid_up (HA1.out.below hb LHA1)
   replace HD4:=hid_up (HD4.out.on hb LD)
   replace HT4:=hid_up (HT4.out.below hb LTab)
   have HGn:Hid (w.heap.size + 3 < g2):=Nat.lt_of_lt_of_le LD hgv
   obtain ⟨V9,hV9⟩:∃ V9,V2.setRow g2 (D2.map bv).toArray = V9:=⟨_,rfl⟩
   rw [hV9] at hst hb HA2 HAT HA1 HD4 HT4
   clear hV9
   refine sched_end (G:=Below B) (fun _ => Below.refl _ _) (fun _ _ _ h k => Below.trans h k) (by kernel_rfl) [(4,false)] rfl (by kernel_rfl) ?_
   intro KM hKM
   go_simp
   refine sched_put rfl (by rfl) (w':=V9) (by go_simp) hb ?_
   go_simp
   exact hKM.out _ _ ⟨rfl,g2,rfl,HAT,HA1,HA2,HD4,HT4,HGn⟩
 clear HAT HA1 HD4 HT4
 rintro a W5 ⟨g2,rfl,HAT,HA1,HA2,HD4,HT4,HG2⟩
 (try dsimp only)
 go_wp2_with fail
 refine wp_cut (fun a W => ∃ g3:Nat,a = { tmps:=#[.agg (key.map bv).toArray,.slice b blen bcap,.pointer (some ⟨w.heap.size,0,none⟩),undef,.pointer (some ⟨w.heap.size + 1,0,none⟩),.pointer (some ⟨w.heap.size + 1 + 1,0,none⟩),.pointer (some ⟨w.heap.size + 1 + 1 + 1,0,none⟩),.pointer (some ⟨gT,0,none⟩),.pointer (some ⟨g1,0,none⟩),.pointer (some ⟨g2,0,none⟩),.pointer (some ⟨g3,0,none⟩),.slice (some ⟨w.heap.size,0,none⟩) 32 32,.slice b blen bcap,.agg (T.map bv).toArray,.agg (T.map bv).toArray,.agg (D1.map bv).toArray,.agg (T.map bv).toArray,.slice (some ⟨g1,0,none⟩) 32 32,.agg (D2.map bv).toArray,.agg (T.map bv).toArray,.slice (some ⟨g2,0,none⟩) 32 32,.agg (D3.map bv).toArray,undef,undef,undef],defers:=[] } ∧ Hid (Arr W gT 24 T) ∧ Hid (Arr W g1 24 D1) ∧ Hid (Arr W g2 24 D2) ∧ Hid (Arr W g3 24 D3) ∧ Hid (Dv w W) ∧ Hid (Tab W) ∧ Hid (w.heap.size + 3 < g3)) ?_ ?_
 ·obtain ⟨W,hWd⟩:∃ W,W5.drew = W:=⟨_,rfl⟩
  have HWd:Hid (W5.drew = W):=hWd
  have hdr:Below W5.heap.size W5 W:=by rw [← hWd];exact (Below.refl _ _).drew
  obtain ⟨B,hB⟩:∃ B,B = W5.heap.size:=⟨_,rfl⟩
  have LHAT:gT < B:=by rw [hB];exact HAT.out.lt
  have LHA1:g1 < B:=by rw [hB];exact HA1.out.lt
  have LHA2:g2 < B:=by rw [hB];exact HA2.out.lt
  have LD:w.heap.size + 3 < B:=by rw [hB];exact HD4.out.lt
  have LTab : 1 < B ∧ 2 < B:=by rw [hB];exact HT4.out.lt
  have HBs:Hid (B ≤ W.heap.size):=by rw [hB];exact hdr.size
  rw [← hB] at hdr
  replace HAT:=hid_up (HAT.out.below hdr LHAT)
  replace HA1:=hid_up (HA1.out.below hdr LHA1)
  replace HA2:=hid_up (HA2.out.below hdr LHA2)
  replace HD4:=hid_up (HD4.out.on hdr LD)
  replace HT4:=hid_up (HT4.out.below hdr LTab)
  clear hdr hWd hB
  refine sched_begin (G:=Below B) (by kernel_rfl) (fun _ => Below.refl _ _) (fun _ _ _ h k => Below.trans h k) (by kernel_rfl) [(0,true),(1,true)] 3 #[true,true,false,false,false] rfl (by kernel_rfl) ?_
  intro KL hKL
  rw [HWd.out]
  refine sched_take rfl (by rfl) (v:=.agg (T.map bv).toArray) (fun w' hw' => exec_load_row 24 _ rfl gT rfl 24 _ (0,0) _ (HAT.out.below hw' LHAT) Tryz.underlying24 rfl (I32.out T hTl)) ?_
  go_simp
  refine sched_take rfl (by rfl) (v:=.slice (some ⟨g2,0,none⟩) 32 32) (fun w' hw' => by clear hw';go_simp) ?_
  go_simp
  refine hKL.out _ _ ?_
  clear hKL HWd
  refine sched_fork [2,3] (by kernel_rfl) rfl ?_
  intro i hi
  simp only [List.mem_cons,List.not_mem_nil,or_false] at hi
  rcases hi with rfl | rfl
  ·refine ⟨_,rfl,by rfl,oper_call (f:=108) (args:=#[.agg (T.map bv).toArray,.slice (some ⟨g2,0,none⟩) 32 32,.int .u8 3]) (by go_simp) ?_⟩
   refine (knext_any T hTl (some ⟨g2,0,none⟩) 32 32 D2 3 W (HA2.out.byt 32 h2l) (fun e => by cases e) (by omega) HT4.out).mono ?_
   rintro e V1 ⟨rfl,hb⟩
   refine ⟨_,rfl,hb.mono HBs.out,?_⟩
   rw [H3.out]
   have hb2:=hb.mono HBs.out
   replace HBs:Hid (B ≤ V1.heap.size):=Nat.le_trans HBs.out hb.size
   replace HAT:=hid_up (HAT.out.below hb2 LHAT)
   replace HA1:=hid_up (HA1.out.below hb2 LHA1)
   replace HA2:=hid_up (HA2.out.below hb2 LHA2)
   replace HD4:=hid_up (HD4.out.on hb2 LD)
   replace HT4:=hid_up (HT4.out.below hb2 LTab)
   clear hb hb2
   refine sched_fork [3] (by kernel_rfl) rfl ?_
   intro i hi
   simp only [List.mem_cons,List.not_mem_nil,or_false] at hi
   subst hi
   refine ⟨_,rfl,by rfl,oper_val (v:=.pointer (some ⟨V1.heap.size,0,none⟩)) (w':=V1.alloc (.cells zero32B 24)) (by go_simp;rfl) ⟨(Below.refl _ _).alloc HBs.out _,?_⟩⟩
   have hb:Below B V1 (V1.alloc (.cells zero32B 24)):=(Below.refl _ _).alloc HBs.out _
   have HZ:Hid ((V1.alloc (.cells zero32B 24)).heap[V1.heap.size]? = some (.cells zero32B 24 (0,0))):=heap_alloc_new V1 _
   have hgv:B ≤ V1.heap.size:=HBs.out
   replace HBs:Hid (B ≤ (V1.alloc (.cells zero32B 24)).heap.size):=Nat.le_trans HBs.out hb.size
   replace HAT:=hid_up (HAT.out.below hb LHAT)
   replace HA1:=hid_up (HA1.out.below hb LHA1)
   replace HA2:=hid_up (HA2.out.below hb LHA2)
   replace HD4:=hid_up (HD4.out.on hb LD)
   replace HT4:=hid_up (HT4.out.below hb LTab)
   clear hb
   generalize V1.alloc (.cells zero32B 24) = V2 at *
   generalize V1.heap.size = g3 at *
   have hst:=store_row V2 g3 _ _ (D3.map bv) HZ.out (by simp [h3l,zero32B]) (bv_oneCell D3)
   have HA3:Hid (Arr (V2.setRow g3 (D3.map bv).toArray) g3 24 D3):=setRow_heap V2 g3 _ _ _ _ HZ.out
   have hb:Below B V2 (V2.setRow g3 (D3.map bv).toArray):=below_setRow (Below.refl _ _) hgv _
   replace HAT:=hid_up (HAT.out.below hb LHAT)
   replace HA1:=hid_up (HA1.out.below hb LHA1)
   replace HA2:=hid_up (HA2.out.below hb LHA2)
   replace HD4:=hid_up (HD4.out.on hb LD)
   replace HT4:=hid_up (HT4.out.below hb LTab)
   have HGn:Hid (w.heap.size + 3 < g3):=Nat.lt_of_lt_of_le LD hgv
   obtain ⟨V9,hV9⟩:∃ V9,V2.setRow g3 (D3.map bv).toArray = V9:=⟨_,rfl⟩
   rw [hV9] at hst hb HA3 HAT HA1 HA2 HD4 HT4
   clear hV9
   refine sched_end (G:=Below B) (fun _ => Below.refl _ _) (fun _ _ _ h k => Below.trans h k) (by kernel_rfl) [(4,false)] rfl (by kernel_rfl) ?_
   intro KM hKM
   go_simp
   refine sched_put rfl (by rfl) (w':=V9) (by go_simp) hb ?_
   go_simp
   exact hKM.out _ _ ⟨rfl,g3,rfl,HAT,HA1,HA2,HA3,HD4,HT4,HGn⟩
  ·refine ⟨_,rfl,by rfl,oper_val (v:=.pointer (some ⟨W.heap.size,0,none⟩)) (w':=W.alloc (.cells zero32B 24)) (by go_simp;rfl) ⟨(Below.refl _ _).alloc HBs.out _,?_⟩⟩
   have hb:Below B W (W.alloc (.cells zero32B 24)):=(Below.refl _ _).alloc HBs.out _
   have HZ:Hid ((W.alloc (.cells zero32B 24)).heap[W.heap.size]? = some (.cells zero32B 24 (0,0))):=heap_alloc_new W _
   have hgv:B ≤ W.heap.size:=HBs.out
   replace HBs:Hid (B ≤ (W.alloc (.cells zero32B 24)).heap.size):=Nat.le_trans HBs.out hb.size
   replace HAT:=hid_up (HAT.out.below hb LHAT)
   replace HA1:=hid_up (HA1.out.below hb LHA1)
   replace HA2:=hid_up (HA2.out.below hb LHA2)
   replace HD4:=hid_up (HD4.out.on hb LD)
   replace HT4:=hid_up (HT4.out.below hb LTab)
   clear hb
   generalize W.alloc (.cells zero32B 24) = V1 at *
   generalize W.heap.size = g3 at *
   refine sched_fork [2] (by kernel_rfl) rfl ?_
   intro i hi
   simp only [List.mem_cons,List.not_mem_nil,or_false] at hi
   subst hi
   refine ⟨_,rfl,by rfl,oper_call (f:=108) (args:=#[.agg (T.map bv).toArray,.slice (some ⟨g2,0,none⟩) 32 32,.int .u8 3]) (by go_simp) ?_⟩
   refine (knext_any T hTl (some ⟨g2,0,none⟩) 32 32 D2 3 V1 (HA2.out.byt 32 h2l) (fun e => by cases e) (by omega) HT4.out).mono ?_
   rintro e V2 ⟨rfl,hb⟩
   refine ⟨_,rfl,hb.mono HBs.out,?_⟩
   rw [H3.out]
   replace HZ:=hid_up (show V2.heap[g3]? = some (.cells zero32B 24 (0,0)) by rw [hb.block _ (Array.getElem?_eq_some_iff.1 HZ.out).1];exact HZ.out)
   have hb2:=hb.mono HBs.out
   replace HBs:Hid (B ≤ V2.heap.size):=Nat.le_trans HBs.out hb.size
   replace HAT:=hid_up (HAT.out.below hb2 LHAT)
   replace HA1:=hid_up (HA1.out.below hb2 LHA1)
   replace HA2:=hid_up (HA2.out.below hb2 LHA2)
   replace HD4:=hid_up (HD4.out.on hb2 LD)
   replace HT4:=hid_up (HT4.out.below hb2 LTab)
   clear hb hb2
   have hst:=store_row V2 g3 _ _ (D3.map bv) HZ.out (by simp [h3l,zero32B]) (bv_oneCell D3)
   have HA3:Hid (Arr (V2.setRow g3 (D3.map bv).toArray) g3 24 D3):=setRow_heap V2 g3 _ _ _ _ HZ.out
   have hb:Below B V2 (V2.setRow g3 (D3.map bv).toArray):=below_setRow (Below.refl _ _) hgv _
   replace HAT:=hid_up (HAT.out.below hb LHAT)
   replace HA1:=hid_up (HA1.out.below hb LHA1)
   replace HA2:=hid_up (HA2.out.below hb LHA2)
   replace HD4:=hid_up (HD4.out.on hb LD)
   replace HT4:=hid_up (HT4.out.below hb LTab)
   have HGn:Hid (w.heap.size + 3 < g3):=Nat.lt_of_lt_of_le LD hgv
   obtain ⟨V9,hV9⟩:∃ V9,V2.setRow g3 (D3.map bv).toArray = V9:=⟨_,rfl⟩
   rw [hV9] at hst hb HA3 HAT HA1 HA2 HD4 HT4
   clear hV9
   refine sched_end (G:=Below B) (fun _ => Below.refl _ _) (fun _ _ _ h k => Below.trans h k) (by kernel_rfl) [(4,false)] rfl (by kernel_rfl) ?_
   intro KM hKM
   go_simp
   refine sched_put rfl (by rfl) (w':=V9) (by go_simp) hb ?_
   go_simp
   exact hKM.out _ _ ⟨rfl,g3,rfl,HAT,HA1,HA2,HA3,HD4,HT4,HGn⟩
 clear HAT HA1 HA2 HD4 HT4
 rintro a W6 ⟨g3,rfl,HAT,HA1,HA2,HA3,HD4,HT4,HG3⟩
 (try dsimp only)
 go_wp2_with fail
 obtain ⟨W,hWd⟩:∃ W,W6.drew = W:=⟨_,rfl⟩
 have HWd:Hid (W6.drew = W):=hWd
 have hdr:Below W6.heap.size W6 W:=by rw [← hWd];exact (Below.refl _ _).drew
 replace HA1:=hid_up (HA1.out.later hdr)
 replace HA2:=hid_up (HA2.out.later hdr)
 replace HA3:=hid_up (HA3.out.later hdr)
 have hD:=HD4.out.later hdr
 clear hdr hWd HAT HT4 HD4
 have hst1:=store_row W (w.heap.size + 1) _ _ (D1.map bv) hD.r1 (by simp [h1l,zero32B]) (bv_oneCell D1)
 have q1:=setRow_heap W (w.heap.size + 1) _ (D1.map bv).toArray _ _ hD.r1
 have f1:Far (w.heap.size + 3) W (W.setRow (w.heap.size + 1) (D1.map bv).toArray):=fun g hg => setRow_other _ _ _ _ (by omega)
 have r2:(W.setRow (w.heap.size + 1) (D1.map bv).toArray).heap[w.heap.size + 1 + 1]? = some (.cells zero32B 24 (0,0)):=by rw [setRow_other _ _ _ _ (by omega)];exact hD.r2
 have r3:(W.setRow (w.heap.size + 1) (D1.map bv).toArray).heap[w.heap.size + 1 + 1 + 1]? = some (.cells zero32B 24 (0,0)):=by rw [setRow_other _ _ _ _ (by omega)];exact hD.r3
 have b1:Below w.heap.size w (W.setRow (w.heap.size + 1) (D1.map bv).toArray):=below_setRow hD.bel (by omega) _
 generalize W.setRow (w.heap.size + 1) (D1.map bv).toArray = X1 at *
 have hst2:=store_row X1 (w.heap.size + 1 + 1) _ _ (D2.map bv) r2 (by simp [h2l,zero32B]) (bv_oneCell D2)
 have q2:=setRow_heap X1 (w.heap.size + 1 + 1) _ (D2.map bv).toArray _ _ r2
 have f2:Far (w.heap.size + 3) X1 (X1.setRow (w.heap.size + 1 + 1) (D2.map bv).toArray):=fun g hg => setRow_other _ _ _ _ (by omega)
 replace q1:(X1.setRow (w.heap.size + 1 + 1) (D2.map bv).toArray).heap[w.heap.size + 1]? = some (.cells (D1.map bv).toArray 24 (0,0)):=by rw [setRow_other _ _ _ _ (by omega)];exact q1
 replace r3:(X1.setRow (w.heap.size + 1 + 1) (D2.map bv).toArray).heap[w.heap.size + 1 + 1 + 1]? = some (.cells zero32B 24 (0,0)):=by rw [setRow_other _ _ _ _ (by omega)];exact r3
 replace b1:Below w.heap.size w (X1.setRow (w.heap.size + 1 + 1) (D2.map bv).toArray):=below_setRow b1 (by omega) _
 generalize X1.setRow (w.heap.size + 1 + 1) (D2.map bv).toArray = X2 at *
 have hst3:=store_row X2 (w.heap.size + 1 + 1 + 1) _ _ (D3.map bv) r3 (by simp [h3l,zero32B]) (bv_oneCell D3)
 have Q3:=hid_up (setRow_heap X2 (w.heap.size + 1 + 1 + 1) _ (D3.map bv).toArray _ _ r3)
 have f3:Far (w.heap.size + 3) X2 (X2.setRow (w.heap.size + 1 + 1 + 1) (D3.map bv).toArray):=fun g hg => setRow_other _ _ _ _ (by omega)
 have Q1:Hid ((X2.setRow (w.heap.size + 1 + 1 + 1) (D3.map bv).toArray).heap[w.heap.size + 1]? = some (.cells (D1.map bv).toArray 24 (0,0))):=by show _ = _;rw [setRow_other _ _ _ _ (by omega)];exact q1
 have Q2:Hid ((X2.setRow (w.heap.size + 1 + 1 + 1) (D3.map bv).toArray).heap[w.heap.size + 1 + 1]? = some (.cells (D2.map bv).toArray 24 (0,0))):=by show _ = _;rw [setRow_other _ _ _ _ (by omega)];exact q2
 have HBel:Hid (Below w.heap.size w (X2.setRow (w.heap.size + 1 + 1 + 1) (D3.map bv).toArray)):=below_setRow b1 (by omega) _
 generalize X2.setRow (w.heap.size + 1 + 1 + 1) (D3.map bv).toArray = X3 at *
 have F1:=hid_up f1
 have F2:=hid_up f2
 have F3:=hid_up f3
 clear f1 f2 f3 b1 q1 q2 r2 r3 hD
 refine wp_region_sched' (G:=Far (w.heap.size + 3)) (by kernel_rfl) (fun _ _ _ => rfl) (fun _ _ _ h k g hg => (k g hg).trans (h g hg)) (by kernel_rfl) [(0,true),(1,true),(2,true),(3,false),(4,false),(5,false)] rfl (by kernel_rfl) ?_
 intro KK hKK
 rw [HWd.out]
 clear HWd
 refine sched_take rfl (by rfl) (v:=.agg (D1.map bv).toArray) (fun w' hw' => exec_load_row 24 _ rfl g1 rfl 24 _ (0,0) _ ((hw' g1 HG1.out).trans HA1.out) Tryz.underlying24 rfl (I32.out D1 h1l)) ?_
 go_simp
 refine sched_take rfl (by rfl) (v:=.agg (D2.map bv).toArray) (fun w' hw' => exec_load_row 24 _ rfl g2 rfl 24 _ (0,0) _ ((hw' g2 HG2.out).trans HA2.out) Tryz.underlying24 rfl (I32.out D2 h2l)) ?_
 go_simp
 refine sched_take rfl (by rfl) (v:=.agg (D3.map bv).toArray) (fun w' hw' => exec_load_row 24 _ rfl g3 rfl 24 _ (0,0) _ ((hw' g3 HG3.out).trans HA3.out) Tryz.underlying24 rfl (I32.out D3 h3l)) ?_
 go_simp
 refine sched_put rfl (by rfl) (w':=X1) (by go_simp) F1.out ?_
 go_simp
 refine sched_put rfl (by rfl) (w':=X2) (by go_simp) F2.out ?_
 go_simp
 refine sched_put rfl (by rfl) (w':=X3) (by go_simp) F3.out ?_
 clear hst1 hst2 hst3
 go_simp
 refine sched_done hKK ?_
 (try go_wp2)
 (try simp only [Exit.inBlock,Exit.then])
 refine bodyPost_ret (results_three rfl _ _ (w.heap.size + 1) (w.heap.size + 1 + 1) (w.heap.size + 1 + 1 + 1) 24 _ _ _ _ rfl rfl rfl Q1.out Q2.out Q3.out Tryz.underlying24 rfl (I32.out D1 h1l) (I32.out D2 h2l) (I32.out D3 h3l)) rfl ?_
 exact ⟨rfl,HBel.out⟩
end Go.Proofs.YthmkhdnnljdglaaGreatDoor
