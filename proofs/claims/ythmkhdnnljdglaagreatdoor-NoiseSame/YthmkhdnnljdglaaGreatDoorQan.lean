import Derived.Test.YthmkhdnnljdglaaGreatDoorQam
import Derived.Laws.Externs
import Derived.Test.YthmkhdnnljdglaaGreatDoorQak
import Derived.Test.YthmkhdnnljdglaaGreatDoorQal
namespace Go.Proofs.YthmkhdnnljdglaaGreatDoor
set_option linter.unusedVariables false
set_option maxRecDepth 100000
open Go.RowKit
theorem and8_nat (c m:Nat) (hc:c < 256) (hm:m < 256):bits .and .u8 (c:Int) (m:Int) = ((c &&& m:Nat):Int):=by
 have e:(BitVec.ofInt 8 (c:Int) &&& BitVec.ofInt 8 (m:Int)).toNat = c &&& m:=by
  rw [BitVec.toNat_and,BitVec.toNat_ofInt,BitVec.toNat_ofInt]
  have h1:((c:Int) % ((2 ^ 8:Nat):Int)).toNat = c:=by omega
  have h2:((m:Int) % ((2 ^ 8:Nat):Int)).toNat = m:=by omega
  rw [h1,h2]
 show IntKind.u8.wrap ((BitVec.ofInt 8 (c:Int) &&& BitVec.ofInt 8 (m:Int)).toNat:Int) = _
 rw [e,IntKind.wrap_u8]
 have:c &&& m ≤ c:=Nat.and_le_left
 omega
set_option maxRecDepth 100000 in
theorem and252:∀ c:Fin 256,c.val &&& 252 = c.val / 4 * 4:=by decide
theorem and8_252 (c:Nat) (hc:c < 256):bits .and .u8 (c:Int) 252 = ((c / 4 * 4:Nat):Int):=by
 have h:=and8_nat c 252 hc (by omega)
 have e:=and252 ⟨c,hc⟩
 simp only at e
 rw [e] at h
 exact h
structure MK (w:World) (g r:Nat) (B:List UInt8) (W:World):Prop where
 now:Arr W g 183 B
 res:Arr W r 183 z17
 nr:r ≠ g
 bg:w.heap.size ≤ g
 br:w.heap.size ≤ r
 bel:Below w.heap.size w W
theorem MK.set {w W:World} {g r:Nat} {B:List UInt8} (t:MK w g r B W) (i:Nat) (x:UInt8):MK w g r (B.set i x) (W.setCell ⟨g,i,none⟩ (.int .u8 (x.toNat:Int))):=by
 have hg:=t.bg
 exact ⟨t.now.set i x,t.res.other t.nr i _,t.nr,t.bg,t.br,t.bel.setCell (p:=⟨g,i,none⟩) (by show _ ≤ g;omega) _⟩
theorem clM_next (key:List UInt8):clM 19 0 key = clM 19 4 key:=by
 apply List.ext_getElem
 ·simp [clM]
 ·intro i h1 h2
  simp only [clM,List.getElem_map,List.getElem_range]
  by_cases h3:i % 4 = 3 ∧ i < 19
  ·rw [if_pos h3,if_pos h3]
  ·rw [if_neg h3,if_neg h3,if_neg (by omega),if_neg (by omega)]
theorem set_front (l:List UInt8) (i:Nat) (x:UInt8) (h:i < l.length):(l ++ [0]).set i x = l.set i x ++ [0]:=List.set_append_left _ _ h
theorem at8_front (l:List UInt8) (i:Nat) (h:i < l.length):at8 (l ++ [0]) i = at8 l i:=by simp [at8,List.getElem?_append_left h]
set_option maxHeartbeats 1000000 in
set_option maxRecDepth 100000 in
theorem multiplier_any (key:List UInt8) (w:World) (hk:key.length = 32) :
  Calls Tryz.prog 144 #[.agg (key.map bv).toArray] w fun e w' => e = .returned (.agg ((clampB key ++ [0]).map bv).toArray) ∧ Below w.heap.size w w':=by
 obtain ⟨a1,a0⟩:=arr_new2 w 24 key z17 183
 have b1:Below w.heap.size w ((w.alloc (.cells (key.map bv).toArray 24)).alloc (.cells (z17.map bv).toArray 183)):=((Below.refl _ _).alloc (Nat.le_refl _) _).alloc (by simp) _
 have a2:=heap_alloc_new ((w.alloc (.cells (key.map bv).toArray 24)).alloc (.cells (z17.map bv).toArray 183)) (.cells (z17.map bv).toArray 183)
 rw [World.size_alloc,World.size_alloc] at a2
 have a11:=a1.alloc (.cells (z17.map bv).toArray 183)
 have a01:=a0.alloc (.cells (z17.map bv).toArray 183)
 have b2:=b1.alloc (by simp <;> omega) (.cells (z17.map bv).toArray 183)
 have hR:Arr (((w.alloc (.cells (key.map bv).toArray 24)).alloc (.cells (z17.map bv).toArray 183)).alloc (.cells (z17.map bv).toArray 183)) w.heap.size 24 key ∧ MK w (w.heap.size + 1 + 1) (w.heap.size + 1) z17 (((w.alloc (.cells (key.map bv).toArray 24)).alloc (.cells (z17.map bv).toArray 183)).alloc (.cells (z17.map bv).toArray 183)):=
  ⟨a01,a2,a11,by omega,by omega,by omega,b2⟩
 have HR:Hid _:=hR
 clear a0 a1 a2 a11 a01 b1 b2 hR
 go_enter Tryz.func144,Tryz.ntmps144
 go_wp2
 refine from_world (P:=Code.wp Tryz.prog _ _ _) (R:=fun W => Hid (Arr W w.heap.size 24 key ∧ MK w (w.heap.size + 1 + 1) (w.heap.size + 1) z17 W)) _ HR ?_
 intro W0 hN0
 clear HR
 generalize w.heap.size + 1 + 1 = g at hN0 ⊢
 generalize w.heap.size + 1 = r at hN0 ⊢
 generalize hb0:w.heap.size = b0 at hN0 ⊢
 obtain ⟨hK,hM⟩:=hN0.out
 obtain ⟨W1,hW1⟩:∃ W1,W0.drew = W1:=⟨_,rfl⟩
 have hK1:Arr W1 b0 24 key:=by rw [← hW1];exact hK
 have hM1:MK w g r z17 W1:=by rw [← hW1];exact ⟨hM.now,hM.res,hM.nr,hM.bg,hM.br,hM.bel.drew⟩
 have hcp:=run_copy_row Tryz.prog W1 22 22 3 5 g 0 17 17 ⟨b0,0,none⟩ 16 32 _ _ ((key.take 16).map bv) Tryz.underlying22 Tryz.info1U8 hM1.now
  (by rw [List.length_map,List.length_take,hk];rfl) (fun j v hj => ((hK1.byt 32 hk).cut (by omega)).cells _ rfl j v hj) (by simp [z17];omega) (bv_oneCell _)
 have h16:((key.take 16).map bv).length = 16:=by simp [hk]
 rw [h16] at hcp
 have erow:(z17.map bv).take 0 ++ (key.take 16).map bv ++ (z17.map bv).drop (0 + 16) = (clM 3 0 key ++ [0]).map bv:=by
  rw [clM_none key hk,List.map_append];rfl
 simp only [] at hcp
 rw [erow] at hcp
 have hM2:MK w g r (clM 3 0 key ++ [0]) (W1.setRow g ((clM 3 0 key ++ [0]).map bv).toArray):=
  ⟨hM1.now.put _,hM1.res.keep hM1.nr _,hM1.nr,hM1.bg,hM1.br,below_setRow hM1.bel hM1.bg _⟩
 obtain ⟨W2,hW2⟩:∃ W2,W1.setRow g ((clM 3 0 key ++ [0]).map bv).toArray = W2:=⟨_,rfl⟩
 rw [hW2] at hcp hM2
 have HM2:Hid (MK w g r (clM 3 0 key ++ [0]) W2):=hM2
 have HW1:Hid (W0.drew = W1):=hW1
 clear hM2 hW1 hW2 erow h16 hM1 hK1 hM hK hN0
 refine wp_region_sched' (G:=fun _ _ => True) (by kernel_rfl) (fun _ => trivial) (fun _ _ _ _ _ => trivial) (by kernel_rfl) [(0,true),(1,true),(2,false)] rfl (by kernel_rfl) ?_
 intro KK hKK
 rw [HW1.out]
 iterate 2 (refine sched_take rfl (by rfl) (v:=?_) ?_ ?_;rotate_left;(intro w' hw';clear hw';go_simp;with_reducible rfl);go_simp)
 refine sched_val (w':=W2) (v:=goInt 16) rfl (by rfl) (by go_simp) trivial ?_
 clear hcp
 go_simp
 refine sched_done hKK ?_
 go_wp2
 go_loopw [4] (fun i wr => ∃ j:Nat,j ≤ 4 ∧ i = .int .i64 ((3 + 4 * j:Nat):Int) ∧ Hid (MK w g r (clM (3 + 4 * j) 0 key ++ [0]) wr)) (fun i _ => 20 - (intOf i).toNat)
 case atStart => exact ⟨0,by omega,rfl,HM2⟩
 case round =>
  clear HM2
  obtain ⟨j,hj,rfl,hN⟩:=hrel
  obtain ⟨p,hp⟩:∃ p,3 + 4 * j = p:=⟨_,rfl⟩
  rw [hp] at hN ⊢
  by_cases hlt:j < 4
  ·have hp16:(p:Int) < 16:=by omega
   have hp17:(p:Int) < 17:=by omega
   obtain ⟨cc,fr⟩:=hN.out.now.at_ p (by simp [clM_length];omega)
   rw [at8_front _ _ (by rw [clM_length];omega),clM_at p 0 key p (by omega),if_neg (by omega),if_neg (by omega)] at cc
   obtain ⟨x,hx⟩:∃ x,(at8 key p).toNat = x:=⟨_,rfl⟩
   have hxb:x < 256:=by rw [← hx];exact (at8 key p).toNat_lt
   rw [hx] at cc
   have e16:((x % 16:Nat):Int) = (x:Int) % 16:=by omega
   have hN1:=hN.out.set p (UInt8.ofNat (x % 16))
   rw [set_front _ _ _ (by rw [clM_length];omega)] at hN1
   have hs:=clM_set1 key j hlt
   rw [hp,hx] at hs
   rw [hs] at hN1
   have ev:(UInt8.ofNat (x % 16)).toNat = x % 16:=by simp;omega
   rw [ev] at hN1
   rw [e16] at hN1
   have HN1:Hid (MK w g r (clM (3 + 4 * (j + 1)) 0 key ++ [0]) (wr.setCell ⟨g,p,none⟩ (.int .u8 ((x:Int) % 16)))):=hN1
   clear hN hN1 hs ev hx e16
   go_wp2
   exact ⟨⟨j + 1,by omega,by go_num,HN1⟩,by simp [intOf];omega⟩
  ·have hp16:¬ (p:Int) < 16:=by omega
   have HN4:Hid (MK w g r (clM 19 4 key ++ [0]) wr):=by
    rw [← clM_next,← show p = 19 by omega];exact hN
   clear hN
   go_wp2
   go_loopw [5] (fun i wr => ∃ j:Nat,j ≤ 3 ∧ i = .int .i64 ((4 + 4 * j:Nat):Int) ∧ Hid (MK w g r (clM 19 (4 + 4 * j) key ++ [0]) wr)) (fun i _ => 20 - (intOf i).toNat)
   case atStart => exact ⟨0,by omega,rfl,HN4⟩
   case round =>
    clear HN4 hp hp16 hlt hj
    obtain ⟨j,hj,rfl,hN⟩:=hrel
    obtain ⟨p,hp⟩:∃ p,4 + 4 * j = p:=⟨_,rfl⟩
    rw [hp] at hN ⊢
    by_cases hlt:j < 3
    ·have hp16:(p:Int) < 16:=by omega
     have hp17:(p:Int) < 17:=by omega
     obtain ⟨cc,fr⟩:=hN.out.now.at_ p (by simp [clM_length];omega)
     rw [at8_front _ _ (by rw [clM_length];omega),clM_at 19 p key p (by omega),if_neg (by omega),if_neg (by omega)] at cc
     obtain ⟨x,hx⟩:∃ x,(at8 key p).toNat = x:=⟨_,rfl⟩
     have hxb:x < 256:=by rw [← hx];exact (at8 key p).toNat_lt
     rw [hx] at cc
     have E1:Hid (bits .and .u8 (x:Int) 252 = ((x / 4 * 4:Nat):Int)):=and8_252 x hxb
     have hN1:=hN.out.set p (UInt8.ofNat (x / 4 * 4))
     rw [set_front _ _ _ (by rw [clM_length];omega)] at hN1
     have hs:=clM_set2 key j hlt
     rw [hp,hx] at hs
     rw [hs] at hN1
     have ev:(UInt8.ofNat (x / 4 * 4)).toNat = x / 4 * 4:=by simp;omega
     rw [ev] at hN1
     have HN1:Hid (MK w g r (clM 19 (4 + 4 * (j + 1)) key ++ [0]) (wr.setCell ⟨g,p,none⟩ (.int .u8 ((x / 4 * 4:Nat):Int)))):=hN1
     clear hN hN1 hs ev hx
     go_wp2
     rw [E1.out]
     exact ⟨⟨j + 1,by omega,by go_num,HN1⟩,by simp [intOf];omega⟩
    ·have hp16:¬ (p:Int) < 16:=by omega
     obtain ⟨C,hC⟩:∃ C,clampB key ++ [0] = C:=⟨_,rfl⟩
     have hCl:C.length = 17:=by rw [← hC];simp [clampB_length]
     have HN4:Hid (MK w g r C wr):=by
      rw [← hC,← clM_all,← show p = 16 by omega];exact hN
     have HC:Hid (clampB key ++ [0] = C):=hC
     have IC:Hid ((Tryz.prog.info? 183).map (·.size) = some (C.map bv).toArray.size):=arr17_info C hCl
     have hst:=store_row wr r _ _ (C.map bv) HN4.out.res (by simp [hCl,z17]) (bv_oneCell C)
     have hrow:=setRow_heap wr r _ (C.map bv).toArray _ _ HN4.out.res
     have HBel:Hid (Below w.heap.size w (wr.setRow r (C.map bv).toArray)):=below_setRow HN4.out.bel HN4.out.br _
     obtain ⟨W4,hW4⟩:∃ W4,wr.setRow r (C.map bv).toArray = W4:=⟨_,rfl⟩
     rw [hW4] at hst hrow HBel
     have HRow:Hid (W4.heap[r]? = some (.cells (C.map bv).toArray 183 (0,0))):=hrow
     clear hrow hW4 hC hN
     go_wp2_with (first | (refine wpList_load_row rfl 183 _ rfl g rfl 183 _ (0,0) _ HN4.out.now Tryz.underlying183 rfl IC.out ?_))
     (try simp only [Exit.inBlock,Exit.then])
     refine bodyPost_ret (results_cell_row rfl _ _ r 183 _ (0,0) _ rfl HRow.out Tryz.underlying183 rfl IC.out) rfl ?_
     exact ⟨by rw [← HC.out,List.map_append];rfl,by rw [← hb0];exact HBel.out⟩
theorem add64 (x y c:Int) (hx:0 ≤ x) (hy:0 ≤ y) (hc0:0 ≤ c) (hc:c ≤ 1) (w:World):(callFunc 118 #[.int .u64 x,.int .u64 y,.int .u64 c]).run Tryz.prog w =
  .ok (.value (.tuple #[.int .u64 ((x + y + c) % 18446744073709551616),.int .u64 ((x + y + c) / 18446744073709551616)])) w:=by
 rw [run_callFunc_extern Tryz.func118 (by kernel_rfl) (by kernel_rfl) (by kernel_rfl) (e:=add64Entry) (by kernel_rfl),run_add64 x y c hx hy hc0 hc]
 rfl
theorem add64_nat (x y c s o:Nat) (hc:c ≤ 1) (hs:(x + y + c) % 18446744073709551616 = s) (ho:(x + y + c) / 18446744073709551616 = o) (w:World):(callFunc 118 #[.int .u64 (x:Int),.int .u64 (y:Int),.int .u64 (c:Int)]).run Tryz.prog w =
  .ok (.value (.tuple #[.int .u64 (s:Int),.int .u64 (o:Int)])) w:=by
 have e1:((x:Int) + (y:Int) + (c:Int)) % 18446744073709551616 = (s:Int):=by omega
 have e2:((x:Int) + (y:Int) + (c:Int)) / 18446744073709551616 = (o:Int):=by omega
 rw [add64 _ _ _ (by omega) (by omega) (by omega) (by omega),e1,e2]
theorem pow26:(67108864:Nat) ^ 5 = 2 ^ 130:=by decide
theorem or_sum (x y m:Nat) (z:Int) (hz:z = ((y * 2 ^ m:Nat):Int)) (hx:x < 2 ^ m) (hy:x + y * 2 ^ m < 18446744073709551616):bits .or .u64 (x:Int) z = ((x + y * 2 ^ m:Nat):Int):=by
 rw [hz,or_val64 x (y * 2 ^ m) (by omega) (by omega),Nat.or_comm,or_far y x m hx,Nat.add_comm]
theorem low_word (a b c:Nat) (ha:a < 67108864) (hb:b < 67108864) (hc:c < 67108864) :
  bits .or .u64 (bits .or .u64 (a:Int) ((b:Int) * 67108864)) (IntKind.u64.wrap ((c:Int) * 4503599627370496)) = ((a + b * 67108864 + c % 4096 * 4503599627370496:Nat):Int):=by
 rw [or_sum a b 26 ((b:Int) * 67108864) (by simp) (by omega) (by omega)]
 exact or_sum (a + b * 67108864) (c % 4096) 52 _ (by rw [IntKind.wrap_u64];omega) (by omega) (by omega)
theorem high_word (c d e:Nat) (hc:c < 67108864) (hd:d < 67108864) (he:e < 67108864) :
  bits .or .u64 (bits .or .u64 ((c:Int) / 4096) ((d:Int) * 16384)) (IntKind.u64.wrap ((e:Int) * 1099511627776)) = ((c / 4096 + d * 16384 + e % 16777216 * 1099511627776:Nat):Int):=by
 rw [show (c:Int) / 4096 = ((c / 4096:Nat):Int) by omega,or_sum (c / 4096) d 14 ((d:Int) * 16384) (by simp) (by omega) (by omega)]
 exact or_sum (c / 4096 + d * 16384) (e % 16777216) 40 _ (by rw [IntKind.wrap_u64];omega) (by omega) (by omega)
set_option maxHeartbeats 400000 in
set_option maxRecDepth 100000 in
theorem least_any (a b c d e:Nat) (w:World) (ha:a < 67108864) (hb:b < 67108864) (hc:c < 67108864) (hd:d < 67108864) (he:e < 67108864) (W:Nat) (hW:valL [a,b,c,d,e] % P1305 = W) :
  Calls Tryz.prog 164 #[.agg ([a,b,c,d,e].map nv).toArray] w fun x w' => x = .returned (.tuple #[.int .u64 ((W % 18446744073709551616:Nat):Int),.int .u64 ((W / 18446744073709551616 % 18446744073709551616:Nat):Int)]) ∧ Below w.heap.size w w':=by
 show Calls Tryz.prog 164 #[.agg #[.int .u64 (a:Int),.int .u64 (b:Int),.int .u64 (c:Int),.int .u64 (d:Int),.int .u64 (e:Int)]] w _
 obtain ⟨e1,e2,e3⟩:=least_five a b c d e ha hb hc hd he
 have HL0:=low_word a b c ha hb hc
 have HH0:=high_word c d e hc hd he
 rw [e1] at HL0
 rw [e2] at HH0
 have hVb:=valL_lt [a,b,c,d,e] (by simp;omega)
 rw [show [a,b,c,d,e].length = 5 from rfl,pow26] at hVb
 have hT0:(e:Int) / 16777216 = ((e / 16777216:Nat):Int):=by omega
 rw [e3] at hT0
 obtain ⟨V,hV⟩:∃ V,valL [a,b,c,d,e] = V:=⟨_,rfl⟩
 rw [hV] at HL0 HH0 hVb hW hT0
 obtain ⟨W',hW',hlo,hhi⟩:=tag_words V 0 hVb
 rw [hW] at hW'
 subst hW'
 obtain ⟨L,hL⟩:∃ L,V % 18446744073709551616 = L:=⟨_,rfl⟩
 obtain ⟨H,hH⟩:∃ H,V / 18446744073709551616 % 18446744073709551616 = H:=⟨_,rfl⟩
 obtain ⟨T,hT⟩:∃ T,V / 340282366920938463463374607431768211456 = T:=⟨_,rfl⟩
 rw [hL] at HL0
 rw [hH] at HH0
 rw [hT] at hT0
 obtain ⟨ML,hML⟩:∃ ML,(L + 5) % 18446744073709551616 = ML:=⟨_,rfl⟩
 obtain ⟨C1,hC1⟩:∃ C1,(L + 5) / 18446744073709551616 = C1:=⟨_,rfl⟩
 obtain ⟨MH,hMH⟩:∃ MH,(H + C1) % 18446744073709551616 = MH:=⟨_,rfl⟩
 obtain ⟨C2,hC2⟩:∃ C2,(H + C1) / 18446744073709551616 = C2:=⟨_,rfl⟩
 have hLb:L < 18446744073709551616:=by omega
 have hHb:H < 18446744073709551616:=by omega
 have hC1b:C1 ≤ 1:=by omega
 have hC2b:C2 ≤ 1:=by omega
 have hTb:T < 4:=by omega
 have A1:∀ w',(callFunc 118 #[.int .u64 (L:Int),.int .u64 5,.int .u64 0]).run Tryz.prog w' = .ok (.value (.tuple #[.int .u64 (ML:Int),.int .u64 (C1:Int)])) w':=add64_nat L 5 0 ML C1 (by omega) (by omega) (by omega)
 have A2:∀ w',(callFunc 118 #[.int .u64 (H:Int),.int .u64 0,.int .u64 (C1:Int)]).run Tryz.prog w' = .ok (.value (.tuple #[.int .u64 (MH:Int),.int .u64 (C2:Int)])) w':=add64_nat H 0 C1 MH C2 (by omega) (by omega) (by omega)
 have HL:Hid _:=HL0
 have HH:Hid _:=HH0
 have HT:Hid _:=hT0
 have HBel:Hid (Below w.heap.size w (w.alloc (.cells #[.int .u64 (a:Int),.int .u64 (b:Int),.int .u64 (c:Int),.int .u64 (d:Int),.int .u64 (e:Int)] 181))):=(Below.refl _ _).alloc (Nat.le_refl _) _
 by_cases hov:2 ^ 130 ≤ V + 5
 ·obtain ⟨r1,r2⟩:=hhi hov
  have htc:3 < (T:Int) + (C2:Int):=by omega
  have R1:Hid (W' % 18446744073709551616 = ML):=by show _ = _;rw [r1];omega
  have R2:Hid (W' / 18446744073709551616 % 18446744073709551616 = MH):=by show _ = _;rw [r2];omega
  clear HL0 HH0 hT0 e1 e2 e3 hVb hV hW hlo hhi hL hH hT hML hC1 hMH hC2 r1 r2 hov
  go_enter Tryz.func164,Tryz.ntmps164
  go_wp2_with fail
  rw [HL.out,HH.out,HT.out]
  simp only [A1]
  go_wp2_with (first | simp only [A2])
  go_ret2
  exact ⟨by rw [R1.out,R2.out];rfl,HBel.out⟩
 ·obtain ⟨r1,r2⟩:=hlo (by omega)
  have htc:¬ 3 < (T:Int) + (C2:Int):=by omega
  have R1:Hid (W' % 18446744073709551616 = L):=by show _ = _;rw [r1];omega
  have R2:Hid (W' / 18446744073709551616 % 18446744073709551616 = H):=by show _ = _;rw [r2];omega
  clear HL0 HH0 hT0 e1 e2 e3 hVb hV hW hlo hhi hL hH hT hML hC1 hMH hC2 r1 r2 hov
  go_enter Tryz.func164,Tryz.ntmps164
  go_wp2_with fail
  rw [HL.out,HH.out,HT.out]
  simp only [A1]
  go_wp2_with (first | simp only [A2])
  go_ret2
  exact ⟨by rw [R1.out,R2.out];rfl,HBel.out⟩
structure TG (w:World) (l:List Nat) (key:List UInt8) (W:World):Prop where
 num:Num W w.heap.size l
 key:Arr W (w.heap.size + 1) 24 key
 res:Arr W (w.heap.size + 1 + 1) 119 (List.replicate 16 0)
 bel:Below w.heap.size w W
theorem TG.new (w:World) (l:List Nat) (key:List UInt8):TG w l key (((w.alloc (.cells (l.map nv).toArray 181)).alloc (.cells (key.map bv).toArray 24)).alloc (.cells ((List.replicate 16 0).map bv).toArray 119)):=by
 have h0:Num (w.alloc (.cells (l.map nv).toArray 181)) w.heap.size l:=heap_alloc_new w _
 have h1:=Arr.new (w.alloc (.cells (l.map nv).toArray 181)) 24 key
 have h2:=Arr.new ((w.alloc (.cells (l.map nv).toArray 181)).alloc (.cells (key.map bv).toArray 24)) 119 (List.replicate 16 0)
 rw [World.size_alloc] at h1
 rw [World.size_alloc,World.size_alloc] at h2
 exact ⟨(h0.alloc _).alloc _,h1.alloc _,h2,(((Below.refl _ _).alloc (Nat.le_refl _) _).alloc (by simp) _).alloc (by simp <;> omega) _⟩
theorem TG.later {w W W':World} {l:List Nat} {key:List UInt8} (t:TG w l key W) (hb:Below W.heap.size W W'):TG w l key W':=
 ⟨t.num.later hb,t.key.later hb,t.res.later hb,t.bel.trans (hb.mono t.bel.size)⟩
theorem run_loadVar_byt (W:World) (ty:TypeId) (b off n m:Nat) (e:TypeId) (l:List UInt8) (hB:Byt W (some ⟨b,off,none⟩) n l) (hu:Tryz.prog.underlying ty = some (.array m e)) (hi:(Tryz.prog.info? ty).map (·.size) = some n) :
  (loadVar ty ⟨b,off,none⟩).run Tryz.prog W = .ok (.agg (l.map bv).toArray) W:=by
 have hl:=hB.1
 have hld:(loadCells ⟨b,off,none⟩ n).run Tryz.prog W = .ok (l.map bv).toArray W:=by
  have:=run_loadCells_list (P:=Tryz.prog) W ⟨b,off,none⟩ (l.map bv) (fun j v hv => hB.cells _ rfl j v hv)
  rw [List.length_map,hl] at this
  exact this
 cases hq:Tryz.prog.info? ty with
 | none => simp [hq] at hi
 | some i =>
  have hs:i.size = n:=by simpa [hq] using hi
  have hagg:(isAgg ty).run Tryz.prog W = .ok true W:=by
   unfold isAgg
   rw [Sem.run_bind,run_underlying hu W]
   simp
  simp [loadVar,Sem.run_bind,hagg,sizeOf,typeInfo,hq,hs,hld]
theorem wpList_load_byt {ops:Array Oper} {rest:List Oper} {o:Oper} {a:Act} {W:World} {Q:Exit → Act → World → Prop} (hgd:o.guard = none) (ty:TypeId) (x:Operand) (ho:o.op = .load ty x)
  (b off n m:Nat) (e:TypeId) (l:List UInt8) (hx:a.eval x = .pointer (some ⟨b,off,none⟩)) (hB:Byt W (some ⟨b,off,none⟩) n l) (hu:Tryz.prog.underlying ty = some (.array m e)) (hi:(Tryz.prog.info? ty).map (·.size) = some n)
  (h:wpList Tryz.prog ops Q rest (a.put o.dst (.agg (l.map bv).toArray)) W):wpList Tryz.prog ops Q (o :: rest) a W:=by
 refine wpList_plain hgd fun K hK => ?_
 unfold Oper.wp execOp
 simp only [ho,hx,Instr.loadAt,Instr.sureAddr,Sem.run_bind,Sem.run_pure,Result.andThen_ok,run_loadVar_byt W ty b off n m e l hB hu hi]
 exact hK _ _ h
theorem arr16_info (l:List UInt8) (hl:l.length = 16):(Tryz.prog.info? 119).map (·.size) = some (l.map bv).toArray.size:=by
 have e1:(Tryz.prog.info? 119).map (·.size) = some 16:=by kernel_rfl
 rw [e1];simp [hl]
theorem leB_two:∀ a b n,leB (a + b) n = leB a n ++ leB b (n / 256 ^ a)
 | 0,b,n => by simp [leB]
 | a + 1,b,n => by
  rw [show a + 1 + b = (a + b) + 1 by omega,leB,leB,leB_two a b (n / 256),Nat.div_div_eq_div_mul,Nat.pow_succ,Nat.mul_comm 256]
  rfl
theorem leB_mod:∀ a n,leB a (n % 256 ^ a) = leB a n
 | 0,n => rfl
 | a + 1,n => by
  have e1:n % 256 ^ (a + 1) % 256 = n % 256:=by rw [Nat.pow_succ,Nat.mul_comm];exact Nat.mod_mul_right_mod n 256 _
  have e2:n % 256 ^ (a + 1) / 256 = n / 256 % 256 ^ a:=by rw [Nat.pow_succ,Nat.mul_comm];exact Nat.mod_mul_right_div_self n 256 _
  rw [leB,leB,e1,e2,leB_mod a]
theorem tag_bytes (A S LW C HW:Nat) (hS:S < 340282366920938463463374607431768211456) (h1:(A % 18446744073709551616 + S % 18446744073709551616) % 18446744073709551616 = LW) (h2:(A % 18446744073709551616 + S % 18446744073709551616) / 18446744073709551616 = C)
  (h3:(A / 18446744073709551616 % 18446744073709551616 + S / 18446744073709551616 + C) % 18446744073709551616 = HW):putB 8 LW false ++ putB 8 HW false = leB 16 (A + S):=by
 have e:=leB_two 8 8 (A + S)
 have m1:=leB_mod 8 (A + S)
 have m2:=leB_mod 8 ((A + S) / 256 ^ 8)
 have hp:(256:Nat) ^ 8 = 18446744073709551616:=by decide
 rw [hp] at e m1 m2
 have k1:(A + S) % 18446744073709551616 = LW:=by omega
 have k2:(A + S) / 18446744073709551616 % 18446744073709551616 = HW:=by omega
 rw [k1] at m1
 rw [k2] at m2
 show leB 8 LW ++ leB 8 HW = _
 rw [e,m1,m2]
theorem least_list (l:List Nat) (w:World) (hl:l.length = 5) (hb:∀ x ∈ l,x < 67108864) (A LO HI:Nat) (hA:valL l % P1305 = A) (h1:A % 18446744073709551616 = LO) (h2:A / 18446744073709551616 % 18446744073709551616 = HI) :
  Calls Tryz.prog 164 #[.agg (l.map nv).toArray] w fun x w' => x = .returned (.tuple #[.int .u64 (LO:Int),.int .u64 (HI:Int)]) ∧ Below w.heap.size w w':=by
 obtain ⟨a,b,c,d,e,rfl⟩:=five l hl
 simp only [List.mem_cons,List.not_mem_nil,or_false,forall_eq_or_imp,forall_eq] at hb
 obtain ⟨ha,hb,hc,hd,he⟩:=hb
 have:=least_any a b c d e w ha hb hc hd he A hA
 rw [h1,h2] at this
 exact this
theorem polyS_words (key:List UInt8):getV key false 16 8 = polyS key % 18446744073709551616 ∧ getV key false 24 8 = polyS key / 18446744073709551616:=by
 have h0:polyS key = leN key / 256 ^ 16 % 256 ^ 16:=leN_cut key 16 16
 rw [getV_cut,getV_cut,h0]
 generalize leN key = N
 have p1:(256:Nat) ^ 16 = 340282366920938463463374607431768211456:=by decide
 have p2:(256:Nat) ^ 8 = 18446744073709551616:=by decide
 have p3:(256:Nat) ^ 24 = 6277101735386680763835789423207666416102355444464034512896:=by decide
 rw [p1,p2,p3]
 omega
set_option maxHeartbeats 400000 in
set_option maxRecDepth 100000 in
theorem tag_any (l:List Nat) (key:List UInt8) (w:World) (hl:l.length = 5) (hb:∀ x ∈ l,x < 67108864) (hk:key.length = 32) :
  Calls Tryz.prog 148 #[.agg (l.map nv).toArray,.agg (key.map bv).toArray] w fun e w' => e = .returned (.agg ((leB 16 (valL l % P1305 + polyS key)).map bv).toArray) ∧ Below w.heap.size w w':=by
 have IN:Hid ((Tryz.prog.info? 181).map (·.size) = some (l.map nv).toArray.size):=num_info l hl
 go_enter Tryz.func148,Tryz.ntmps148
 go_wp2_with (first | (refine wpList_load_row rfl 181 _ rfl w.heap.size rfl 181 _ (0,0) _ (TG.new w l key).num Tryz.underlying181 rfl IN.out ?_))
 obtain ⟨A,hA⟩:∃ A,valL l % P1305 = A:=⟨_,rfl⟩
 obtain ⟨S,hS⟩:∃ S,polyS key = S:=⟨_,rfl⟩
 obtain ⟨LO,hLO⟩:∃ LO,A % 18446744073709551616 = LO:=⟨_,rfl⟩
 obtain ⟨HI,hHI⟩:∃ HI,A / 18446744073709551616 % 18446744073709551616 = HI:=⟨_,rfl⟩
 obtain ⟨s0,s1⟩:=polyS_words key
 have hSb:=polyS_lt key
 rw [hS] at s0 s1 hSb
 have hSb':S < 340282366920938463463374607431768211456:=hSb
 obtain ⟨S0,hS0⟩:∃ S0,S % 18446744073709551616 = S0:=⟨_,rfl⟩
 obtain ⟨S1,hS1⟩:∃ S1,S / 18446744073709551616 = S1:=⟨_,rfl⟩
 rw [hS0] at s0
 rw [hS1] at s1
 obtain ⟨LW,hLW⟩:∃ LW,(LO + S0) % 18446744073709551616 = LW:=⟨_,rfl⟩
 obtain ⟨C,hC⟩:∃ C,(LO + S0) / 18446744073709551616 = C:=⟨_,rfl⟩
 obtain ⟨HW,hHW⟩:∃ HW,(HI + S1 + C) % 18446744073709551616 = HW:=⟨_,rfl⟩
 obtain ⟨D,hD⟩:∃ D,(HI + S1 + C) / 18446744073709551616 = D:=⟨_,rfl⟩
 have HE:Hid (putB 8 LW false ++ putB 8 HW false = leB 16 (A + S)):=tag_bytes A S LW C HW hSb' (by rw [hLO,hS0];exact hLW) (by rw [hLO,hS0];exact hC) (by rw [hHI,hS1];exact hHW)
 have A1:∀ w',(callFunc 118 #[.int .u64 (LO:Int),.int .u64 (S0:Int),.int .u64 0]).run Tryz.prog w' = .ok (.value (.tuple #[.int .u64 (LW:Int),.int .u64 (C:Int)])) w':=add64_nat LO S0 0 LW C (by omega) (by omega) (by omega)
 have A2:∀ w',(callFunc 118 #[.int .u64 (HI:Int),.int .u64 (S1:Int),.int .u64 (C:Int)]).run Tryz.prog w' = .ok (.value (.tuple #[.int .u64 (HW:Int),.int .u64 (D:Int)])) w':=add64_nat HI S1 C HW D (by omega) (by omega) (by omega)
 have HAS:Hid (leB 16 (valL l % P1305 + polyS key) = leB 16 (A + S)):=by show _ = _;rw [hA,hS]
 refine (least_list l _ hl hb A LO HI hA hLO hHI).mono ?_
 rintro e w1 ⟨rfl,hb1⟩
 have HT1:Hid (TG w l key w1):=(TG.new w l key).later hb1
 have HK1:Hid (Byt w1 (some ⟨w.heap.size + 1,0,none⟩) 32 key):=HT1.out.key.byt 32 hk
 clear hb1 hA hS hLO hHI hSb hSb' hS0 hS1 hLW hC hHW hD
 go_wp2_with fail
 refine (get_yes (w.heap.size + 1) 0 32 32 16 8 false key _ (by unfold maxLen;omega) (by omega) HK1.out (by omega) (by omega) (by omega)).mono ?_
 rintro e w2 ⟨rfl,rfl⟩
 rw [s0]
 go_wp2_with fail
 refine (get_yes (w.heap.size + 1) 0 32 32 24 8 false key _ (by unfold maxLen;omega) (by omega) HK1.out (by omega) (by omega) (by omega)).mono ?_
 rintro e w3 ⟨rfl,rfl⟩
 rw [s1]
 go_wp2_with (first | rw [A1] | rw [A2])
 refine (put_any none 0 0 8 LW false [] _ (by omega) ⟨rfl,.inl rfl⟩ 8 (by decide)).mono ?_
 rintro e w4 ⟨g4,rfl,hg4,hb4,hB4⟩
 have HT4:Hid (TG w l key w4):=HT1.out.later hb4
 have HB4:Hid (Byt w4 (some ⟨g4,0,none⟩) 8 (putB 8 LW false)):=hB4
 clear hb4 hB4
 go_wp2_with fail
 refine (put_any (some ⟨g4,0,none⟩) 8 8 8 HW false _ _ (by omega) HB4.out 8 (by decide)).mono ?_
 rintro e w5 ⟨g5,rfl,hg5,hb5,hB5⟩
 have HT5:Hid (TG w l key w5):=HT4.out.later hb5
 have hB5':Byt w5 (some ⟨g5,0,none⟩) 16 (leB 16 (A + S)):=by rw [← HE.out];exact hB5
 obtain ⟨T,hT⟩:∃ T,leB 16 (A + S) = T:=⟨_,rfl⟩
 have hTl:T.length = 16:=by rw [← hT,leB_length]
 rw [hT] at hB5'
 have HT:Hid (leB 16 (valL l % P1305 + polyS key) = T):=HAS.out.trans hT
 have hat:(Instr.arrayAt 119 (.slice (some ⟨g5,0,none⟩) 16 16)).run Tryz.prog w5 = .ok (.pointer (some ⟨g5,0,none⟩)) w5:=by simp [Instr.arrayAt,run_underlying Tryz.underlying119]
 have HB5:Hid (Byt w5 (some ⟨g5,0,none⟩) 16 T):=hB5'
 have IT:Hid ((Tryz.prog.info? 119).map (·.size) = some (T.map bv).toArray.size):=arr16_info T hTl
 have hst:=store_row w5 (w.heap.size + 1 + 1) _ _ (T.map bv) HT5.out.res (by simp [hTl]) (bv_oneCell T)
 have hrow:=setRow_heap w5 (w.heap.size + 1 + 1) _ (T.map bv).toArray _ _ HT5.out.res
 have HBel:Hid (Below w.heap.size w (w5.setRow (w.heap.size + 1 + 1) (T.map bv).toArray)):=below_setRow HT5.out.bel (by omega) _
 obtain ⟨W4,hW4⟩:∃ W4,w5.setRow (w.heap.size + 1 + 1) (T.map bv).toArray = W4:=⟨_,rfl⟩
 rw [hW4] at hst hrow HBel
 have HRow:Hid (W4.heap[w.heap.size + 1 + 1]? = some (.cells (T.map bv).toArray 119 (0,0))):=hrow
 clear hb5 hB5 hrow hW4 hT hB5'
 go_wp2_with (first | refine wpList_load_byt rfl 119 _ rfl g5 0 16 16 5 T rfl HB5.out Tryz.underlying119 (by kernel_rfl) ?_)
 (try simp only [Exit.inBlock,Exit.then])
 refine bodyPost_ret (results_cell_row rfl _ _ (w.heap.size + 1 + 1) 119 _ (0,0) _ rfl HRow.out Tryz.underlying119 rfl IT.out) rfl ?_
 exact ⟨by rw [HT.out],HBel.out⟩
structure SM (w:World) (key:List UInt8) (gr ga:Nat) (R A:List Nat) (W:World):Prop where
 key:Arr W w.heap.size 24 key
 res:Arr W (w.heap.size + 1) 119 (List.replicate 16 0)
 r:Num W gr R
 a:Num W ga A
 ne:gr ≠ ga
 ba:w.heap.size + 1 < ga
 bel:Below w.heap.size w W
theorem SM.later {w W W':World} {key:List UInt8} {gr ga:Nat} {R A:List Nat} (t:SM w key gr ga R A W) (hb:Below W.heap.size W W'):SM w key gr ga R A W':=
 ⟨t.key.later hb,t.res.later hb,t.r.later hb,t.a.later hb,t.ne,t.ba,t.bel.trans (hb.mono t.bel.size)⟩
theorem SM.put {w W:World} {key:List UInt8} {gr ga:Nat} {R A:List Nat} (t:SM w key gr ga R A W) (A':List Nat):SM w key gr ga R A' (W.setRow ga (A'.map nv).toArray):=by
 have h1:=t.ba
 refine ⟨t.key.keep (by omega) _,t.res.keep (by omega) _,?_,setRow_heap W ga _ _ _ _ t.a,t.ne,t.ba,below_setRow t.bel (by omega) _⟩
 unfold Num
 rw [setRow_other _ _ _ _ t.ne]
 exact t.r
structure SKP (w:World) (key:List UInt8) (W:World):Prop where
 key:Arr W w.heap.size 24 key
 res:Arr W (w.heap.size + 1) 119 (List.replicate 16 0)
 bel:Below w.heap.size w W
theorem SKP.new (w:World) (key:List UInt8):SKP w key ((w.alloc (.cells (key.map bv).toArray 24)).alloc (.cells ((List.replicate 16 0).map bv).toArray 119)):=by
 obtain ⟨a1,a0⟩:=arr_new2 w 24 key (List.replicate 16 0) 119
 exact ⟨a0,a1,((Below.refl _ _).alloc (Nat.le_refl _) _).alloc (by simp) _⟩
theorem SKP.later {w W W':World} {key:List UInt8} (t:SKP w key W) (hb:Below W.heap.size W W'):SKP w key W':=
 ⟨t.key.later hb,t.res.later hb,t.bel.trans (hb.mono t.bel.size)⟩
theorem SM.new {w W:World} {key:List UInt8} (t:SKP w key W) (R:List Nat):SM w key W.heap.size (W.heap.size + 1) R [0,0,0,0,0] ((W.alloc (.cells (R.map nv).toArray 181)).alloc (.cells #[.int .u64 0,.int .u64 0,.int .u64 0,.int .u64 0,.int .u64 0] 181)):=by
 obtain ⟨h1,h2⟩:=num_new2 W R [0,0,0,0,0]
 have h3:=t.res.lt
 refine ⟨(t.key.alloc _).alloc _,(t.res.alloc _).alloc _,h2,h1,by omega,by omega,(t.bel.alloc t.bel.size _).alloc (by have:=t.bel.size;simp;omega) _⟩
theorem run_store_num (w:World) (l:List Nat) (hn:l.length = 5) (c:Array Value) (hc:c.size = 5) :
  (storeCells ⟨w.heap.size,0,none⟩ (l.map nv)).run Tryz.prog (w.alloc (.cells c 181)) = .ok () (w.alloc (.cells (l.map nv).toArray 181)):=by
 have e1:(Tryz.prog.info? 181).map (·.size) = some 5:=by kernel_rfl
 have:=run_storeCells_new (P:=Tryz.prog) w 181 c (l.map nv).toArray (by rw [e1];simp [hn]) (by simp [hc,hn]) (by
  rw [Array.all_eq_true_iff_forall_mem]
  intro u hu
  simp only [List.mem_toArray] at hu
  exact nv_oneCell l u hu)
 exact this
theorem mod_step (x y r p:Nat):(x + y) * r % p = (x % p + y) * r % p:=by
 rw [Nat.mul_mod (x + y),Nat.mul_mod (x % p + y),Nat.mod_add_mod]
structure AK (key l:List UInt8) (k:Nat) (A:List Nat):Prop where
 len:A.length = 5
 lt:∀ x ∈ A,x < 67108864
 val:valL A % P1305 = polyTo (polyR key) l k
theorem AK.zero (key l:List UInt8):AK key l 0 [0,0,0,0,0]:=⟨rfl,by simp,rfl⟩
theorem AK.next {key l:List UInt8} {k:Nat} {A:List Nat} (h:AK key l k A):AK key l (k + 1) (timL (addTo A (limbs (partN l k)) 5) (limbs (polyR key))):=by
 have h1:=addTo_length A (limbs (partN l k)) 5
 rw [h.len] at h1
 refine ⟨timL_length _ _,timL_lt _ _ (addTo_lt A _ h.len (limbs_length _) h.lt (limbs_lt _)) (limbs_lt _),?_⟩
 rw [timL_val _ _ h1 (limbs_length _),addTo_val A _ h.len (limbs_length _),limbs_val _ (partN_small l k),limbs_val _ (polyR_small key),polyTo,← h.val]
 exact mod_step _ _ _ _
set_option maxHeartbeats 400000 in
set_option maxRecDepth 100000 in
theorem sum_any (key:List UInt8) (a:Option Addr) (len cap:Nat) (l:List UInt8) (w:World) (hk:key.length = 32) (hB:Byt w a len l) (hlm:len ≤ 10000) (hlc:len ≤ cap) (hcm:cap ≤ maxLen) :
  Calls Tryz.prog 113 #[.agg (key.map bv).toArray,.slice a len cap] w fun e w' => e = .returned (.agg ((tag key l).map bv).toArray) ∧ Below w.heap.size w w':=by
 have hl:=hB.1
 have HB:Hid (Byt w a len l):=hB
 have IK:Hid ((Tryz.prog.info? 24).map (·.size) = some (key.map bv).toArray.size):=by
  have e1:(Tryz.prog.info? 24).map (·.size) = some 32:=by kernel_rfl
  show _ = _
  rw [e1];simp [hk]
 unfold maxLen at hcm
 clear hB
 go_enter Tryz.func113,Tryz.ntmps113
 go_wp2_with (first | refine wpList_load_row rfl 24 _ rfl w.heap.size rfl 24 _ (0,0) _ (SKP.new w key).key Tryz.underlying24 rfl IK.out ?_)
 refine (multiplier_any key _ hk).mono ?_
 rintro e w1 ⟨rfl,hb1⟩
 have HS1:Hid (SKP w key w1):=(SKP.new w key).later hb1
 obtain ⟨C,hC⟩:∃ C,clampB key ++ [0] = C:=⟨_,rfl⟩
 have hCl:C.length = 17:=by rw [← hC];simp [clampB_length]
 have eR:leN C = polyR key:=by rw [← hC,leN_append];simp [leN,polyR]
 rw [hC]
 clear hb1 hC
 go_wp2_with fail
 refine (tell_any C w1 hCl).mono ?_
 rintro e w2 ⟨rfl,hb2⟩
 have HS2:Hid (SKP w key w2):=HS1.out.later hb2
 rw [eR]
 obtain ⟨R,hR⟩:∃ R,limbs (polyR key) = R:=⟨_,rfl⟩
 have hRl:R.length = 5:=by rw [← hR,limbs_length]
 have hRb:∀ x ∈ R,x < 67108864:=by rw [← hR];exact limbs_lt _
 rw [hR]
 have HR:Hid (limbs (polyR key) = R):=hR
 have hst:=run_store_num w2 R hRl #[.int .u64 0,.int .u64 0,.int .u64 0,.int .u64 0,.int .u64 0] rfl
 clear hb2 HS1 hR eR
 go_wp2
 clear hst
 refine from_world (P:=Code.wp Tryz.prog _ _ _) (R:=fun W => Hid (SM w key w2.heap.size (w2.heap.size + 1) R [0,0,0,0,0] W)) _ (SM.new HS2.out R) ?_
 intro W0 hM0
 clear HS2
 generalize w2.heap.size + 1 = ga at hM0 ⊢
 generalize w2.heap.size = gr at hM0 ⊢
 go_loopw [7] (fun i wr => ∃ (k:Nat) (A:List Nat),16 * k ≤ len + 15 ∧ i = .int .i64 ((16 * k:Nat):Int) ∧ Hid (AK key l k A) ∧ Hid (SM w key gr ga R A wr)) (fun i _ => len + 16 - (intOf i).toNat)
 case atStart => exact ⟨0,[0,0,0,0,0],by omega,rfl,AK.zero key l,hM0⟩
 case round =>
  clear hM0
  obtain ⟨k,A,hk',rfl,hA,hM⟩:=hrel
  obtain ⟨p,hp⟩:∃ p,16 * k = p:=⟨_,rfl⟩
  rw [hp] at hk' ⊢
  by_cases hlt:p < len
  ·have i1:(p:Int) < (len:Int):=by omega
   obtain ⟨q,hq⟩:∃ q,q = min (p + 16) len:=⟨_,rfl⟩
   have hq1:p < q:=by omega
   have hq2:q ≤ len:=by omega
   have hq3:q - p ≤ 16:=by omega
   have hw16:IntKind.i64.wrap ((p:Int) + 16) = (p:Int) + 16:=by rw [IntKind.wrap_i64];omega
   have hmin:(if (len:Int) < (p:Int) + 16 then (len:Int) else (p:Int) + 16) = (q:Int):=by split <;> omega
   have HPart:Hid ((l.drop p).take (q - p) = cutB l (16 * k) 16):=by
    show _ = _
    unfold cutB
    rw [hp]
    apply List.ext_getElem
    ·simp;omega
    ·intro i h1 h2;simp
   clear hq
   obtain ⟨ba,offa,rfl⟩:∃ ba offa,a = some ⟨ba,offa,none⟩:=by
    rcases HB.out.2 with h0 | ⟨b',off',e,_⟩
    ·omega
    ·exact ⟨b',off',e⟩
   have hba:=HB.out.lt (by omega)
   have hcn:¬ cap = p:=by omega
   have hpc:(p:Int) ≤ (cap:Int):=by omega
   have hqc:(q:Int) ≤ (cap:Int):=by omega
   have hpq:(p:Int) ≤ (q:Int):=by omega
   obtain ⟨W1,hW1⟩:∃ W1,wr.drew = W1:=⟨_,rfl⟩
   have hgr:Below wr.heap.size wr W1:=by rw [← hW1];exact (Below.refl _ _).drew
   have HM1:Hid (SM w key gr ga R A W1):=hM.out.later hgr
   have HP1:Hid (Byt W1 (some ⟨ba,offa + p,none⟩) (q - p) (cutB l (16 * k) 16)):=by
    rw [← HPart.out]
    exact (HB.out.below hba HM1.out.bel).sub (by omega) hq2
   have HW1:Hid (wr.drew = W1):=hW1
   have IA:Hid ((Tryz.prog.info? 181).map (·.size) = some (A.map nv).toArray.size):=num_info A hA.out.len
   have IR:Hid ((Tryz.prog.info? 181).map (·.size) = some (R.map nv).toArray.size):=num_info R hRl
   clear hW1 hgr hM
   go_wp2
   refine wp_region_sched' (G:=Grows) (by kernel_rfl) Grows.refl Grows.trans (by kernel_rfl) [(0,true),(1,true),(2,true),(3,true),(4,true),(5,true),(6,true),(7,true),(8,true),(12,true),(9,false),(10,false),(11,false),(13,false),(14,false)] rfl (by kernel_rfl) ?_
   intro KK hKK
   rw [HW1.out]
   refine sched_take rfl (by rfl) (v:=.agg (A.map nv).toArray) (fun w' hw' => exec_load_row 181 _ rfl ga rfl 181 _ (0,0) _ (HM1.out.a.later hw') Tryz.underlying181 rfl IA.out) ?_
   go_simp
   iterate 8 (refine sched_take rfl (by rfl) (v:=?_) ?_ ?_;rotate_left;(intro w' hw';clear hw';go_simp;with_reducible rfl);go_simp)
   refine sched_take rfl (by rfl) (v:=.agg (R.map nv).toArray) (fun w' hw' => exec_load_row 181 _ rfl gr rfl 181 _ (0,0) _ (HM1.out.r.later hw') Tryz.underlying181 rfl IR.out) ?_
   go_simp
   refine sched_call (f:=146) (args:=#[.slice (some ⟨ba,offa + p,none⟩) (q - p) (cap - p)]) rfl (by rfl) (by go_simp) ?_
   refine (closed_any ba (offa + p) (q - p) (cap - p) _ W1 HP1.out hq3).mono ?_
   rintro e w3 ⟨rfl,hb3⟩
   refine ⟨_,rfl,hb3,?_⟩
   obtain ⟨D,hD⟩:∃ D,cutB l (16 * k) 16 ++ 1 :: List.replicate (16 - (q - p)) 0 = D:=⟨_,rfl⟩
   have hDl:D.length = 17:=by rw [← hD];have:=HP1.out.1;simp;omega
   have eD:leN D = partN l k:=by
    have e:cutB l (16 * k) 16 ++ 1 :: List.replicate (16 - (q - p)) 0 = (cutB l (16 * k) 16 ++ [1]) ++ List.replicate (16 - (q - p)) 0:=by simp
    rw [← hD,e,leN_closed];rfl
   rw [hD]
   have HM3:Hid (SM w key gr ga R A w3):=HM1.out.later hb3
   clear hD hb3 HP1 HM1
   go_simp
   refine sched_call (f:=143) (args:=#[.agg (D.map bv).toArray]) rfl (by rfl) (by go_simp) ?_
   refine (tell_any D w3 hDl).mono ?_
   rintro e w4 ⟨rfl,hb4⟩
   refine ⟨_,rfl,hb4,?_⟩
   rw [eD]
   obtain ⟨N,hN⟩:∃ N,limbs (partN l k) = N:=⟨_,rfl⟩
   have hNl:N.length = 5:=by rw [← hN,limbs_length]
   have hNb:∀ x ∈ N,x < 67108864:=by rw [← hN];exact limbs_lt _
   rw [hN]
   have HM4:Hid (SM w key gr ga R A w4):=HM3.out.later hb4
   clear hb4 HM3
   go_simp
   refine sched_call (f:=145) (args:=#[.agg (A.map nv).toArray,.agg (N.map nv).toArray]) rfl (by rfl) (by go_simp) ?_
   refine (add_any A N w4 hA.out.len hNl (fun x hx => Nat.lt_trans (hA.out.lt x hx) (by decide)) (fun x hx => Nat.lt_trans (hNb x hx) (by decide))).mono ?_
   rintro e w5 ⟨rfl,hb5⟩
   refine ⟨_,rfl,hb5,?_⟩
   obtain ⟨S,hS⟩:∃ S,addTo A N 5 = S:=⟨_,rfl⟩
   have hSl:S.length = 5:=by rw [← hS,addTo_length];exact hA.out.len
   have hSb:∀ x ∈ S,x < 134217728:=by rw [← hS];exact addTo_lt A N hA.out.len hNl hA.out.lt hNb
   rw [hS]
   have HM5:Hid (SM w key gr ga R A w5):=HM4.out.later hb5
   clear hb5 HM4
   go_simp
   refine sched_call (f:=147) (args:=#[.agg (S.map nv).toArray,.agg (R.map nv).toArray]) rfl (by rfl) (by go_simp) ?_
   refine (times_any S R w5 hSl hRl hSb hRb).mono ?_
   rintro e w6 ⟨rfl,hb6⟩
   refine ⟨_,rfl,hb6,?_⟩
   obtain ⟨A',hA'⟩:∃ A',timL S R = A':=⟨_,rfl⟩
   have hAl':A'.length = 5:=by rw [← hA',timL_length]
   have HAK:Hid (AK key l (k + 1) A'):=by
    have:=hA.out.next
    rw [HR.out,hN,hS,hA'] at this
    exact this
   rw [hA']
   have hM6:=HM5.out.later hb6
   have hst:=store_row w6 ga _ _ (A'.map nv) hM6.a (by simp [hAl',hA.out.len]) (nv_oneCell A')
   have HM7:Hid (SM w key gr ga R A' (w6.setRow ga (A'.map nv).toArray)):=hM6.put A'
   clear hb6 HM5 hM6
   go_simp
   refine sched_store rfl (by rfl) (w':=w6.setRow ga (A'.map nv).toArray) (by go_simp) (by kernel_rfl) ?_
   go_simp
   refine sched_done hKK ?_
   clear hst
   go_wp2
   exact ⟨⟨k + 1,A',by omega,by go_num,HAK,HM7⟩,by simp [intOf];omega⟩
  ·have i1:¬ (p:Int) < (len:Int):=by omega
   have hkn:k = polyN l.length:=by unfold polyN;omega
   have IA:Hid ((Tryz.prog.info? 181).map (·.size) = some (A.map nv).toArray.size):=num_info A hA.out.len
   obtain ⟨T,hT⟩:∃ T,tag key l = T:=⟨_,rfl⟩
   have hTl:T.length = 16:=by rw [← hT,tag_length]
   have HT:Hid (leB 16 (valL A % P1305 + polyS key) = T):=by
    show _ = _
    rw [hA.out.val,hkn,← hT];rfl
   have HTT:Hid (tag key l = T):=hT
   clear hT
   go_wp2_with (first | refine wpList_load_row rfl 181 _ rfl ga rfl 181 _ (0,0) _ hM.out.a Tryz.underlying181 rfl IA.out ?_ | refine wpList_load_row rfl 24 _ rfl w.heap.size rfl 24 _ (0,0) _ hM.out.key Tryz.underlying24 rfl IK.out ?_)
   refine (tag_any A key wr hA.out.len hA.out.lt hk).mono ?_
   rintro e w3 ⟨rfl,hb3⟩
   rw [HT.out]
   have hM3:=hM.out.later hb3
   have IT:Hid ((Tryz.prog.info? 119).map (·.size) = some (T.map bv).toArray.size):=arr16_info T hTl
   have hst:=store_row w3 (w.heap.size + 1) _ _ (T.map bv) hM3.res (by simp [hTl]) (bv_oneCell T)
   have hrow:=setRow_heap w3 (w.heap.size + 1) _ (T.map bv).toArray _ _ hM3.res
   have HBel:Hid (Below w.heap.size w (w3.setRow (w.heap.size + 1) (T.map bv).toArray)):=below_setRow hM3.bel (by omega) _
   obtain ⟨W4,hW4⟩:∃ W4,w3.setRow (w.heap.size + 1) (T.map bv).toArray = W4:=⟨_,rfl⟩
   rw [hW4] at hst hrow HBel
   have HRow:Hid (W4.heap[w.heap.size + 1]? = some (.cells (T.map bv).toArray 119 (0,0))):=hrow
   clear hrow hW4 hM3 hb3 hM
   go_wp2
   (try simp only [Exit.inBlock,Exit.then])
   refine bodyPost_ret (results_cell_row rfl _ _ (w.heap.size + 1) 119 _ (0,0) _ rfl HRow.out Tryz.underlying119 rfl IT.out) rfl ?_
   exact ⟨by rw [HTT.out],HBel.out⟩
structure IsSealer (s key nonce:List UInt8):Prop where
 eq:s = key ++ nonce
 k:key.length = 32
 n:nonce.length = 12
theorem IsSealer.len {s key nonce:List UInt8} (h:IsSealer s key nonce):s.length = 44:=by rw [h.eq,List.length_append,h.k,h.n]
theorem IsSealer.key {s key nonce:List UInt8} (h:IsSealer s key nonce) {w:World} {g:Nat} {t:TypeId} (hA:Arr w g t s):Byt w (some ⟨g,0,none⟩) 32 key:=by
 have:=(hA.byt 44 h.len).cut (q:=32) (by omega)
 rwa [h.eq,← h.k,List.take_left,h.k] at this
theorem IsSealer.nonce {s key nonce:List UInt8} (h:IsSealer s key nonce) {w:World} {g:Nat} {t:TypeId} (hA:Arr w g t s):Byt w (some ⟨g,32,none⟩) 12 nonce:=by
 have:=(hA.byt 44 h.len).sub (n:=32) (q:=44) (by omega) (by omega)
 have e:s.drop 32 = nonce:=by rw [h.eq,← h.k,List.drop_left]
 rw [e,List.take_of_length_le (by rw [h.n];omega)] at this
 simpa using this
set_option maxHeartbeats 400000 in
set_option maxRecDepth 100000 in
theorem turn_own (s key nonce:List UInt8) (hs:IsSealer s key nonce) (a:Option Addr) (len cap:Nat) (l:List UInt8) (w:World) (hB:Byt w a len l) (hlm:len ≤ 1000000) (hlc:len ≤ cap) (hcm:cap ≤ maxLen) :
  Calls Tryz.prog 80 #[.agg (s.map bv).toArray,.slice a len cap] w fun e w' => ∃ v,e = .returned v ∧ Below w.heap.size w w' ∧ w'.ownsRow w.heap.size 5 1 v len ((stm key 1#32 nonce l).map bv):=by
 have hA:=Arr.new w 118 s
 have HK:Hid (Byt (w.alloc (.cells (s.map bv).toArray 118)) (some ⟨w.heap.size,0,none⟩) 32 key):=hs.key hA
 have HN:Hid (Byt (w.alloc (.cells (s.map bv).toArray 118)) (some ⟨w.heap.size,32,none⟩) 12 nonce):=hs.nonce hA
 have HB:Hid (Byt w a len l):=hB
 clear hA hB
 go_enter Tryz.func80,Tryz.ntmps80
 go_wp2_with (first | refine wpList_load_byt rfl 24 _ rfl w.heap.size 0 32 32 5 key rfl HK.out Tryz.underlying24 (by kernel_rfl) ?_ | refine wpList_load_byt rfl 90 _ rfl w.heap.size 32 12 12 5 nonce rfl HN.out Tryz.underlying90 (by kernel_rfl) ?_)
 have hb0:Below w.heap.size w (w.alloc (.cells (s.map bv).toArray 118)):=(Below.refl _ _).alloc (Nat.le_refl _) _
 refine (stream_own key nonce 1#32 a len cap l _ hs.k hs.n (HB.out.later hb0) hlm hlc hcm).mono ?_
 rintro e w1 ⟨v1,rfl,hb1,own1⟩
 have HO:Hid (w1.ownsRow w.heap.size 5 1 v1 len ((stm key 1#32 nonce l).map bv)):=own_lower own1 (by simp)
 have HW:Hid (Below w.heap.size w w1):=hb0.trans (hb1.mono (by simp))
 clear hb0 hb1 own1 HK HN HB
 go_wp2
 go_ret
 exact ⟨_,rfl,HW.out,HO.out⟩
set_option maxHeartbeats 400000 in
set_option maxRecDepth 100000 in
theorem pfill_any (a:Option Addr) (len cap:Nat) (l:List UInt8) (w:World) (B:Nat) (hb:B ≤ w.heap.size) (hO:w.ownsRow B 5 1 (.slice a len cap) len (l.map bv)) (hlm:len ≤ 10000) :
  Calls Tryz.prog 111 #[.slice a len cap] w fun e w' => ∃ v,e = .returned v ∧ Below B w w' ∧ w'.ownsRow B 5 1 v (len + padN len) ((pad16 l).map bv):=by
 have hl:l.length = len:=by have:=hO.1;rwa [List.length_map,Nat.mul_one] at this
 have HO1:Hid (w.ownsRow B 5 1 (.slice a len cap) len ((l ++ List.replicate 0 0).map bv)):=by show World.ownsRow _ _ _ _ _ _ _;simpa using hO
 have HW1:Hid (Below B w w):=Below.refl _ _
 clear hO
 go_enter Tryz.func111,Tryz.ntmps111
 go_wp2
 go_loopw [0] (fun v wr => ∃ (j n c:Nat) (a':Option Addr),j ≤ padN len ∧ n = len + j ∧ v = .slice a' n c ∧ Hid (wr.ownsRow B 5 1 (.slice a' n c) n ((l ++ List.replicate j 0).map bv)) ∧ Hid (Below B w wr)) (fun v _ => match v with | .slice _ n _ => len + padN len - n | _ => 0)
 case atStart => exact ⟨0,len,cap,a,Nat.zero_le _,rfl,rfl,HO1,HW1⟩
 case round =>
  clear HO1 HW1
  obtain ⟨j,n,c,a',hj,hn,rfl,hO,hW⟩:=hrel
  by_cases hlt:j < padN len
  ·have hr:(n:Int).tmod 16 = ((n % 16:Nat):Int):=by rw [Int.tmod_eq_emod_of_nonneg (by omega)];omega
   have hne:¬ ((n % 16:Nat):Int) = 0:=by unfold padN at hlt;omega
   obtain ⟨r,hr2⟩:∃ r,n % 16 = r:=⟨_,rfl⟩
   rw [hr2] at hr hne
   have hr3:(n:Int) % 16 = (r:Int):=by omega
   have hone:Byt (wr.alloc (.cells #[.int .u8 0] 5)) (some ⟨wr.heap.size,0,none⟩) 1 [0]:=byt_lit _ [0] wr.heap.size _ _ _ (heap_alloc_new wr _) rfl
   have hsz:=hW.out.size
   obtain ⟨v2,w2,hap2,own2,hg2⟩:=append_bytes (wr.alloc (.cells #[.int .u8 0] 5)) B _ n _ (hO.out.alloc _) ⟨wr.heap.size,0,none⟩ 1 1 [0] hone (by simp;omega) (by unfold padN at hlt;omega)
   rw [← pad_to] at own2
   obtain ⟨a2,c2,rfl,_,_,_,_⟩:=own_parts own2
   have HA2:Hid ((Builtin.append_ #[22,22] 22 #[.slice a' n c,.slice (some ⟨wr.heap.size,0,none⟩) 1 1]).run Tryz.prog (wr.alloc (.cells #[.int .u8 0] 5)) = .ok (.slice a2 (n + 1) c2) w2):=hap2
   have HO2:Hid (w2.ownsRow B 5 1 (.slice a2 (n + 1) c2) (n + 1) ((l ++ List.replicate (j + 1) 0).map bv)):=own2
   have HW2:Hid (Below B w w2):=(hW.out.alloc (Nat.le_trans hb hsz) _).grown hg2 (by simp;omega) (fun k hk => (hO.out.lt k hk).1)
   have HN:Hid (n + 1 = len + (j + 1)):=by show _ = _;omega
   have HM:Hid (len + padN len - (n + 1) < len + padN len - n):=by show _ < _;omega
   clear hap2 own2 hg2 hone hO hW hn hr2
   go_wp2_with (at_builtin;refine wpList_append_run rfl (.tmp 7) (.tmp 8) 22 rfl _ _ _ _ rfl rfl HA2.out ?_)
   exact ⟨⟨j + 1,n + 1,c2,a2,by omega,HN.out,rfl,HO2,HW2⟩,by simpa using HM.out⟩
  ·have ej:j = padN len:=by omega
   have hr3:(n:Int) % 16 = 0:=by
    have:=pad16_mod l
    rw [hl] at this
    omega
   have hr:(n:Int).tmod 16 = 0:=by rw [Int.tmod_eq_emod_of_nonneg (by omega)];exact hr3
   have HO:Hid (wr.ownsRow B 5 1 (.slice a' n c) (len + padN len) ((pad16 l).map bv)):=by
    have h1:=hO.out
    unfold pad16
    rw [hl,← ej,← hn]
    exact h1
   clear hn ej hO
   go_wp2
   go_ret
   exact ⟨_,rfl,hW.out,HO.out⟩
set_option maxHeartbeats 400000 in
set_option maxRecDepth 100000 in
theorem length_any (a:Option Addr) (len cap:Nat) (w:World) (hlm:len ≤ 1000000) :
  Calls Tryz.prog 112 #[.slice a len cap] w fun e w' => ∃ g,e = .returned (.slice (some ⟨g,0,none⟩) 8 8) ∧ w.heap.size ≤ g ∧ Below w.heap.size w w' ∧ Byt w' (some ⟨g,0,none⟩) 8 (leB 8 len):=by
 have hwr:IntKind.u64.wrap (len:Int) = (len:Int):=by rw [IntKind.wrap_u64];omega
 go_enter Tryz.func112,Tryz.ntmps112
 go_wp2_with fail
 refine (put_any none 0 0 8 len false [] _ (by omega) ⟨rfl,.inl rfl⟩ 8 (by decide)).mono ?_
 rintro e w1 ⟨g,rfl,hg,hb,hB⟩
 rw [Nat.zero_add] at hB ⊢
 have HB:Hid (Byt w1 (some ⟨g,0,none⟩) 8 (leB 8 len)):=hB
 have HW:Hid (Below w.heap.size w w1):=hb
 clear hb hB
 go_wp2
 go_ret
 exact ⟨g,rfl,hg,HW.out,HB.out⟩
theorem key_info (l:List UInt8) (hl:l.length = 32):(Tryz.prog.info? 24).map (·.size) = some (l.map bv).toArray.size:=by
 have e1:(Tryz.prog.info? 24).map (·.size) = some 32:=by kernel_rfl
 rw [e1];simp [hl]
set_option maxHeartbeats 400000 in
set_option maxRecDepth 100000 in
theorem tagKey_any (s key nonce:List UInt8) (hs:IsSealer s key nonce) (w:World) :
  Calls Tryz.prog 114 #[.agg (s.map bv).toArray] w fun e w' => e = .returned (.agg (((blk key 0#32 nonce).take 32).map bv).toArray) ∧ Below w.heap.size w w':=by
 obtain ⟨a1,a0⟩:=arr_new2 w 118 s (List.replicate 32 0) 24
 have b1:Below w.heap.size w ((w.alloc (.cells (s.map bv).toArray 118)).alloc (.cells ((List.replicate 32 0).map bv).toArray 24)):=((Below.refl _ _).alloc (Nat.le_refl _) _).alloc (by simp) _
 have HK:Hid (Byt ((w.alloc (.cells (s.map bv).toArray 118)).alloc (.cells ((List.replicate 32 0).map bv).toArray 24)) (some ⟨w.heap.size,0,none⟩) 32 key):=hs.key a0
 have HN:Hid (Byt ((w.alloc (.cells (s.map bv).toArray 118)).alloc (.cells ((List.replicate 32 0).map bv).toArray 24)) (some ⟨w.heap.size,32,none⟩) 12 nonce):=hs.nonce a0
 have HA:Hid (Arr ((w.alloc (.cells (s.map bv).toArray 118)).alloc (.cells ((List.replicate 32 0).map bv).toArray 24)) (w.heap.size + 1) 24 (List.replicate 32 0)):=a1
 have HW:Hid (Below w.heap.size w ((w.alloc (.cells (s.map bv).toArray 118)).alloc (.cells ((List.replicate 32 0).map bv).toArray 24))):=b1
 clear a1 a0 b1
 go_enter Tryz.func114,Tryz.ntmps114
 go_wp2_with (first | refine wpList_load_byt rfl 24 _ rfl w.heap.size 0 32 32 5 key rfl HK.out Tryz.underlying24 (by kernel_rfl) ?_ | refine wpList_load_byt rfl 90 _ rfl w.heap.size 32 12 12 5 nonce rfl HN.out Tryz.underlying90 (by kernel_rfl) ?_)
 refine from_world (P:=fun W => Calls Tryz.prog _ _ W _) (R:=fun W => Hid (Arr W (w.heap.size + 1) 24 (List.replicate 32 0)) ∧ Hid (Below w.heap.size w W)) _ ⟨HA,HW⟩ ?_
 rintro W0 ⟨HA0,HW0⟩
 clear HK HN HA HW
 refine (block_any key nonce 0#32 W0 hs.k hs.n).mono ?_
 rintro e w1 ⟨rfl,hb1⟩
 obtain ⟨B,hBe⟩:∃ B,blk key 0#32 nonce = B:=⟨_,rfl⟩
 have hBl:B.length = 64:=by rw [← hBe];exact blk_length key _ nonce
 rw [hBe]
 have hst:=run_store_new64 w1 B hBl
 obtain ⟨W1,hW1⟩:∃ W,w1.alloc (.cells (B.map bv).toArray 162) = W:=⟨_,rfl⟩
 have hb2:Below W0.heap.size W0 W1:=by rw [← hW1];exact hb1.alloc hb1.size _
 have HX:Hid (Byt W1 (some ⟨w1.heap.size,0,none⟩) 32 (B.take 32)):=by rw [← hW1];exact ((Arr.new w1 162 B).byt 64 hBl).cut (by omega)
 rw [hW1] at hst
 have hA1:=HA0.out.later hb2
 have hB1:Below w.heap.size w W1:=HW0.out.trans (hb2.mono HW0.out.size)
 obtain ⟨C,hC⟩:∃ C,B.take 32 = C:=⟨_,rfl⟩
 have hCl:C.length = 32:=by rw [← hC];simp;omega
 rw [hC] at HX
 have hst2:=store_row W1 (w.heap.size + 1) _ _ (C.map bv) hA1 (by simp [hCl]) (bv_oneCell C)
 have hrow:=setRow_heap W1 (w.heap.size + 1) _ (C.map bv).toArray _ _ hA1
 have HBel:Hid (Below w.heap.size w (W1.setRow (w.heap.size + 1) (C.map bv).toArray)):=below_setRow hB1 (by omega) _
 obtain ⟨W2,hW2⟩:∃ W2,W1.setRow (w.heap.size + 1) (C.map bv).toArray = W2:=⟨_,rfl⟩
 rw [hW2] at hst2 hrow HBel
 have HRow:Hid (W2.heap[w.heap.size + 1]? = some (.cells (C.map bv).toArray 24 (0,0))):=hrow
 have IC:Hid ((Tryz.prog.info? 24).map (·.size) = some (C.map bv).toArray.size):=key_info C hCl
 have HC:Hid ((blk key 0#32 nonce).take 32 = C):=by rw [hBe];exact hC
 have hat:(Instr.arrayAt 24 (.slice (some ⟨w1.heap.size,0,none⟩) 32 64)).run Tryz.prog W1 = .ok (.pointer (some ⟨w1.heap.size,0,none⟩)) W1:=by simp [Instr.arrayAt,run_underlying Tryz.underlying24]
 clear hrow hW2 hW1 hA1 hB1 hb1 hb2 HA0 HW0 hBe hC
 go_wp2_with (first | refine wpList_load_byt rfl 24 _ rfl w1.heap.size 0 32 32 5 C rfl HX.out Tryz.underlying24 (by kernel_rfl) ?_)
 (try simp only [Exit.inBlock,Exit.then])
 refine bodyPost_ret (results_cell_row rfl _ _ (w.heap.size + 1) 24 _ (0,0) _ rfl HRow.out Tryz.underlying24 rfl IC.out) rfl ?_
 exact ⟨by rw [HC.out],HBel.out⟩
end Go.Proofs.YthmkhdnnljdglaaGreatDoor
