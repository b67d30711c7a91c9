import Derived.Test.YthmkhdnnljdglaaGreatDoorQan
import Derived.Test.YthmkhdnnljdglaaGreatDoorQah
import Derived.Great.BuildSlice
namespace Go.Proofs.YthmkhdnnljdglaaGreatDoor
set_option linter.unusedVariables false
set_option maxRecDepth 100000
open Go.RowKit
structure TK (w:World) (s:List UInt8) (W:World):Prop where
 s:Arr W w.heap.size 118 s
 res:Arr W (w.heap.size + 1) 120 (List.replicate 16 0)
 size:w.heap.size + 1 + 1 ≤ W.heap.size
 bel:Below w.heap.size w W
theorem TK.new (w:World) (s:List UInt8):TK w s ((w.alloc (.cells (s.map bv).toArray 118)).alloc (.cells ((List.replicate 16 0).map bv).toArray 120)):=by
 obtain ⟨a1,a0⟩:=arr_new2 w 118 s (List.replicate 16 0) 120
 exact ⟨a0,a1,by simp,((Below.refl _ _).alloc (Nat.le_refl _) _).alloc (by simp) _⟩
theorem TK.later {w W W':World} {s:List UInt8} (t:TK w s W) (hb:Below (w.heap.size + 1 + 1) W W'):TK w s W':=
 ⟨t.s.below hb (by omega),t.res.below hb (by omega),Nat.le_trans t.size hb.size,t.bel.trans (hb.mono (by omega))⟩
theorem sealer_info (l:List UInt8) (hl:l.length = 44):(Tryz.prog.info? 118).map (·.size) = some (l.map bv).toArray.size:=by
 have e1:(Tryz.prog.info? 118).map (·.size) = some 44:=by kernel_rfl
 rw [e1];simp [hl]
theorem atag_info (l:List UInt8) (hl:l.length = 16):(Tryz.prog.info? 120).map (·.size) = some (l.map bv).toArray.size:=by
 have e1:(Tryz.prog.info? 120).map (·.size) = some 16:=by kernel_rfl
 rw [e1];simp [hl]
theorem pad16_app (x ct:List UInt8) (h:x.length % 16 = 0):pad16 (x ++ ct) = x ++ pad16 ct:=by
 have e:padN (x ++ ct).length = padN ct.length:=by unfold padN;rw [List.length_append];omega
 unfold pad16
 rw [e,List.append_assoc]
set_option maxHeartbeats 1000000 in
set_option maxRecDepth 100000 in
theorem atag_any (s key nonce:List UInt8) (hs:IsSealer s key nonce) (a:Option Addr) (la ca:Nat) (ad:List UInt8) (c:Option Addr) (lc cc:Nat) (ct:List UInt8) (w:World)
  (hA:Byt w a la ad) (hAn:a = none → ca = 0) (hC:Byt w c lc ct) (hCn:c = none → cc = 0) (hla:la ≤ 1100) (hlc:lc ≤ 1100) :
  Calls Tryz.prog 81 #[.agg (s.map bv).toArray,.slice a la ca,.slice c lc cc] w fun e w' => e = .returned (.agg ((aeadTag key nonce ad ct).map bv).toArray) ∧ Below w.heap.size w w':=by
 have HA:Hid (Byt w a la ad):=hA
 have HC:Hid (Byt w c lc ct):=hC
 have IS:Hid ((Tryz.prog.info? 118).map (·.size) = some (s.map bv).toArray.size):=sealer_info s hs.len
 have HT0:Hid (TK w s ((w.alloc (.cells (s.map bv).toArray 118)).alloc (.cells ((List.replicate 16 0).map bv).toArray 120))):=TK.new w s
 obtain ⟨p1,hp1⟩:∃ p,la + lc = p:=⟨_,rfl⟩
 obtain ⟨p2,hp2⟩:∃ p,p1 + 32 = p:=⟨_,rfl⟩
 obtain ⟨m0,hm0⟩:∃ p,p2 + 16 = p:=⟨_,rfl⟩
 have e1:(la:Int) + (lc:Int) = (p1:Int):=by omega
 have e2:(p1:Int) + 32 = (p2:Int):=by omega
 have e3:(p2:Int) + 16 = (m0:Int):=by omega
 have hm0b:m0 ≤ 3000:=by omega
 have hp1b:p1 ≤ 3000:=by omega
 have hp2b:p2 ≤ 3000:=by omega
 clear hp1 hp2 hm0
 obtain ⟨W0,hW0⟩:∃ W0,(w.alloc (.cells (s.map bv).toArray 118)).alloc (.cells #[.int .u8 0,.int .u8 0,.int .u8 0,.int .u8 0,.int .u8 0,.int .u8 0,.int .u8 0,.int .u8 0,.int .u8 0,.int .u8 0,.int .u8 0,.int .u8 0,.int .u8 0,.int .u8 0,.int .u8 0,.int .u8 0] 120) = W0:=⟨_,rfl⟩
 have hT0:TK w s W0:=by rw [← hW0];exact TK.new w s
 have hsz0:W0.heap.size = w.heap.size + 1 + 1:=by rw [← hW0];simp
 obtain ⟨Z,hZ,hmk⟩:=make_room W0 m0 (by omega)
 have own0:(W0.alloc (.cells Z.toArray 5)).ownsRow (w.heap.size + 1 + 1) 5 1 (.slice (some ⟨W0.heap.size,0,none⟩) 0 m0) 0 (([]:List UInt8).map bv):=
  World.ownsRow_made (base:=w.heap.size + 1 + 1) (e:=5) (size:=1) W0 Z.toArray m0 (by omega) (by unfold maxLen;omega) (by simp [hZ])
 have hT1:TK w s (W0.alloc (.cells Z.toArray 5)):=hT0.later ((Below.refl _ _).alloc (by omega) _)
 obtain ⟨W1,hW1⟩:∃ W1,W0.alloc (.cells Z.toArray 5) = W1:=⟨_,rfl⟩
 rw [hW1] at own0 hT1 hmk
 rw [hsz0] at own0 hmk
 obtain ⟨v2,w2,hap2,own2,hg2⟩:=append_own_any W1 (w.heap.size + 1 + 1) _ 0 _ own0 a la ca ad (HA.out.later hT1.bel) hAn hT1.size (by omega)
 rw [Nat.zero_add,List.nil_append] at own2
 obtain ⟨a2,c2,rfl,_,_,_,_⟩:=own_parts own2
 have HT2:Hid (TK w s w2):=hT1.later ((Below.refl _ _).grown hg2 hT1.size (fun k hk => (own0.lt k hk).1))
 have HO2:Hid (w2.ownsRow (w.heap.size + 1 + 1) 5 1 (.slice a2 la c2) la (ad.map bv)):=own2
 have HA2:Hid ((Builtin.append_ #[22,22] 22 #[.slice (some ⟨w.heap.size + 1 + 1,0,none⟩) 0 m0,.slice a la ca]).run Tryz.prog W1 = .ok (.slice a2 la c2) w2):=hap2
 clear hap2 own2 hg2 own0 hT1 hW1 hT0 hsz0 hZ HT0
 rw [← hW0] at hmk
 clear hW0
 go_enter Tryz.func81,Tryz.ntmps81
 go_wp2_with (at_builtin;refine wpList_append_run rfl (.tmp 16) (.tmp 17) 22 rfl _ _ _ _ rfl rfl HA2.out ?_)
 clear HA2 hmk e1 e2 e3 hm0b hp1b hp2b
 refine (pfill_any a2 la c2 ad w2 (w.heap.size + 1 + 1) HT2.out.size HO2.out (by omega)).mono ?_
 rintro e w3 ⟨v3,rfl,hb3,own3⟩
 have hT3:=HT2.out.later hb3
 obtain ⟨n3,hn3⟩:∃ n,la + padN la = n:=⟨_,rfl⟩
 have hp16:padN la < 16:=by unfold padN;omega
 have hn3b:n3 ≤ 1200:=by omega
 rw [hn3] at own3
 obtain ⟨v4,w4,hap4,own4,hg4⟩:=append_own_any w3 (w.heap.size + 1 + 1) v3 n3 _ own3 c lc cc ct (HC.out.later hT3.bel) hCn hT3.size (by omega)
 obtain ⟨a4,c4,rfl,_,_,_,_⟩:=own_parts own4
 have HA4:Hid ((Builtin.append_ #[22,22] 22 #[v3,.slice c lc cc]).run Tryz.prog w3 = .ok (.slice a4 (n3 + lc) c4) w4):=hap4
 have HT4:Hid (TK w s w4):=hT3.later ((Below.refl _ _).grown hg4 hT3.size (fun k hk => (own3.lt k hk).1))
 have HO4:Hid (w4.ownsRow (w.heap.size + 1 + 1) 5 1 (.slice a4 (n3 + lc) c4) (n3 + lc) ((pad16 ad ++ ct).map bv)):=own4
 clear hap4 own4 hg4 own3 hb3 hT3 HT2 HO2 hn3 hp16
 go_wp2_with (at_builtin;refine wpList_append_run rfl (.tmp 20) (.tmp 21) 22 rfl _ _ _ _ rfl rfl HA4.out ?_)
 clear HA4
 refine (pfill_any a4 (n3 + lc) c4 _ w4 (w.heap.size + 1 + 1) HT4.out.size HO4.out (by omega)).mono ?_
 rintro e w5 ⟨v5,rfl,hb5,own5⟩
 have HT5:Hid (TK w s w5):=HT4.out.later hb5
 obtain ⟨n5,hn5⟩:∃ n,n3 + lc + padN (n3 + lc) = n:=⟨_,rfl⟩
 have hp16:padN (n3 + lc) < 16:=by unfold padN;omega
 have hn5b:n5 ≤ 2400:=by omega
 rw [hn5,pad16_app _ _ (by rw [pad16_length];exact pad16_mod ad)] at own5
 have HO5:Hid (w5.ownsRow (w.heap.size + 1 + 1) 5 1 v5 n5 ((pad16 ad ++ pad16 ct).map bv)):=own5
 clear own5 hb5 HT4 HO4 hn5 hp16
 go_wp2_with fail
 refine (length_any a la ca w5 (by omega)).mono ?_
 rintro e w6 ⟨g6,rfl,hg6,hb6,hB6⟩
 have hT6:=HT5.out.later (hb6.mono HT5.out.size)
 have hO6:=HO5.out.kept (grown_below hb6) (by
  rcases h:Value.ownBlock v5 with _ | j
  ·exact .inl rfl
  ·exact .inr (by simp))
 obtain ⟨v7,w7,hap7,own7,hg7⟩:=append_bytes w6 (w.heap.size + 1 + 1) v5 n5 _ hO6 ⟨g6,0,none⟩ 8 8 _ hB6 hT6.size (by omega)
 have HA7:Hid ((Builtin.append_ #[22,22] 22 #[v5,.slice (some ⟨g6,0,none⟩) 8 8]).run Tryz.prog w6 = .ok v7 w7):=hap7
 have HT7:Hid (TK w s w7):=hT6.later ((Below.refl _ _).grown hg7 hT6.size (fun k hk => (hO6.lt k hk).1))
 have HO7:Hid (w7.ownsRow (w.heap.size + 1 + 1) 5 1 v7 (n5 + 8) ((pad16 ad ++ pad16 ct ++ leB 8 la).map bv)):=own7
 clear hap7 own7 hg7 hO6 hT6 hb6 hB6 hg6 HT5 HO5
 go_wp2_with (at_builtin;refine wpList_append_run rfl (.tmp 24) (.tmp 26) 22 rfl _ _ _ _ rfl rfl HA7.out ?_)
 refine (length_any c lc cc w7 (by omega)).mono ?_
 rintro e w8 ⟨g8,rfl,hg8,hb8,hB8⟩
 clear HA7
 have hT8:=HT7.out.later (hb8.mono HT7.out.size)
 have hO8:=HO7.out.kept (grown_below hb8) (by
  rcases h:Value.ownBlock v7 with _ | j
  ·exact .inl rfl
  ·exact .inr (by simp))
 obtain ⟨v9,w9,hap9,own9,hg9⟩:=append_bytes w8 (w.heap.size + 1 + 1) v7 (n5 + 8) _ hO8 ⟨g8,0,none⟩ 8 8 _ hB8 hT8.size (by omega)
 obtain ⟨a9,c9,rfl,hB9,hc9,hm9,_⟩:=own_parts own9
 have HA9:Hid ((Builtin.append_ #[22,22] 22 #[v7,.slice (some ⟨g8,0,none⟩) 8 8]).run Tryz.prog w8 = .ok (.slice a9 (n5 + 8 + 8) c9) w9):=hap9
 have HT9:Hid (TK w s w9):=hT8.later ((Below.refl _ _).grown hg9 hT8.size (fun k hk => (hO8.lt k hk).1))
 have HB9:Hid (Byt w9 a9 (n5 + 8 + 8) (tagged ad ct)):=by
  unfold tagged
  rw [HA.out.1,HC.out.1]
  exact hB9
 have Hm9:Hid (c9 ≤ maxLen):=hm9
 clear hap9 own9 hg9 hO8 hT8 hb8 hB8 hg8 HT7 HO7 hB9 hm9
 go_wp2_with (first | (at_builtin;refine wpList_append_run rfl (.tmp 28) (.tmp 30) 22 rfl _ _ _ _ rfl rfl HA9.out ?_) | refine wpList_load_row rfl 118 _ rfl w.heap.size rfl 118 _ (0,0) _ HT9.out.s Tryz.underlying118 rfl IS.out ?_)
 clear HA9
 refine (tagKey_any s key nonce hs w9).mono ?_
 rintro e w10 ⟨rfl,hb10⟩
 have HT10:Hid (TK w s w10):=HT9.out.later (hb10.mono HT9.out.size)
 have HB10:Hid (Byt w10 a9 (n5 + 8 + 8) (tagged ad ct)):=HB9.out.later hb10
 obtain ⟨KK,hKK⟩:∃ KK,(blk key 0#32 nonce).take 32 = KK:=⟨_,rfl⟩
 have hKl:KK.length = 32:=by rw [← hKK];simp [blk_length]
 obtain ⟨T,hT⟩:∃ T,aeadTag key nonce ad ct = T:=⟨_,rfl⟩
 have hTl:T.length = 16:=by rw [← hT,aeadTag_length]
 have HTT:Hid (tag KK (tagged ad ct) = T):=by rw [← hKK];exact hT
 have HTa:Hid (aeadTag key nonce ad ct = T):=hT
 rw [hKK]
 clear hb10 HT9 HB9 hKK hT
 go_wp2_with fail
 refine (sum_any KK a9 (n5 + 8 + 8) c9 _ w10 hKl HB10.out (by omega) hc9 Hm9.out).mono ?_
 rintro e w11 ⟨rfl,hb11⟩
 rw [HTT.out]
 have hT11:=HT10.out.later (hb11.mono HT10.out.size)
 have hst:=store_row w11 (w.heap.size + 1) _ _ (T.map bv) hT11.res (by simp [hTl]) (bv_oneCell T)
 have hrow:=setRow_heap w11 (w.heap.size + 1) _ (T.map bv).toArray _ _ hT11.res
 have HBel:Hid (Below w.heap.size w (w11.setRow (w.heap.size + 1) (T.map bv).toArray)):=below_setRow hT11.bel (by omega) _
 obtain ⟨W4,hW4⟩:∃ W4,w11.setRow (w.heap.size + 1) (T.map bv).toArray = W4:=⟨_,rfl⟩
 rw [hW4] at hst hrow HBel
 have HRow:Hid (W4.heap[w.heap.size + 1]? = some (.cells (T.map bv).toArray 120 (0,0))):=hrow
 have IT:Hid ((Tryz.prog.info? 120).map (·.size) = some (T.map bv).toArray.size):=atag_info T hTl
 clear hrow hW4 hT11 hb11 HT10 HB10
 go_wp2
 (try simp only [Exit.inBlock,Exit.then])
 refine bodyPost_ret (results_cell_row rfl _ _ (w.heap.size + 1) 120 _ (0,0) _ rfl HRow.out Tryz.underlying120 rfl IT.out) rfl ?_
 exact ⟨by rw [HTa.out],HBel.out⟩
theorem id_info (l:List UInt8) (hl:l.length = 12):(Tryz.prog.info? 90).map (·.size) = some (l.map bv).toArray.size:=by
 have e1:(Tryz.prog.info? 90).map (·.size) = some 12:=by kernel_rfl
 rw [e1];simp [hl]
theorem sealer_built (s key nonce:List UInt8) (hs:IsSealer s key nonce):Tryz.prog.built 118 [(0,.agg (key.map bv).toArray),(1,.agg (nonce.map bv).toArray)] = some (s.map bv).toArray:=by
 have h:∀ parts,Tryz.prog.built 118 parts = Instr.fill (#[(0,32),(32,12)][·]?) (List.replicate 44 (Value.int .u8 0)).toArray parts:=fun parts => by kernel_rfl
 have hk:=hs.k
 have hn:=hs.n
 obtain ⟨Z,hZ⟩:∃ Z,List.replicate 44 (Value.int .u8 0) = Z:=⟨_,rfl⟩
 have hZl:Z.length = 44:=by rw [← hZ,List.length_replicate]
 rw [h,hZ,fill_part _ _ 0 0 (key.map bv) _ (by simp [hk]) (by simp;omega),fill_part _ _ 1 32 (nonce.map bv) _ (by simp [hn]) (by simp;omega),hs.eq]
 simp only [Instr.fill,List.take_zero,List.nil_append,List.length_map,hk,hn,Nat.zero_add]
 rw [List.take_left' (by simp [hk]),List.drop_eq_nil_of_le (by simp;omega),List.append_nil,List.map_append]
theorem wpList_sealer (key nonce s:List UInt8) (hs:IsSealer s key nonce) {ops:Array Oper} {rest:List Oper} {o:Oper} {a:Act} {w:World} {Q:Exit → Act → World → Prop} (hg:o.guard = none) (x y:Operand) (ho:o.op = .build 118 #[(0,x),(1,y)])
  (hx:a.eval x = .agg (key.map bv).toArray) (hy:a.eval y = .agg (nonce.map bv).toArray)
  (h:wpList Tryz.prog ops Q rest (a.put o.dst (.agg (s.map bv).toArray)) w):wpList Tryz.prog ops Q (o :: rest) a w:=
 wpList_buildTo hg _ _ ho _ rfl (s.map bv).toArray (by simp [hx,hy,sealer_built s key nonce hs]) h
structure SQ (w:World) (s:List UInt8) (W:World):Prop where
 s:Arr W (w.heap.size + 1 + 1) 118 s
 size:w.heap.size + 1 + 1 + 1 ≤ W.heap.size
 bel:Below w.heap.size w W
theorem SQ.new (w:World) (s:List UInt8) (o1 o2:Obj):SQ w s (((w.alloc o1).alloc o2).alloc (.cells (s.map bv).toArray 118)):=by
 refine ⟨?_,by simp,(((Below.refl _ _).alloc (Nat.le_refl _) _).alloc (by simp) _).alloc (by simp <;> omega) _⟩
 have:=Arr.new ((w.alloc o1).alloc o2) 118 s
 rwa [World.size_alloc,World.size_alloc] at this
theorem SQ.later {w W W':World} {s:List UInt8} (t:SQ w s W) (hb:Below (w.heap.size + 1 + 1 + 1) W W'):SQ w s W':=
 ⟨t.s.below hb (by omega),Nat.le_trans t.size hb.size,t.bel.trans (hb.mono (by omega))⟩
set_option maxHeartbeats 1000000 in
set_option maxRecDepth 100000 in
theorem seal_any (key nonce:List UInt8) (a:Option Addr) (la ca:Nat) (ad:List UInt8) (c:Option Addr) (lc cc:Nat) (b:List UInt8) (w:World) (hk:key.length = 32) (hn:nonce.length = 12)
  (hA:Byt w a la ad) (hAn:a = none → ca = 0) (hla:la ≤ 1000) (hca:la ≤ ca) (hcam:ca ≤ maxLen) (hC:Byt w c lc b) (hCn:c = none → cc = 0) (hlc:lc ≤ 1000) (hcc:lc ≤ cc) (hccm:cc ≤ maxLen) :
  Calls Tryz.prog 51 #[.agg (key.map bv).toArray,.agg (nonce.map bv).toArray,.slice a la ca,.slice c lc cc] w fun e w' => ∃ v,e = .returned v ∧ Below w.heap.size w w' ∧ w'.ownsRow w.heap.size 5 1 v (lc + 16) ((sealB key nonce ad b).map bv):=by
 have HA:Hid (Byt w a la ad):=hA
 have HC:Hid (Byt w c lc b):=hC
 obtain ⟨s,hs⟩:∃ s,IsSealer s key nonce:=⟨_,rfl,hk,hn⟩
 have IK:Hid ((Tryz.prog.info? 24).map (·.size) = some (key.map bv).toArray.size):=key_info key hk
 have IN:Hid ((Tryz.prog.info? 90).map (·.size) = some (nonce.map bv).toArray.size):=id_info nonce hn
 have hsl:=hs.len
 have IS:Hid ((Tryz.prog.info? 118).map (·.size) = some (s.map bv).toArray.size):=sealer_info s hs.len
 obtain ⟨n1,n0⟩:=arr_new2 w 24 key nonce 90
 have HKey:Hid (Arr _ w.heap.size 24 key):=n0
 have HNon:Hid (Arr _ (w.heap.size + 1) 90 nonce):=n1
 have e44:(Tryz.prog.info? 118).map (·.size) = some 44:=by kernel_rfl
 have hst:=run_store_arr ((w.alloc (.cells (key.map bv).toArray 24)).alloc (.cells (nonce.map bv).toArray 90)) 118 s 44 hs.len e44
 rw [World.size_alloc,World.size_alloc] at hst
 have HS0:Hid (SQ w s (((w.alloc (.cells (key.map bv).toArray 24)).alloc (.cells (nonce.map bv).toArray 90)).alloc (.cells (s.map bv).toArray 118))):=SQ.new w s _ _
 clear hA hC n1 n0 e44
 go_enter Tryz.func51,Tryz.ntmps51
 go_wp2_with (first | refine wpList_load_row rfl 24 _ rfl w.heap.size rfl 24 _ (0,0) _ HKey.out Tryz.underlying24 rfl IK.out ?_ | refine wpList_load_row rfl 90 _ rfl (w.heap.size + 1) rfl 90 _ (0,0) _ HNon.out Tryz.underlying90 rfl IN.out ?_ | refine wpList_sealer key nonce s hs rfl (.tmp 12) (.tmp 13) rfl rfl rfl ?_ | refine wpList_load_row rfl 118 _ rfl (w.heap.size + 1 + 1) rfl 118 _ (0,0) _ HS0.out.s Tryz.underlying118 rfl IS.out ?_)
 clear hst HKey HNon
 refine from_world (P:=fun W => Calls Tryz.prog _ _ W _) (R:=fun W => Hid (SQ w s W)) _ HS0 ?_
 intro W0 hS0
 clear HS0
 refine (turn_own s key nonce hs c lc cc b W0 (HC.out.later hS0.out.bel) (by omega) hcc hccm).mono ?_
 rintro e w1 ⟨v1,rfl,hb1,own1⟩
 obtain ⟨X,hX⟩:∃ X,stm key 1#32 nonce b = X:=⟨_,rfl⟩
 rw [hX] at own1
 obtain ⟨a1,c1,rfl,hB1,_,_,hn1⟩:=own_parts own1
 have HS1:Hid (SQ w s w1):=hS0.out.later (hb1.mono hS0.out.size)
 have HO1:Hid (w1.ownsRow (w.heap.size + 1 + 1 + 1) 5 1 (.slice a1 lc c1) lc (X.map bv)):=own_lower own1 hS0.out.size
 have HB1:Hid (Byt w1 a1 lc X):=hB1
 have Hn1:Hid (a1 = none → c1 = 0):=hn1
 have HX:Hid (stm key 1#32 nonce b = X):=hX
 clear own1 hb1 hB1 hn1 hS0 hX
 go_wp2_with (refine wpList_load_row rfl 118 _ rfl (w.heap.size + 1 + 1) rfl 118 _ (0,0) _ HS1.out.s Tryz.underlying118 rfl IS.out ?_)
 refine (atag_any s key nonce hs a la ca ad a1 lc c1 X w1 (HA.out.later HS1.out.bel) hAn HB1.out Hn1.out (by omega) (by omega)).mono ?_
 rintro e w2 ⟨rfl,hb2⟩
 obtain ⟨T,hT⟩:∃ T,aeadTag key nonce ad X = T:=⟨_,rfl⟩
 have hTl:T.length = 16:=by rw [← hT,aeadTag_length]
 rw [hT]
 have hst:=run_store_arr w2 120 T 16 hTl (by kernel_rfl)
 obtain ⟨W3,hW3⟩:∃ W3,w2.alloc (.cells (T.map bv).toArray 120) = W3:=⟨_,rfl⟩
 have hb3:Below w1.heap.size w1 W3:=by rw [← hW3];exact hb2.alloc hb2.size _
 have hB3:Byt W3 (some ⟨w2.heap.size,0,none⟩) 16 T:=by rw [← hW3];exact (Arr.new w2 120 T).byt 16 hTl
 rw [hW3] at hst
 have hS3:=HS1.out.later (hb3.mono HS1.out.size)
 have hO3:=HO1.out.kept (grown_below hb3) (by
  rcases h:Value.ownBlock (.slice a1 lc c1) with _ | j
  ·exact .inl rfl
  ·exact .inr (by simp))
 obtain ⟨v4,w4,hap4,own4,hg4⟩:=append_bytes W3 (w.heap.size + 1 + 1 + 1) _ lc _ hO3 ⟨w2.heap.size,0,none⟩ 16 16 _ hB3 hS3.size (by omega)
 have HA4:Hid ((Builtin.append_ #[22,22] 22 #[.slice a1 lc c1,.slice (some ⟨w2.heap.size,0,none⟩) 16 16]).run Tryz.prog W3 = .ok v4 w4):=hap4
 have HO4:Hid (w4.ownsRow w.heap.size 5 1 v4 (lc + 16) ((sealB key nonce ad b).map bv)):=by
  have e:sealB key nonce ad b = X ++ T:=by unfold sealB;rw [HX.out,hT]
  show World.ownsRow _ _ _ _ _ _ _
  rw [e]
  exact own_lower own4 (by omega)
 have HW4:Hid (Below w.heap.size w w4):=hS3.bel.grown hg4 (by have:=hS3.size;omega) (fun k hk => by have:=(hO3.lt k hk).1;omega)
 clear hap4 own4 hg4 hO3 hS3 hB3 hb3 hW3 hb2 hT HS1 HO1 HB1 Hn1
 go_wp2_with (at_builtin;refine wpList_append_run rfl (.tmp 22) (.tmp 23) 22 rfl _ _ _ _ rfl rfl HA4.out ?_)
 go_ret
 exact ⟨_,rfl,HW4.out,HO4.out⟩
theorem ohid {p:Prop} (h:p):Hid p:=h
theorem byt_rest {w:World} {bc oc p:Nat} {b:List UInt8} (h:Byt w (some ⟨bc,oc,none⟩) (p + 16) b):Byt w (some ⟨bc,oc + p,none⟩) 16 (b.drop p):=by
 have hl:=h.1
 have:=h.sub (n:=p) (q:=p + 16) (by omega) (by omega)
 rw [List.take_of_length_le (by simp;omega),Nat.add_sub_cancel_left] at this
 exact this
set_option maxHeartbeats 1000000 in
set_option maxRecDepth 100000 in
theorem open_all (key nonce:List UInt8) (a:Option Addr) (la ca:Nat) (ad:List UInt8) (c:Option Addr) (lc cc:Nat) (b:List UInt8) (w:World) (hk:key.length = 32) (hn:nonce.length = 12)
  (hA:Byt w a la ad) (hAn:a = none → ca = 0) (hla:la ≤ 1000) (hca:la ≤ ca) (hcam:ca ≤ maxLen) (hC:Byt w c lc b) (hCn:c = none → cc = 0) (hlc:lc ≤ 1100) (hcc:lc ≤ cc) (hccm:cc ≤ maxLen) :
  Calls Tryz.prog 53 #[.agg (key.map bv).toArray,.agg (nonce.map bv).toArray,.slice a la ca,.slice c lc cc] w fun e w' => Below w.heap.size w w' ∧
   ((Sealed key nonce ad b ∧ ∃ a' cap',e = .returned (.tuple #[.slice a' (lc - 16) cap',.int .i64 0]) ∧ Byt w' a' (lc - 16) (openB key nonce b) ∧ w'.ownsRow w.heap.size 5 1 (.slice a' (lc - 16) cap') (lc - 16) ((openB key nonce b).map bv)) ∨ (¬ Sealed key nonce ad b ∧ e = .returned (.tuple #[.slice none 0 0,.int .i64 3]))):=by
 have hbl:=hC.1
 have HA:Hid (Byt w a la ad):=hA
 have HC:Hid (Byt w c lc b):=hC
 obtain ⟨s,hs⟩:∃ s,IsSealer s key nonce:=⟨_,rfl,hk,hn⟩
 have IK:Hid ((Tryz.prog.info? 24).map (·.size) = some (key.map bv).toArray.size):=key_info key hk
 have IN:Hid ((Tryz.prog.info? 90).map (·.size) = some (nonce.map bv).toArray.size):=id_info nonce hn
 have hsl:=hs.len
 have IS:Hid ((Tryz.prog.info? 118).map (·.size) = some (s.map bv).toArray.size):=sealer_info s hs.len
 obtain ⟨n1,n0⟩:=arr_new2 w 24 key nonce 90
 have HKey:Hid (Arr _ w.heap.size 24 key):=n0
 have HNon:Hid (Arr _ (w.heap.size + 1) 90 nonce):=n1
 have e44:(Tryz.prog.info? 118).map (·.size) = some 44:=by kernel_rfl
 have hst:=run_store_arr ((w.alloc (.cells (key.map bv).toArray 24)).alloc (.cells (nonce.map bv).toArray 90)) 118 s 44 hs.len e44
 rw [World.size_alloc,World.size_alloc] at hst
 have HS0:Hid (SQ w s (((w.alloc (.cells (key.map bv).toArray 24)).alloc (.cells (nonce.map bv).toArray 90)).alloc (.cells (s.map bv).toArray 118))):=SQ.new w s _ _
 clear hA hC n1 n0 e44
 by_cases hlt:lc < 16
 ·have HN:Hid (¬ Sealed key nonce ad b):=fun h => by have:=h.1;omega
  have i1:(lc:Int) - 16 < 0:=by omega
  go_enter Tryz.func53,Tryz.ntmps53
  go_wp2_with (first | refine wpList_load_row rfl 24 _ rfl w.heap.size rfl 24 _ (0,0) _ HKey.out Tryz.underlying24 rfl IK.out ?_ | refine wpList_load_row rfl 90 _ rfl (w.heap.size + 1) rfl 90 _ (0,0) _ HNon.out Tryz.underlying90 rfl IN.out ?_ | refine wpList_sealer key nonce s hs rfl (.tmp 13) (.tmp 14) rfl rfl rfl ?_)
  go_ret2
  exact ⟨HS0.out.bel,.inr ⟨HN.out,rfl⟩⟩
 ·obtain ⟨p,rfl⟩:∃ p,lc = p + 16:=⟨lc - 16,by omega⟩
  have i1:((p + 16:Nat):Int) - 16 = (p:Int):=by omega
  have i2:¬ (p:Int) < 0:=by omega
  obtain ⟨bc,oc,rfl⟩:∃ bc oc,c = some ⟨bc,oc,none⟩:=by
   obtain ⟨b',o',e,_⟩:=HC.out.at_ 0 (by omega)
   exact ⟨b',o',e⟩
  have hbc:=HC.out.lt (by omega)
  go_enter Tryz.func53,Tryz.ntmps53
  go_wp2_with (first | refine wpList_load_row rfl 24 _ rfl w.heap.size rfl 24 _ (0,0) _ HKey.out Tryz.underlying24 rfl IK.out ?_ | refine wpList_load_row rfl 90 _ rfl (w.heap.size + 1) rfl 90 _ (0,0) _ HNon.out Tryz.underlying90 rfl IN.out ?_ | refine wpList_sealer key nonce s hs rfl (.tmp 13) (.tmp 14) rfl rfl rfl ?_)
  clear hst HKey HNon
  refine from_world (P:=Code.wp Tryz.prog _ _ _) (R:=fun W => Hid (SQ w s W)) _ HS0 ?_
  intro W0 hS0
  clear HS0
  obtain ⟨T,hT⟩:∃ T,aeadTag key nonce ad (b.take p) = T:=⟨_,rfl⟩
  have hTl:T.length = 16:=by rw [← hT,aeadTag_length]
  have HTT:Hid (aeadTag key nonce ad (b.take p) = T):=hT
  have hpc:(p:Int) ≤ (cc:Int):=by omega
  have hcn:¬ cc = p:=by omega
  have hp16:(p:Int) ≤ (p:Int) + 16:=by omega
  have hccm':cc ≤ 9223372036854775807:=by unfold maxLen at hccm;exact hccm
  obtain ⟨W,hW⟩:∃ W,W0.drew = W:=⟨_,rfl⟩
  have hgr:Below W0.heap.size W0 W:=by rw [← hW];exact (Below.refl _ _).drew
  have HSW:Hid (SQ w s W):=hS0.out.later (hgr.mono hS0.out.size)
  have hWe:Hid (W0.drew = W):=hW
  clear hW hgr hS0 hT i1
  refine sched_begin (G:=Grows) (by kernel_rfl) Grows.refl Grows.trans (by kernel_rfl) [(0,true),(1,true),(2,true),(3,true),(4,true)] 3 ((Array.replicate 8 false).mapIdx fun i _ => i < 5) rfl (by kernel_rfl) ?_
  intro KL hKL
  rw [hWe.out]
  refine sched_take rfl (by rfl) (v:=.agg (s.map bv).toArray) (fun w' hw' => exec_load_row 118 _ rfl (w.heap.size + 1 + 1) rfl 118 _ (0,0) _ (HSW.out.s.later hw') Tryz.underlying118 rfl IS.out) ?_
  go_simp
  iterate 4 (refine sched_take rfl (by rfl) (v:=?_) ?_ ?_;rotate_left;(intro w' hw';clear hw';go_simp;with_reducible rfl);go_simp)
  refine hKL.out _ _ ?_
  clear hKL
  refine sched_two (i:=5) (j:=6) (by kernel_rfl) rfl (by rfl) rfl (by rfl) ?_ ?_
  ·refine oper_call (f:=81) (args:=#[.agg (s.map bv).toArray,.slice a la ca,.slice (some ⟨bc,oc,none⟩) p cc]) (by go_simp) ?_
   refine (atag_any s key nonce hs a la ca ad (some ⟨bc,oc,none⟩) p cc (b.take p) W (HA.out.later HSW.out.bel) hAn ((HC.out.below hbc HSW.out.bel).cut (by omega)) (by intro e;cases e) (by omega) (by omega)).mono ?_
   rintro e w2 ⟨rfl,hb2⟩
   refine ⟨_,rfl,hb2,?_⟩
   rw [HTT.out]
   have hst:=run_store_arr w2 120 T 16 hTl (by kernel_rfl)
   obtain ⟨W4,hW4⟩:∃ W4,w2.alloc (.cells (T.map bv).toArray 120) = W4:=⟨_,rfl⟩
   have hb4:Below W.heap.size W W4:=by rw [← hW4];exact hb2.alloc hb2.size _
   have HT4:Hid (Byt W4 (some ⟨w2.heap.size,0,none⟩) 16 T):=by rw [← hW4];exact (Arr.new w2 120 T).byt 16 hTl
   have HS4:Hid (SQ w s W4):=HSW.out.later (hb4.mono HSW.out.size)
   rw [hW4] at hst
   clear hb2 hb4 hW4 HSW
   refine sched_end Grows.refl Grows.trans (by kernel_rfl) [(6,false),(7,false)] rfl (by kernel_rfl) ?_
   intro KM hKM
   go_simp
   refine sched_val rfl (by rfl) (v:=.pointer (some ⟨w2.heap.size,0,none⟩)) (w':=w2.alloc (.cells ((List.replicate 16 (0:UInt8)).map bv).toArray 120)) (by go_simp;rfl) ((Below.refl _ _).alloc (Nat.le_refl _) _) ?_
   go_simp
   have hst2:=hst ((List.replicate 16 (0:UInt8)).map bv).toArray (by simp)
   refine sched_store rfl (by rfl) (w':=W4) (by go_simp) (by kernel_rfl) ?_
   clear hst hst2
   go_simp
   refine sched_done hKM ?_
   generalize w2.heap.size = g at HT4 ⊢
   go_wp2
   obtain ⟨W,hW⟩:∃ W,W4.drew = W:=⟨_,rfl⟩
   have hgr:Below W4.heap.size W4 W:=by rw [← hW];exact (Below.refl _ _).drew
   have HSW:Hid (SQ w s W):=HS4.out.later (hgr.mono HS4.out.size)
   have HTW:Hid (Byt W (some ⟨g,0,none⟩) 16 T):=HT4.out.later hgr
   have HEW:Hid (Byt W (some ⟨bc,oc + p,none⟩) 16 (b.drop p)):=byt_rest (HC.out.below hbc HSW.out.bel)
   have hWe:Hid (W4.drew = W):=hW
   clear hW hgr HS4 HT4
   refine wp_region_sched' (G:=Grows) (by kernel_rfl) Grows.refl Grows.trans (by kernel_rfl) [(0,true),(1,true),(2,true),(3,true),(4,false),(5,true)] rfl (by kernel_rfl) ?_
   intro KK hKK
   rw [hWe.out]
   iterate 4 (refine sched_take rfl (by rfl) (v:=?_) ?_ ?_;rotate_left;(intro w' hw';clear hw';go_simp;with_reducible rfl);go_simp)
   refine sched_call (f:=82) (args:=#[.slice (some ⟨g,0,none⟩) 16 16,.slice (some ⟨bc,oc + p,none⟩) 16 (cc - p)]) rfl (by rfl) (by go_simp) ?_
   refine (same_any _ _ 16 16 16 (cc - p) T (b.drop p) W HTW.out HEW.out).mono ?_
   rintro e w5 ⟨rfl,rfl⟩
   refine ⟨_,rfl,Grows.refl _,?_⟩
   by_cases hT:T = b.drop p
   ·have hTd:decide (T = b.drop p) = true:=by rw [hT];simp
    rw [hTd]
    clear hTd
    have HSe:Hid (Sealed key nonce ad b):=by
     refine ⟨by omega,?_⟩
     rw [hbl,Nat.add_sub_cancel,HTT.out,hT]
    go_simp
    iterate 1 (refine sched_take rfl (by rfl) (v:=?_) ?_ ?_;rotate_left;(intro w' hw';clear hw';go_simp;with_reducible rfl);go_simp)
    refine sched_done hKK ?_
    clear hT HTW HEW
    obtain ⟨W6,hW6⟩:∃ W6,w5.drew = W6:=⟨_,rfl⟩
    have hgr:Below w5.heap.size w5 W6:=by rw [← hW6];exact (Below.refl _ _).drew
    have HS6:Hid (SQ w s W6):=HSW.out.later (hgr.mono HSW.out.size)
    have HB6:Hid (Byt W6 (some ⟨bc,oc,none⟩) p (b.take p)):=(HC.out.below hbc HS6.out.bel).cut (by omega)
    have hWe6:Hid (w5.drew = W6):=hW6
    clear hW6 hgr HSW
    go_wp2
    refine wp_region_sched' (G:=Grows) (by kernel_rfl) Grows.refl Grows.trans (by kernel_rfl) [(0,true),(1,true),(2,true),(3,true),(4,false),(5,true),(6,true)] rfl (by kernel_rfl) ?_
    intro KK2 hKK2
    rw [hWe6.out]
    refine sched_take rfl (by rfl) (v:=.agg (s.map bv).toArray) (fun w' hw' => exec_load_row 118 _ rfl (w.heap.size + 1 + 1) rfl 118 _ (0,0) _ (HS6.out.s.later hw') Tryz.underlying118 rfl IS.out) ?_
    go_simp
    iterate 3 (refine sched_take rfl (by rfl) (v:=?_) ?_ ?_;rotate_left;(intro w' hw';clear hw';go_simp;with_reducible rfl);go_simp)
    refine sched_call (f:=80) (args:=#[.agg (s.map bv).toArray,.slice (some ⟨bc,oc,none⟩) p cc]) rfl (by rfl) (by go_simp) ?_
    refine (turn_own s key nonce hs (some ⟨bc,oc,none⟩) p cc (b.take p) W6 HB6.out (by omega) (by omega) hccm).mono ?_
    rintro e w7 ⟨v7,rfl,hb7,own7⟩
    refine ⟨_,rfl,hb7,?_⟩
    obtain ⟨a7,c7,rfl,hB7,_,_,_⟩:=own_parts own7
    have HO7:Hid (w7.ownsRow w.heap.size 5 1 (.slice a7 p c7) p ((openB key nonce b).map bv)):=by
     unfold openB
     rw [hbl,Nat.add_sub_cancel]
     exact own_lower own7 HS6.out.bel.size
    have HB7:Hid (Byt w7 a7 p (openB key nonce b)):=by
     unfold openB
     rw [hbl,Nat.add_sub_cancel]
     exact hB7
    have HW7:Hid (Below w.heap.size w w7):=HS6.out.bel.trans (hb7.mono HS6.out.bel.size)
    clear own7 hB7 hb7 HS6 HB6
    go_simp
    iterate 2 (refine sched_take rfl (by rfl) (v:=?_) ?_ ?_;rotate_left;(intro w' hw';clear hw';go_simp;with_reducible rfl);go_simp)
    refine sched_done hKK2 ?_
    go_wp2
    go_ret2
    exact ⟨HW7.out,.inl ⟨HSe.out,a7,c7,rfl,HB7.out,HO7.out⟩⟩
   ·have hTd:decide (T = b.drop p) = false:=by simp [hT]
    rw [hTd]
    clear hTd
    have HNo:Hid (¬ Sealed key nonce ad b):=by
     rintro ⟨_,h⟩
     rw [hbl,Nat.add_sub_cancel,HTT.out] at h
     exact hT h.symm
    go_simp
    iterate 1 (refine sched_take rfl (by rfl) (v:=?_) ?_ ?_;rotate_left;(intro w' hw';clear hw';go_simp;with_reducible rfl);go_simp)
    refine sched_done hKK ?_
    clear hT HTW HEW
    go_wp2
    go_ret2
    exact ⟨HSW.out.bel,.inr ⟨HNo.out,rfl⟩⟩
  ·have hnew:=Arr.new W 120 (List.replicate 16 (0:UInt8))
   obtain ⟨W1,hW1⟩:∃ W1,W.alloc (.cells ((List.replicate 16 (0:UInt8)).map bv).toArray 120) = W1:=⟨_,rfl⟩
   rw [hW1] at hnew
   have hb1:Below W.heap.size W W1:=by rw [← hW1];exact (Below.refl _ _).alloc (Nat.le_refl _) _
   have HS1:Hid (SQ w s W1):=HSW.out.later (hb1.mono HSW.out.size)
   have HZ1:Hid (Arr W1 W.heap.size 120 (List.replicate 16 (0:UInt8))):=hnew
   have hsz:=HSW.out.size
   refine oper_val (v:=.pointer (some ⟨W.heap.size,0,none⟩)) (w':=W1) (by rw [← hW1];go_simp;rfl) ⟨hb1,?_⟩
   clear hW1 hb1 hnew HSW
   refine sched_end Grows.refl Grows.trans (by kernel_rfl) [(5,false),(7,false)] rfl (by kernel_rfl) ?_
   intro KM hKM
   go_simp
   refine sched_call (f:=81) (args:=#[.agg (s.map bv).toArray,.slice a la ca,.slice (some ⟨bc,oc,none⟩) p cc]) rfl (by rfl) (by go_simp) ?_
   refine (atag_any s key nonce hs a la ca ad (some ⟨bc,oc,none⟩) p cc (b.take p) W1 (HA.out.later HS1.out.bel) hAn ((HC.out.below hbc HS1.out.bel).cut (by omega)) (by intro e;cases e) (by omega) (by omega)).mono ?_
   rintro e w2 ⟨rfl,hb2⟩
   refine ⟨_,rfl,hb2,?_⟩
   rw [HTT.out]
   have hZ2:=HZ1.out.later hb2
   have hst:=store_row w2 W.heap.size _ _ (T.map bv) hZ2 (by simp [hTl]) (bv_oneCell T)
   have hrow:=hZ2.put T
   have hS2:=HS1.out.later (hb2.mono HS1.out.size)
   have hb4:Below (w.heap.size + 1 + 1 + 1) w2 (w2.setRow W.heap.size (T.map bv).toArray):=below_setRow (Below.refl _ _) hsz _
   have HS4:Hid (SQ w s (w2.setRow W.heap.size (T.map bv).toArray)):=hS2.later hb4
   obtain ⟨W4,hW4⟩:∃ W4,w2.setRow W.heap.size (T.map bv).toArray = W4:=⟨_,rfl⟩
   rw [hW4] at hst hrow HS4
   have HT4:Hid (Byt W4 (some ⟨W.heap.size,0,none⟩) 16 T):=hrow.byt 16 hTl
   clear hb2 hb4 hW4 hZ2 hrow hS2 HS1 HZ1 hsz
   go_simp
   refine sched_store rfl (by rfl) (w':=W4) (by go_simp) (by kernel_rfl) ?_
   clear hst
   go_simp
   refine sched_done hKM ?_
   generalize W.heap.size = g at HT4 ⊢
   go_wp2
   obtain ⟨V,hV⟩:∃ V,W4.drew = V:=⟨_,rfl⟩
   have hgr:Below W4.heap.size W4 V:=by rw [← hV];exact (Below.refl _ _).drew
   have HSW:Hid (SQ w s V):=HS4.out.later (hgr.mono HS4.out.size)
   have HTW:Hid (Byt V (some ⟨g,0,none⟩) 16 T):=HT4.out.later hgr
   have HEW:Hid (Byt V (some ⟨bc,oc + p,none⟩) 16 (b.drop p)):=byt_rest (HC.out.below hbc HSW.out.bel)
   have hWe:Hid (W4.drew = V):=hV
   clear hV hgr HS4 HT4
   refine wp_region_sched' (G:=Grows) (by kernel_rfl) Grows.refl Grows.trans (by kernel_rfl) [(0,true),(1,true),(2,true),(3,true),(4,false),(5,true)] rfl (by kernel_rfl) ?_
   intro KK hKK
   rw [hWe.out]
   iterate 4 (refine sched_take rfl (by rfl) (v:=?_) ?_ ?_;rotate_left;(intro w' hw';clear hw';go_simp;with_reducible rfl);go_simp)
   refine sched_call (f:=82) (args:=#[.slice (some ⟨g,0,none⟩) 16 16,.slice (some ⟨bc,oc + p,none⟩) 16 (cc - p)]) rfl (by rfl) (by go_simp) ?_
   refine (same_any _ _ 16 16 16 (cc - p) T (b.drop p) V HTW.out HEW.out).mono ?_
   rintro e w5 ⟨rfl,rfl⟩
   refine ⟨_,rfl,Grows.refl _,?_⟩
   by_cases hT:T = b.drop p
   ·have hTd:decide (T = b.drop p) = true:=by rw [hT];simp
    rw [hTd]
    clear hTd
    have HSe:Hid (Sealed key nonce ad b):=by
     refine ⟨by omega,?_⟩
     rw [hbl,Nat.add_sub_cancel,HTT.out,hT]
    go_simp
    iterate 1 (refine sched_take rfl (by rfl) (v:=?_) ?_ ?_;rotate_left;(intro w' hw';clear hw';go_simp;with_reducible rfl);go_simp)
    refine sched_done hKK ?_
    clear hT HTW HEW
    obtain ⟨W6,hW6⟩:∃ W6,w5.drew = W6:=⟨_,rfl⟩
    have hgr:Below w5.heap.size w5 W6:=by rw [← hW6];exact (Below.refl _ _).drew
    have HS6:Hid (SQ w s W6):=HSW.out.later (hgr.mono HSW.out.size)
    have HB6:Hid (Byt W6 (some ⟨bc,oc,none⟩) p (b.take p)):=(HC.out.below hbc HS6.out.bel).cut (by omega)
    have hWe6:Hid (w5.drew = W6):=hW6
    clear hW6 hgr HSW
    go_wp2
    refine wp_region_sched' (G:=Grows) (by kernel_rfl) Grows.refl Grows.trans (by kernel_rfl) [(0,true),(1,true),(2,true),(3,true),(4,false),(5,true),(6,true)] rfl (by kernel_rfl) ?_
    intro KK2 hKK2
    rw [hWe6.out]
    refine sched_take rfl (by rfl) (v:=.agg (s.map bv).toArray) (fun w' hw' => exec_load_row 118 _ rfl (w.heap.size + 1 + 1) rfl 118 _ (0,0) _ (HS6.out.s.later hw') Tryz.underlying118 rfl IS.out) ?_
    go_simp
    iterate 3 (refine sched_take rfl (by rfl) (v:=?_) ?_ ?_;rotate_left;(intro w' hw';clear hw';go_simp;with_reducible rfl);go_simp)
    refine sched_call (f:=80) (args:=#[.agg (s.map bv).toArray,.slice (some ⟨bc,oc,none⟩) p cc]) rfl (by rfl) (by go_simp) ?_
    refine (turn_own s key nonce hs (some ⟨bc,oc,none⟩) p cc (b.take p) W6 HB6.out (by omega) (by omega) hccm).mono ?_
    rintro e w7 ⟨v7,rfl,hb7,own7⟩
    refine ⟨_,rfl,hb7,?_⟩
    obtain ⟨a7,c7,rfl,hB7,_,_,_⟩:=own_parts own7
    have HO7:Hid (w7.ownsRow w.heap.size 5 1 (.slice a7 p c7) p ((openB key nonce b).map bv)):=by
     unfold openB
     rw [hbl,Nat.add_sub_cancel]
     exact own_lower own7 HS6.out.bel.size
    have HB7:Hid (Byt w7 a7 p (openB key nonce b)):=by
     unfold openB
     rw [hbl,Nat.add_sub_cancel]
     exact hB7
    have HW7:Hid (Below w.heap.size w w7):=HS6.out.bel.trans (hb7.mono HS6.out.bel.size)
    clear own7 hB7 hb7 HS6 HB6
    go_simp
    iterate 2 (refine sched_take rfl (by rfl) (v:=?_) ?_ ?_;rotate_left;(intro w' hw';clear hw';go_simp;with_reducible rfl);go_simp)
    refine sched_done hKK2 ?_
    go_wp2
    go_ret2
    exact ⟨HW7.out,.inl ⟨HSe.out,a7,c7,rfl,HB7.out,HO7.out⟩⟩
   ·have hTd:decide (T = b.drop p) = false:=by simp [hT]
    rw [hTd]
    clear hTd
    have HNo:Hid (¬ Sealed key nonce ad b):=by
     rintro ⟨_,h⟩
     rw [hbl,Nat.add_sub_cancel,HTT.out] at h
     exact hT h.symm
    go_simp
    iterate 1 (refine sched_take rfl (by rfl) (v:=?_) ?_ ?_;rotate_left;(intro w' hw';clear hw';go_simp;with_reducible rfl);go_simp)
    refine sched_done hKK ?_
    clear hT HTW HEW
    go_wp2
    go_ret2
    exact ⟨HSW.out.bel,.inr ⟨HNo.out,rfl⟩⟩
end Go.Proofs.YthmkhdnnljdglaaGreatDoor
