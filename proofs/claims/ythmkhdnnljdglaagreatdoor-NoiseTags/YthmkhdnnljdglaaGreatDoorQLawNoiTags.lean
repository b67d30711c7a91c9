import Derived.Test.YthmkhdnnljdglaaGreatDoorQbp
import Derived.Test.YthmkhdnnljdglaaGreatDoorQbr
import Derived.Test.YthmkhdnnljdglaaGreatDoorQaj
namespace Go.Proofs.YthmkhdnnljdglaaGreatDoor.noiseTags
open Go.ChangeShapes Go.WideShapes Go.ChangeAt Go.RowKit
set_option linter.unusedVariables false
set_option maxRecDepth 100000
set_option maxHeartbeats 32000000 in
theorem walk (l0 l1 l2:List UInt8) (a3:Option Addr) (len3 cap3:Nat) (z3:List Int) (a4:Int) (w:World) (w0:l0.length = 32) (w1:l1.length = 32) (w2:l2.length = 32) (w3:IsRow .u8 w a3 len3 cap3 z3) (w4:(Lit.int .u8 a4).wf = true) (htabs:Tab w ∧ FTab w) :
  Calls Tryz.prog 6 #[.agg (l0.map bv).toArray,.agg (l1.map bv).toArray,.agg (l2.map bv).toArray,.slice a3 len3 cap3,.int .u8 a4] w fun e w' => e = .returned (.bool true) ∧ Below w.heap.size w w':=by
 obtain ⟨y,rfl⟩:=u8_of9 a4 w4
 have hnil3:=nrow_nil w3
 obtain ⟨T,nt,hnE,hn1,hn2,hnc,hncm,hB⟩:=cut_row w3 100
 have hnEt:(if (100:Int) < (len3:Int) then (100:Int) else (len3:Int)) = (nt:Int):=hnE
 have HTx:=ohid hB
 have hTl:=hB.1
 have HT:Hid (TT w):=htabs
 have hI:Hid (∀ l:List UInt8,l.length = 32 → (Tryz.prog.info? 24).map (·.size) = some (l.map bv).toArray.size):=fun l hl => keyIA hl
 have HV0:Hid (Vw w (((w.alloc (.cells (l0.map bv).toArray 24)).alloc (.cells (l1.map bv).toArray 24)).alloc (.cells (l2.map bv).toArray 24)) [(w.heap.size,24,l0.map bv),(w.heap.size + 1,24,l1.map bv),(w.heap.size + 1 + 1,24,l2.map bv)]):=by
  have h:=(((Vw.none w).alloc 24 (l0.map bv)).alloc 24 (l1.map bv)).alloc 24 (l2.map bv)
  simp only [World.size_alloc] at h
  exact h
 have AG:=ohid (NS.agreed noiseName [] l0 l1 l2 l2 T T)
 clear hnE hB w3 w4 htabs
 go_enter Tryz.func6,Tryz.ntmps6
 go_wp2_with fail
 obtain ⟨V0,hV0⟩:∃ V,((w.alloc (.cells (l0.map bv).toArray 24)).alloc (.cells (l1.map bv).toArray 24)).alloc (.cells (l2.map bv).toArray 24) = V:=⟨_,rfl⟩
 rw [hV0] at HV0
 rw [hV0]
 clear hV0
 refine (noiShown_any V0 (HT.out.later HV0.out.bel)).mono ?_
 rintro e V1 ⟨rfl,hb⟩
 have HV1:=ohid (HV0.out.later hb)
 clear hb HV0
 obtain ⟨W,hW⟩:∃ W,V1.drew = W:=⟨_,rfl⟩
 have hgr:Below V1.heap.size V1 W:=by rw [← hW];exact (Below.refl _ _).drew
 have HWe:=ohid hW
 have HVW:=ohid (HV1.out.later hgr)
 have HK:Hid (∀ w',Grows W w' → w'.heap[w.heap.size]? = some (.cells (l0.map bv).toArray 24 (0,0)) ∧ w'.heap[w.heap.size + 1]? = some (.cells (l1.map bv).toArray 24 (0,0)) ∧ w'.heap[w.heap.size + 1 + 1]? = some (.cells (l2.map bv).toArray 24 (0,0))):=fun w' hw' => by
  have h:=HVW.out.later hw'
  exact ⟨h.cell (w.heap.size,24,l0.map bv) (by simp),h.cell (w.heap.size + 1,24,l1.map bv) (by simp),h.cell (w.heap.size + 1 + 1,24,l2.map bv) (by simp)⟩
 clear hW hgr HV1
 go_wp2_with fail
 refine wp_region_sched' (G:=Grows) (by kernel_rfl) Grows.refl Grows.trans (by kernel_rfl) [(0,true),(1,true),(3,true),(2,false),(4,false),(5,true)] rfl (by kernel_rfl) ?_
 intro KK hKK
 rw [HWe.out]
 refine sched_take rfl (by rfl) (v:=.agg (l0.map bv).toArray) (fun w' hw' => exec_load_row 24 _ rfl w.heap.size rfl 24 _ (0,0) _ (HK.out w' hw').1 Tryz.underlying24 rfl (hI.out l0 w0)) ?_
 go_simp
 refine sched_take rfl (by rfl) (v:=.agg (l1.map bv).toArray) (fun w' hw' => exec_load_row 24 _ rfl (w.heap.size + 1) rfl 24 _ (0,0) _ (HK.out w' hw').2.1 Tryz.underlying24 rfl (hI.out l1 w1)) ?_
 go_simp
 refine sched_take rfl (by rfl) (v:=.agg (l2.map bv).toArray) (fun w' hw' => exec_load_row 24 _ rfl (w.heap.size + 1 + 1) rfl 24 _ (0,0) _ (HK.out w' hw').2.2 Tryz.underlying24 rfl (hI.out l2 w2)) ?_
 go_simp
 refine sched_call (f:=9) (args:=#[.agg (l1.map bv).toArray]) rfl (by rfl) (by go_simp) ?_
 refine (public_any l1 W w1 (HT.out.later HVW.out.bel).2).mono ?_
 rintro e V2 ⟨rfl,hb⟩
 refine ⟨_,rfl,hb,?_⟩
 have hRl:=pubB_length l1
 obtain ⟨R,hR⟩:∃ R,pubB l1 = R:=⟨_,rfl⟩
 have hR':leB 32 (mX (clampK (leN l1)) 9) = R:=hR
 rw [hR] at hRl
 rw [hR']
 have HR:=ohid hR
 have HV2:=ohid (HVW.out.later hb)
 clear hb hR hR'
 go_simp
 refine sched_call (f:=10) (args:=#[.slice none 0 0,.agg (l0.map bv).toArray,.agg (R.map bv).toArray,.agg (l2.map bv).toArray]) rfl (by rfl) (by go_simp) ?_
 refine (nStart_any none 0 0 [] l0 R l2 V2 w0 w2 hRl ⟨rfl,.inl rfl⟩ (fun _ => rfl) (by omega) (by omega) (by unfold maxLen;omega) (HT.out.later HV2.out.bel)).mono ?_
 rintro e V3 ⟨ga,rfl,hga,hb,hA⟩
 refine ⟨_,rfl,hb,?_⟩
 have HV3:=ohid (HV2.out.later hb)
 rw [← HR.out] at hA
 have HA:=ohid hA
 have HGA:Hid (w.heap.size ≤ ga):=Nat.le_trans HV2.out.bel.size hga
 clear hb hA hga HV2 HVW HK HWe
 go_simp
 iterate 1 (refine sched_take rfl (by rfl) (v:=?_) ?_ ?_;rotate_left;(intro w' hw';clear hw';go_simp;with_reducible rfl);go_simp)
 refine sched_done hKK ?_
 clear hKK
 have K1:Hid (V3.heap[w.heap.size + 1]? = some (.cells (l1.map bv).toArray 24 (0,0))):=HV3.out.cell (w.heap.size + 1,24,l1.map bv) (by simp)
 have K2:Hid (V3.heap[w.heap.size + 1 + 1]? = some (.cells (l2.map bv).toArray 24 (0,0))):=HV3.out.cell (w.heap.size + 1 + 1,24,l2.map bv) (by simp)
 go_wp2_with (first | refine wpList_load_row rfl 24 (.tmp 6) rfl (w.heap.size + 1) rfl 24 (l1.map bv).toArray (0,0) _ K1.out Tryz.underlying24 rfl (hI.out l1 w1) ?_ | refine wpList_load_row rfl 24 (.tmp 7) rfl (w.heap.size + 1 + 1) rfl 24 (l2.map bv).toArray (0,0) _ K2.out Tryz.underlying24 rfl (hI.out l2 w2) ?_ | fail)
 refine (nAnswer_any none 0 0 [] l1 l2 V3 w1 w2 ⟨rfl,.inl rfl⟩ (fun _ => rfl) (by omega) (by omega) (by unfold maxLen;omega) (HT.out.later HV3.out.bel)).mono ?_
 rintro e V4 ⟨gb,rfl,hgb,hb,hBd⟩
 have HV4:=ohid (HV3.out.later hb)
 have HA4:=ohid (HA.out.later hb)
 have HB4:=ohid hBd
 have HGB:Hid (w.heap.size ≤ gb ∧ ga < gb):=⟨Nat.le_trans HV3.out.bel.size hgb,Nat.lt_of_lt_of_le HA.out.lt hgb⟩
 clear hb hBd hgb HV3 HA K1 K2
 have K1:Hid (V4.heap[w.heap.size + 1]? = some (.cells (l1.map bv).toArray 24 (0,0))):=HV4.out.cell (w.heap.size + 1,24,l1.map bv) (by simp)
 have K2:Hid (V4.heap[w.heap.size + 1 + 1]? = some (.cells (l2.map bv).toArray 24 (0,0))):=HV4.out.cell (w.heap.size + 1 + 1,24,l2.map bv) (by simp)
 go_wp2_with (first | refine wpList_load_row rfl 24 (.tmp 6) rfl (w.heap.size + 1) rfl 24 (l1.map bv).toArray (0,0) _ K1.out Tryz.underlying24 rfl (hI.out l1 w1) ?_ | refine wpList_load_row rfl 24 (.tmp 7) rfl (w.heap.size + 1 + 1) rfl 24 (l2.map bv).toArray (0,0) _ K2.out Tryz.underlying24 rfl (hI.out l2 w2) ?_ | fail)
 refine (nAnswer_any none 0 0 [] l1 l2 V4 w1 w2 ⟨rfl,.inl rfl⟩ (fun _ => rfl) (by omega) (by omega) (by unfold maxLen;omega) (HT.out.later HV4.out.bel)).mono ?_
 rintro e V5 ⟨gc,rfl,hgc,hb,hCd⟩
 have HC5:=ohid hCd
 have HGC:Hid (w.heap.size ≤ gc ∧ ga < gc ∧ gb < gc ∧ gc < V5.heap.size):=⟨Nat.le_trans HV4.out.bel.size hgc,Nat.lt_of_lt_of_le HA4.out.lt hgc,Nat.lt_of_lt_of_le HB4.out.lt hgc,hCd.lt⟩
 have HD:Hid (Du w V5 V5.heap.size ga gb (NS.begin_ noiseName [] l0 (pubB l1) l2) (NS.answer noiseName [] l1 l2)):=⟨HV4.out.bel.trans (hb.mono HV4.out.bel.size),HGA.out,Nat.lt_trans HGC.out.2.1 HGC.out.2.2.2,HGB.out.1,Nat.lt_trans HGC.out.2.2.1 HGC.out.2.2.2,Nat.ne_of_lt HGB.out.2,Nat.le_refl _,HA4.out.later hb,HB4.out.later hb,HT.out⟩
 have HTx5:=ohid (HTx.out.later HD.out.bel)
 obtain ⟨s,hs⟩:∃ s,V5.heap.size = s:=⟨_,rfl⟩
 rw [hs] at HD HGC
 have HS5:Hid (s ≤ V5.heap.size):=Nat.le_of_eq hs.symm
 have hTw0:0 < nt → ∀ y o f,a3 = some ⟨y,o,f⟩ → y < w.heap.size:=fun h0 y o f e => by
  have h1:=HTx.out
  obtain ⟨b',o',e',_⟩:=h1.at_ 0 h0
  rw [e'] at e h1
  cases e
  exact h1.lt h0
 have HTw:=ohid hTw0
 clear hb hCd hgc HA4 HB4 HV4 K1 K2 hs hTw0 HR
 go_wp2_with fail
 refine (nFirst_any ga _ a3 nt cap3 T V5 HD.out.a HTx5.out hnil3 (by omega) (Nat.le_trans hn2 hnc) hncm (fun h0 y o f e => Nat.lt_of_lt_of_le (HTw.out h0 y o f e) HD.out.bel.size) HD.out.tab HD.out.ka).mono ?_
 intro e V6 hE
 obtain ⟨v6,q6,rfl,D6,own6,hG6⟩:=HD.out.stepA hE
 rw [AG.out.e1] at own6
 rw [AG.out.e1]
 rw [if_pos rfl] at own6
 have HD6:Hid (Du w V6 s ga gb (NS.ag1 noiseName [] l0 l1 l2 T) (NS.answer noiseName [] l1 l2)):=D6
 have HO6:Hid (V6.ownsRow s 5 1 v6 q6 ((NS.agX noiseName [] l0 l1 l2 T).map bv)):=own6
 have HC6:=ohid (HC5.out.but hG6 (fun e => by have:=HGC.out.2.1;omega))
 have HTx6:=ohid (HTx5.out.but_any hG6 (fun h0 b' o f e => by have:=HTw.out h0 b' o f e;have:=HGA.out;omega))
 clear hE D6 own6 hG6 HD HC5 HTx5
 obtain ⟨X,hX⟩:∃ X,NS.agX noiseName [] l0 l1 l2 T = X:=⟨_,rfl⟩
 have HX:=ohid hX
 obtain ⟨k,hk⟩:∃ k,nt + 95 = k:=⟨_,rfl⟩
 have hXl:X.length = k + 1:=by have:=AG.out.l1;rw [hX] at this;omega
 rw [hX] at HO6
 obtain ⟨a6,c6,rfl,hB6,hc6,hm6,hn6,hw6,hs6,hl6⟩:=own_arg HO6.out
 obtain rfl:q6 = k + 1:=by omega
 have hk95:95 ≤ k:=by omega
 have Hkn:=ohid hk
 obtain ⟨N,hN⟩:∃ N,k + 1 = N:=⟨_,rfl⟩
 rw [hN] at hXl HO6 hc6 hB6 hl6
 rw [hN]
 have HN:=ohid hN
 have hN96:¬ (N:Int) < 96:=by omega
 obtain ⟨v7,V7,hap7,own7,hb7,_,_⟩:=append_copy V6 a6 N c6 X hB6 hn6 (by omega)
 have HAP:=ohid hap7
 have HD7:=ohid (HD6.out.later hb7)
 have HC7:=ohid (HC6.out.later hb7)
 have HTx7:=ohid (HTx6.out.later hb7)
 have HO7x:=ohid (own_later HO6.out hb7)
 obtain ⟨gy,c7,rfl,hgy6,_⟩:=Seg.ofOwn own7 (by omega)
 have HO7:=ohid (own_lower own7 HD6.out.sz)
 have HXb:Hid (∀ b',(Value.slice a6 N c6).ownBlock = some b' → b' < V6.heap.size):=fun b' h => (own_base HO6.out b' h).2
 have HGY:=ohid hgy6
 have HN6:=ohid hn6
 have HM6:=ohid hm6
 clear hB6 hn6 hw6 hs6 hl6 hap7 own7 hb7 hX HD6 HC6 HTx6 HO6 HS5 hk hN hm6 hgy6
 obtain ⟨_,_,e7,_,hc7,hm7,_⟩:=own_parts HO7.out
 cases e7
 obtain ⟨hcell,hfr,hown8,hG8⟩:=own_turn (k:=k) HO7.out (by have:=HN.out;omega) (at8 X k ^^^ y)
 have hxor:=xor_val8 (at8 X k) y
 have ek:(N:Int) - 1 = (k:Int):=by have:=HN.out;omega
 have hkN:(k:Int) < (N:Int):=by have:=HN.out;omega
 have hsg:s ≤ gy:=(own_base HO7.out gy rfl).1
 have hgyn:gy ≠ ga ∧ gy ≠ gb ∧ gy ≠ gc:=by have h1:=HD7.out.a2;have h2:=HD7.out.b2;have h3:=HGC.out.2.2.2;omega
 obtain ⟨V8,hV8⟩:∃ V,V7.setCell ⟨gy,k,none⟩ (.int .u8 ((at8 X k ^^^ y).toNat:Int)) = V:=⟨_,rfl⟩
 have hV8':V7.setCell ⟨gy,k,none⟩ (.int .u8 (bits .xor .u8 ((at8 X k).toNat:Int) (y.toNat:Int))) = V8:=by rw [hxor];exact hV8
 rw [hV8] at hown8 hG8
 have hgw:w.heap.size ≤ gy:=by have h1:=HD7.out.a2;have h2:=HD7.out.a1;omega
 have HD8:=ohid (HD7.out.aside hG8 hgw hgyn.1 hgyn.2.1)
 have HC8:=ohid (HC7.out.but hG8 (fun e => hgyn.2.2 e.symm))
 have HTx8:=ohid (HTx7.out.but_any hG8 (fun h0 b' o f e => by have:=HTw.out h0 b' o f e;omega))
 have HO8x:=ohid (own_but HO7x.out hG8 (fun b' hb' e => by have h1:=HXb.out b' hb';have h2:=HGY.out;cases e;omega))
 have HB8:Hid (Byt V8 (some ⟨gy,0,none⟩) N (turnB X k y)):=Byt.ofOwn hown8
 have hgyl:gy < V8.heap.size:=HB8.out.lt (by have:=HN.out;omega)
 have hN3:N ≤ 300:=by have h1:=HN.out;have h2:=Hkn.out;omega
 clear hV8 hxor hown8 hG8 HD7 HC7 HTx7 HO7x HO7 hgw hgyn hsg
 go_wp2_with (first | (at_builtin;refine wpList_append_run rfl (.tmp 66) (.tmp 67) 22 rfl _ _ _ _ rfl rfl HAP.out ?_) | fail)
 clear hV8' hcell hfr ek hkN HAP
 have he1:NS.hearErr (NS.answer noiseName [] l1 l2) (turnB X k y) = if y = 0 then 0 else 3:=by
  rw [← HX.out,← Hkn.out,← hTl]
  exact NS.hear_turned noiseName [] l0 l1 l2 l2 T y
 obtain ⟨er,her⟩:∃ er,(if y = 0 then 0 else 3) = er:=⟨_,rfl⟩
 have HEr:Hid ((if y = 0 then 0 else 3) = er):=her
 rw [her] at he1
 refine (nHear_any gb _ (some ⟨gy,0,none⟩) N c7 (turnB X k y) V8 HD8.out.b HB8.out (fun e => by cases e) (by omega) hc7 hm7 (fun _ z o f e => by cases e;exact hgyl) HD8.out.tab HD8.out.kb).mono ?_
 intro e V9 hE
 obtain ⟨v9,q9,rfl,D9,_,hG9⟩:=HD8.out.stepB hE
 rw [he1]
 have HD9:=ohid D9
 have HC9:=ohid (HC8.out.but hG9 (fun e => by have:=HGC.out.2.2.1;omega))
 have HTx9:=ohid (HTx8.out.but_any hG9 (fun h0 b' o f e => by have:=HTw.out h0 b' o f e;have:=HGB.out.1;omega))
 have HO9x:=ohid (own_keep HO8x.out hG9 HD8.out.b2)
 clear hE D9 hG9 HD8 HC8 HTx8 HO8x HB8 hgyl he1 her
 go_wp2_with fail
 obtain ⟨a9,c9,e9,hB9,hc9,hm9,hn9,hw9,_,_⟩:=own_arg HO9x.out
 cases e9
 refine (nHear_any gc _ a6 N c6 X V9 HC9.out hB9 hn9 (by omega) hc9 hm9 (fun _ => hw9) HD9.out.tab (HT.out.new HGC.out.1)).mono ?_
 intro e V10 hE
 unfold HdE at hE
 obtain ⟨v10,q10,rfl,hG10,hI10,_⟩:=hE
 rw [← HX.out] at hI10
 rw [← HX.out,AG.out.e2]
 have HC10:Hid (HaIs V10 gc (NS.bg1 noiseName [] l0 l1 l2 l2 T)):=hI10
 have HD10:=ohid (HD9.out.aside hG10 HGC.out.1 (by have:=HGC.out.2.1;omega) (by have:=HGC.out.2.2.1;omega))
 have HTx10:=ohid (HTx9.out.but_any hG10 (fun h0 b' o f e => by have:=HTw.out h0 b' o f e;have:=HGC.out.1;omega))
 clear hG10 hI10 hB9 hc9 hm9 hn9 hw9 HD9 HC9 HTx9 HO9x
 go_wp2_with fail
 refine (nSecond_any gc _ a3 nt cap3 T V10 HC10.out HTx10.out hnil3 (by omega) (Nat.le_trans hn2 hnc) hncm (fun h0 y' o f e => Nat.lt_of_lt_of_le (HTw.out h0 y' o f e) HD10.out.bel.size) HD10.out.tab (HT.out.new HGC.out.1)).mono ?_
 intro e V11 hE
 unfold HdE at hE
 obtain ⟨v11,q11,rfl,hG11,_,own11⟩:=hE
 rw [AG.out.e3] at own11
 rw [AG.out.e3]
 rw [if_pos rfl] at own11
 have HO11:Hid (V11.ownsRow V10.heap.size 5 1 v11 q11 ((NS.agZ noiseName [] l0 l1 l2 l2 T T).map bv)):=own11
 have HD11:=ohid (HD10.out.aside hG11 HGC.out.1 (by have:=HGC.out.2.1;omega) (by have:=HGC.out.2.2.1;omega))
 have hs10:=HD10.out.sz
 clear hG11 own11 HD10 HC10 HTx10
 obtain ⟨Z,hZ⟩:∃ Z,NS.agZ noiseName [] l0 l1 l2 l2 T T = Z:=⟨_,rfl⟩
 have HZ:=ohid hZ
 obtain ⟨j,hj⟩:∃ j,nt + 47 = j:=⟨_,rfl⟩
 have hZl:Z.length = j + 1:=by have:=AG.out.l3;rw [hZ] at this;omega
 rw [hZ] at HO11
 obtain ⟨a11,c11,rfl,_,hc11,hm11,_,_,_,hl11⟩:=own_arg HO11.out
 obtain rfl:q11 = j + 1:=by omega
 have hj47:47 ≤ j:=by omega
 have Hjn:=ohid hj
 obtain ⟨Q,hQ⟩:∃ Q,j + 1 = Q:=⟨_,rfl⟩
 rw [hQ] at hZl HO11 hc11 hl11
 rw [hQ]
 have HQ:=ohid hQ
 obtain ⟨gz,cz,ez,hgz,_⟩:=Seg.ofOwn HO11.out (by omega)
 cases ez
 obtain ⟨hcell,hfr,hown12,hG12⟩:=own_turn (k:=j) HO11.out (by omega) (at8 Z j ^^^ y)
 have hxor:=xor_val8 (at8 Z j) y
 have hgzn:gz ≠ ga ∧ gz ≠ gb:=by have h1:=HD11.out.a2;have h2:=HD11.out.b2;omega
 obtain ⟨V12,hV12⟩:∃ V,V11.setCell ⟨gz,j,none⟩ (.int .u8 ((at8 Z j ^^^ y).toNat:Int)) = V:=⟨_,rfl⟩
 have hV12':V11.setCell ⟨gz,j,none⟩ (.int .u8 (bits .xor .u8 ((at8 Z j).toNat:Int) (y.toNat:Int))) = V12:=by rw [hxor];exact hV12
 rw [hV12] at hown12 hG12
 have hgw:w.heap.size ≤ gz:=by have h1:=HD11.out.a2;have h2:=HD11.out.a1;omega
 have HD12:=ohid (HD11.out.aside hG12 hgw hgzn.1 hgzn.2)
 have HB12:Hid (Byt V12 (some ⟨gz,0,none⟩) Q (turnB Z j y)):=Byt.ofOwn hown12
 have hgzl:gz < V12.heap.size:=HB12.out.lt (by omega)
 have hQ48:¬ (Q:Int) < 48:=by omega
 have ej:(Q:Int) - 1 = (j:Int):=by omega
 have hjQ:(j:Int) < (Q:Int):=by omega
 have hQ3:Q ≤ 300:=by omega
 clear hV12 hxor hown12 hG12 HD11 HO11 hgw hgzn hgz hs10 hZ hj hQ hl11
 go_wp2_with fail
 clear hV12' hcell hfr ej hjQ
 have he2:NS.doneErr (NS.ag1 noiseName [] l0 l1 l2 T) (turnB Z j y) = if y = 0 then 0 else 3:=by
  rw [← HZ.out,← Hjn.out,← hTl]
  unfold NS.agZ
  rw [NS.bg1_is,NS.ag1_is]
  exact NS.done_turned _ l0 l1 l2 l2 T y
 rw [HEr.out] at he2
 refine (nDone_any ga _ (some ⟨gz,0,none⟩) Q c11 (turnB Z j y) V12 HD12.out.a HB12.out (fun e => by cases e) (by omega) hc11 hm11 (fun _ z o f e => by cases e;exact hgzl) HD12.out.tab HD12.out.ka).mono ?_
 intro e V13 hE
 obtain ⟨v13,q13,rfl,D13,_,_⟩:=HD12.out.stepA hE
 rw [he2]
 have HW13:=ohid D13.bel
 clear hE D13 HD12 HB12 he2 hgzl
 by_cases hy:y = 0
 ·have hy0:(y.toNat:Int) = 0:=by rw [hy];rfl
  have e0:er = 0:=by rw [← HEr.out,if_pos hy]
  subst e0
  go_wp2_with fail
  go_ret
  exact ⟨rfl,HW13.out⟩
 ·have hy0:¬ (y.toNat:Int) = 0:=fun h => hy (UInt8.toNat_inj.1 (by have:y.toNat = 0:=(by omega);rw [this];rfl))
  have e0:er = 3:=by rw [← HEr.out,if_neg hy]
  subst e0
  go_wp2_with fail
  go_ret
  exact ⟨rfl,HW13.out⟩
end Go.Proofs.YthmkhdnnljdglaaGreatDoor.noiseTags
