import Derived.Test.YthmkhdnnljdglaaGreatDoorQbp
import Derived.Test.YthmkhdnnljdglaaGreatDoorQbr
import Derived.Test.YthmkhdnnljdglaaGreatDoorQFrameB
import Derived.Test.YthmkhdnnljdglaaGreatDoorQaj
namespace Go.Proofs.YthmkhdnnljdglaaGreatDoor.noiseAgrees
open Go.ChangeShapes Go.WideShapes Go.ChangeAt Go.RowKit
set_option linter.unusedVariables false
set_option maxRecDepth 100000
def Bx (w W:World) (l1 l2:List UInt8):Prop:=W.heap[w.heap.size]? = some (.cells (l1.map bv).toArray 24 (0,0)) ∧ W.heap[w.heap.size + 1]? = some (.cells (l2.map bv).toArray 24 (0,0))
theorem Bx.but {w W W':World} {l1 l2:List UInt8} {g:Nat} (h:Bx w W l1 l2) (hG:W.grownBy W' (some g)) (hg:w.heap.size + 1 < g):Bx w W' l1 l2:=
 ⟨by rw [hG.block _ (Array.getElem?_eq_some_iff.1 h.1).1 (fun e => by cases e;omega)];exact h.1,by rw [hG.block _ (Array.getElem?_eq_some_iff.1 h.2).1 (fun e => by cases e;omega)];exact h.2⟩
theorem Bx.later {w W W':World} {l1 l2:List UInt8} (h:Bx w W l1 l2) (hb:Below W.heap.size W W'):Bx w W' l1 l2:=⟨row_later9 h.1 hb,row_later9 h.2 hb⟩
theorem row_block {w:World} {a:Option Addr} {n:Nat} {l:List UInt8} (h:Byt w a n l):0 < n → ∀ y o f,a = some ⟨y,o,f⟩ → y < w.heap.size:=fun h0 y o f e => by
 obtain ⟨b',o',e',_⟩:=h.at_ 0 h0
 rw [e'] at e h
 cases e
 exact h.lt h0
structure FourC (w:World) (u r:Nat) (D1 D2:List UInt8) (n m:Nat) (W:World):Prop where
 a:CiIs W u D1 true n
 b:CiIs W (r + 1) D1 true n
 c:CiIs W r D2 true m
 d:CiIs W (u + 1) D2 true m
 bel:Below w.heap.size w W
set_option maxHeartbeats 64000000 in
theorem walk (a0:Option Addr) (len0 cap0:Nat) (z0:List Int) (l1 l2 l3:List UInt8) (a4:Option Addr) (len4 cap4:Nat) (w:World) (w0:IsRow .u8 w a0 len0 cap0 z0) (w1:l1.length = 32) (w2:l2.length = 32) (w3:l3.length = 32) (w4:IsRows w a4 len4 cap4) (htabs:Tab w ∧ FTab w) :
  Calls Tryz.prog 4 #[.slice a0 len0 cap0,.agg (l1.map bv).toArray,.agg (l2.map bv).toArray,.agg (l3.map bv).toArray,.slice a4 len4 cap4] w fun e w' => e = .returned (.bool true) ∧ Below w.heap.size w w':=by
 have hnil0:=nrow_nil w0
 obtain ⟨P,np,hnE0,hn10,hn20,hnc0,hncm0,hB0⟩:=cut_row w0 50
 have hnEp:(if (50:Int) < (len0:Int) then (50:Int) else (len0:Int)) = (np:Int):=hnE0
 have HP:=ohid hB0
 have HR:=ohid w4
 have HT:Hid (TT w):=htabs
 have hI:Hid (∀ l:List UInt8,l.length = 32 → (Tryz.prog.info? 24).map (·.size) = some (l.map bv).toArray.size):=fun l hl => keyIA hl
 have HV0:Hid (Vw w (((w.alloc (.cells (l1.map bv).toArray 24)).alloc (.cells (l2.map bv).toArray 24)).alloc (.cells (l3.map bv).toArray 24)) [(w.heap.size,24,l1.map bv),(w.heap.size + 1,24,l2.map bv),(w.heap.size + 1 + 1,24,l3.map bv)]):=by
  have h:=(((Vw.none w).alloc 24 (l1.map bv)).alloc 24 (l2.map bv)).alloc 24 (l3.map bv)
  simp only [World.size_alloc] at h
  exact h
 have kd0:∀ (W:World) (C:Array Value) (n c:Nat),(convert 22 22 (.slice (some ⟨W.heap.size,0,none⟩) n c)).run Tryz.prog (W.alloc (.cells C 5)) = .ok (.slice (some ⟨W.heap.size,0,none⟩) n c) (W.alloc (.cells C 5 (C.size,C.size + 1))):=fun W C n c =>
  Lib.run_convert_bytes_const (P:=Tryz.prog) W 22 5 C n c Tryz.underlying22 Tryz.underlying5
 clear hnE0 hB0 w0 w4 htabs
 go_enter Tryz.func4,Tryz.ntmps4
 go_wp2_with fail
 obtain ⟨V0,hV0⟩:∃ V,((w.alloc (.cells (l1.map bv).toArray 24)).alloc (.cells (l2.map bv).toArray 24)).alloc (.cells (l3.map bv).toArray 24) = V:=⟨_,rfl⟩
 rw [hV0] at HV0
 rw [hV0]
 clear hV0
 refine (noiShown_any V0 (HT.out.later HV0.out.bel)).mono ?_
 rintro e V1 ⟨rfl,hb⟩
 have HV1:=ohid (HV0.out.later hb)
 clear hb HV0
 have hst:=run_store_arr V1 24 l3 32 w3 (by kernel_rfl) zero32C (by kernel_rfl)
 simp only [zero32C,List.replicate] at hst
 have hV2:=HV1.out.alloc 24 (l3.map bv)
 have hA2:=Arr.new V1 24 l3
 obtain ⟨p,hp⟩:∃ p,V1.heap.size = p:=⟨_,rfl⟩
 obtain ⟨V2,hV2e⟩:∃ V,V1.alloc (.cells (l3.map bv).toArray 24) = V:=⟨_,rfl⟩
 rw [hV2e,hp] at hst hV2 hA2
 have hlen3:(l3.map bv).length = 32:=by simp [w3]
 have K3:Hid (V1.heap[w.heap.size + 1 + 1]? = some (.cells (l3.map bv).toArray 24 (0,0))):=HV1.out.cell (w.heap.size + 1 + 1,24,l3.map bv) (by simp)
 have hpn:w.heap.size + 1 + 1 < p:=by rw [← hp];exact HV1.out.vr.lt (w.heap.size + 1 + 1,24,l3.map bv) (by simp)
 obtain ⟨hc0,hf0⟩:=hA2.at_ 0 (by omega)
 have hxor:=xor_val8 (at8 l3 0) 64
 have hA3:=hA2.set 0 (at8 l3 0 ^^^ 64)
 obtain ⟨L,hL⟩:∃ L,l3.set 0 (at8 l3 0 ^^^ 64) = L:=⟨_,rfl⟩
 have hLl:L.length = 32:=by rw [← hL];simp [w3]
 rw [hL] at hA3
 have hV3:=hV2.setCell 3 p 24 (l3.map bv) 0 (.int .u8 ((at8 l3 0 ^^^ 64).toNat:Int)) rfl
 obtain ⟨V3,hV3e⟩:∃ V,V2.setCell ⟨p,0,none⟩ (.int .u8 ((at8 l3 0 ^^^ 64).toNat:Int)) = V:=⟨_,rfl⟩
 have hV3f:V2.setCell ⟨p,0,none⟩ (.int .u8 (bits .xor .u8 ((at8 l3 0).toNat:Int) 64)) = V3:=by
  have e64:(((64:UInt8).toNat:Nat):Int) = 64:=rfl
  rw [e64] at hxor
  rw [hxor];exact hV3e
 rw [hV3e] at hA3 hV3
 have HA3:=ohid hA3
 have HV3:Hid (Vw w V3 [(w.heap.size,24,l1.map bv),(w.heap.size + 1,24,l2.map bv),(w.heap.size + 1 + 1,24,l3.map bv)]):=hV3.sub (by simp)
 have HPn:=ohid hpn
 obtain ⟨W,hW⟩:∃ W,V3.drew = W:=⟨_,rfl⟩
 have hgr:Below V3.heap.size V3 W:=by rw [← hW];exact (Below.refl _ _).drew
 have HWe:=ohid hW
 have HVW:=ohid (HV3.out.later hgr)
 have HAW:=ohid (HA3.out.later hgr)
 have HK:Hid (∀ w',Grows W w' → w'.heap[w.heap.size]? = some (.cells (l1.map bv).toArray 24 (0,0)) ∧ w'.heap[w.heap.size + 1]? = some (.cells (l2.map bv).toArray 24 (0,0)) ∧ w'.heap[w.heap.size + 1 + 1]? = some (.cells (l3.map bv).toArray 24 (0,0))):=fun w' hw' => by
  have h:=HVW.out.later hw'
  exact ⟨h.cell (w.heap.size,24,l1.map bv) (by simp),h.cell (w.heap.size + 1,24,l2.map bv) (by simp),h.cell (w.heap.size + 1 + 1,24,l3.map bv) (by simp)⟩
 clear hxor hA2 hV2 hV2e hA3 hV3 hV3e hgr hW HV1 HV3 HA3 hL hpn
 go_wp2_with (first | refine wpList_load_row rfl 24 (.tmp 8) rfl (w.heap.size + 1 + 1) rfl 24 (l3.map bv).toArray (0,0) _ K3.out Tryz.underlying24 rfl (hI.out l3 w3) ?_ | fail)
 clear hst hp hc0 hf0 hV3f K3
 refine wp_region_sched' (G:=Grows) (by kernel_rfl) Grows.refl Grows.trans (by kernel_rfl) [(0,true),(1,true),(2,true),(4,true),(3,false),(5,false),(6,true)] rfl (by kernel_rfl) ?_
 intro KK hKK
 rw [HWe.out]
 iterate 1 (refine sched_take rfl (by rfl) (v:=?_) ?_ ?_;rotate_left;(intro w' hw';clear hw';go_simp;with_reducible rfl);go_simp)
 refine sched_take rfl (by rfl) (v:=.agg (l1.map bv).toArray) (fun w' hw' => exec_load_row 24 _ rfl w.heap.size rfl 24 _ (0,0) _ (HK.out w' hw').1 Tryz.underlying24 rfl (hI.out l1 w1)) ?_
 go_simp
 refine sched_take rfl (by rfl) (v:=.agg (l2.map bv).toArray) (fun w' hw' => exec_load_row 24 _ rfl (w.heap.size + 1) rfl 24 _ (0,0) _ (HK.out w' hw').2.1 Tryz.underlying24 rfl (hI.out l2 w2)) ?_
 go_simp
 refine sched_take rfl (by rfl) (v:=.agg (l3.map bv).toArray) (fun w' hw' => exec_load_row 24 _ rfl (w.heap.size + 1 + 1) rfl 24 _ (0,0) _ (HK.out w' hw').2.2 Tryz.underlying24 rfl (hI.out l3 w3)) ?_
 go_simp
 refine sched_call (f:=9) (args:=#[.agg (l2.map bv).toArray]) rfl (by rfl) (by go_simp) ?_
 refine (public_any l2 W w2 (HT.out.later HVW.out.bel).2).mono ?_
 rintro e V4 ⟨rfl,hb⟩
 refine ⟨_,rfl,hb,?_⟩
 have hRl:=pubB_length l2
 obtain ⟨R,hR⟩:∃ R,pubB l2 = R:=⟨_,rfl⟩
 have hR':leB 32 (mX (clampK (leN l2)) 9) = R:=hR
 rw [hR] at hRl
 rw [hR']
 have HRe:=ohid hR
 have HV4:=ohid (HVW.out.later hb)
 have HA4:=ohid (HAW.out.later hb)
 clear hb hR hR'
 go_simp
 refine sched_call (f:=10) (args:=#[.slice a0 np cap0,.agg (l1.map bv).toArray,.agg (R.map bv).toArray,.agg (l3.map bv).toArray]) rfl (by rfl) (by go_simp) ?_
 refine (nStart_any a0 np cap0 P l1 R l3 V4 w1 w3 hRl (HP.out.later HV4.out.bel) hnil0 (by omega) (Nat.le_trans hn20 hnc0) hncm0 (HT.out.later HV4.out.bel)).mono ?_
 rintro e V5 ⟨ga,rfl,hga,hb,hA⟩
 refine ⟨_,rfl,hb,?_⟩
 rw [← HRe.out] at hA
 have HA:=ohid hA
 have HV5:=ohid (HV4.out.later hb)
 have HA5:=ohid (HA4.out.later hb)
 have HGA:Hid (w.heap.size ≤ ga ∧ p < ga):=⟨Nat.le_trans HV4.out.bel.size hga,Nat.lt_of_lt_of_le HA4.out.lt hga⟩
 clear hb hA hga HV4 HA4 HVW HAW HK HWe
 go_simp
 iterate 1 (refine sched_take rfl (by rfl) (v:=?_) ?_ ?_;rotate_left;(intro w' hw';clear hw';go_simp;with_reducible rfl);go_simp)
 refine sched_done hKK ?_
 clear hKK
 have K2:Hid (V5.heap[w.heap.size + 1]? = some (.cells (l2.map bv).toArray 24 (0,0))):=HV5.out.cell (w.heap.size + 1,24,l2.map bv) (by simp)
 go_wp2_with (first | refine wpList_load_row rfl 24 (.tmp 7) rfl (w.heap.size + 1) rfl 24 (l2.map bv).toArray (0,0) _ K2.out Tryz.underlying24 rfl (hI.out l2 w2) ?_ | refine wpList_load_row rfl 24 (.tmp 12) rfl p rfl 24 (L.map bv).toArray (0,0) _ HA5.out Tryz.underlying24 rfl (hI.out L hLl) ?_ | fail)
 refine (nAnswer_any a0 np cap0 P l2 L V5 w2 hLl (HP.out.later HV5.out.bel) hnil0 (by omega) (Nat.le_trans hn20 hnc0) hncm0 (HT.out.later HV5.out.bel)).mono ?_
 rintro e V6 ⟨gb,rfl,hgb,hb,hBd⟩
 have HV6:=ohid (HV5.out.later hb)
 have HGB:Hid (w.heap.size ≤ gb ∧ ga < gb ∧ gb < V6.heap.size):=⟨Nat.le_trans HV5.out.bel.size hgb,Nat.lt_of_lt_of_le HA.out.lt hgb,hBd.lt⟩
 have HD:Hid (Du w V6 V6.heap.size ga gb (NS.begin_ noiseName P l1 (pubB l2) l3) (NS.answer noiseName P l2 L)):=⟨HV6.out.bel,HGA.out.1,Nat.lt_trans HGB.out.2.1 HGB.out.2.2,HGB.out.1,HGB.out.2.2,Nat.ne_of_lt HGB.out.2.1,Nat.le_refl _,HA.out.later hb,hBd,HT.out⟩
 obtain ⟨s,hs⟩:∃ s,V6.heap.size = s:=⟨_,rfl⟩
 rw [hs] at HD HGB
 have HS6:Hid (s ≤ V6.heap.size):=Nat.le_of_eq hs.symm
 clear hb hBd hgb HA HA5 HV5 K2 HRe hs HP
 obtain ⟨hBl,hbl,hsl⟩:=lit_byt V6 [116,101,120,116] #[.int .u8 116,.int .u8 101,.int .u8 120,.int .u8 116] 5 (4,5) rfl
 obtain ⟨V7,hV7⟩:∃ V,V6.alloc (.cells #[.int .u8 116,.int .u8 101,.int .u8 120,.int .u8 116] 5 (4,5)) = V:=⟨_,rfl⟩
 rw [hV7] at hBl hbl hsl
 have HV7:=ohid hV7
 have HD7a:=ohid (HD.out.later hbl)
 have HV7b:=ohid (HV6.out.later hbl)
 have HBl:=ohid hBl
 have hgab:ga < V6.heap.size ∧ gb < V6.heap.size:=⟨HD.out.a.lt,HD.out.b.lt⟩
 have HGab:=ohid hgab
 clear hV7 hBl hbl hsl HD HV6 HS6 hgab
 by_cases hl0:0 < len4
 case' pos =>
  have i0:(0:Int) < (len4:Int):=by omega
  obtain ⟨b,off,rfl,hbw,hrows⟩:=rows_at HR.out hl0
  obtain ⟨ta,li,tc,zs,hcell,hrow⟩:=hrows 0 hl0
  have tnil:=nrow_nil hrow
  obtain ⟨T,nt,hnE,ht1,hn2,hnc,htm,hBT⟩:=cut_row hrow 100
  have hnEt:(if (100:Int) < (li:Int) then (100:Int) else (li:Int)) = (nt:Int):=hnE
  have htc:nt ≤ tc:=Nat.le_trans hn2 hnc
  have hRb:=row_block hBT
  obtain ⟨W7,hW7⟩:∃ W,V7.drew = W:=⟨_,rfl⟩
  have hgr:Below V7.heap.size V7 W7:=by rw [← hW7];exact (Below.refl _ _).drew
  have HW7e:=ohid hW7
  have HD7:=ohid (HD7a.out.later hgr)
  have HV8:=ohid (HV7b.out.later hgr)
  have HTx:=ohid (hBT.later HD7.out.bel)
  have HTn:Hid (0 < nt → ∀ y o f,ta = some ⟨y,o,f⟩ → y ≠ ga ∧ y ≠ gb):=fun h0 y o f e => by
   have h1:=hRb h0 y o f e
   have h2:=HD7.out.a1
   have h3:=HD7.out.b1
   omega
  rw [Nat.add_zero] at hcell
  have hcW:∀ w',Grows W7 w' → w'.cell? ⟨b,off,none⟩ = some (.slice ta li tc):=fun w' hw' => by
   have h2:=HD7.out.bel.size
   rw [World.cell?_of_block (hw'.block b (by omega)),World.cell?_of_block (HD7.out.bel.block b hbw)]
   exact hcell
  obtain ⟨N,hN⟩:∃ N,96 + nt = N:=⟨_,rfl⟩
  obtain ⟨M,hM⟩:∃ M,48 + nt = M:=⟨_,rfl⟩
  have eN:(96:Int) + (nt:Int) = (N:Int):=by omega
  have eM:(48:Int) + (nt:Int) = (M:Int):=by omega
  have hTl:=hBT.1
  have HNM:Hid (96 + T.length = N ∧ 48 + T.length = M):=⟨by omega,by omega⟩
  have e1:(nt:Int) ≤ (tc:Int):=by omega
  have hcm':tc ≤ 9223372036854775807:=by unfold maxLen at htm;exact htm
  have hV7o:=HV7.out
  have ht8:nt ≤ 100:=ht1
  clear hnE hrow hrows hcell hBT hW7 hgr hN hM hTl HD7a HV7b HBl hRb HGab
  go_wp2_with fail
  clear hV7o
  refine wp_region_sched' (G:=Grows) (by kernel_rfl) Grows.refl Grows.trans (by kernel_rfl) [(0,true),(1,true),(2,true),(3,true),(4,true),(5,true),(6,true),(7,true),(8,true),(9,true)] rfl (by kernel_rfl) ?_
  intro KK hKK
  rw [HW7e.out]
  iterate 10 (refine sched_take rfl (by rfl) (v:=?_) ?_ ?_;rotate_left;(intro w' hw';have q1:=hcW w' hw';clear hw';go_simp;with_reducible rfl);go_simp)
  refine sched_done hKK ?_
  clear hKK hcW HW7e kd0 HV7
  go_wp2_with fail
  clear e1 hcm' hnEt i0
 case' neg =>
  have i0:¬ (0:Int) < (len4:Int):=by omega
  obtain ⟨T,hT⟩:∃ T:List UInt8,[116,101,120,116] = T:=⟨_,rfl⟩
  have tnil:(some ⟨V6.heap.size,0,none⟩:Option Addr) = none → 4 = 0:=fun e => by cases e
  have HD7:=HD7a
  have HV8:=HV7b
  have HTx:Hid (Byt V7 (some ⟨V6.heap.size,0,none⟩) 4 T):=by show Byt _ _ _ _;rw [← hT];exact HBl.out
  have HTn:Hid (0 < 4 → ∀ y o f,(some ⟨V6.heap.size,0,none⟩:Option Addr) = some ⟨y,o,f⟩ → y ≠ ga ∧ y ≠ gb):=fun _ y o f e => by
   have h1:=HGab.out
   cases e
   omega
  obtain ⟨N,hN⟩:∃ N,100 = N:=⟨_,rfl⟩
  obtain ⟨M,hM⟩:∃ M,52 = M:=⟨_,rfl⟩
  have eN:(N:Int) = 100:=by omega
  have eM:(M:Int) = 52:=by omega
  have HNM:Hid (96 + T.length = N ∧ 48 + T.length = M):=by rw [← hT];exact ⟨hN,hM⟩
  have htc:4 ≤ 4:=Nat.le_refl _
  have htm:4 ≤ maxLen:=by unfold maxLen;omega
  have ht8:4 ≤ 100:=by omega
  have hV7o:=HV7.out
  clear hT hN hM HD7a HV7b HBl HGab
  go_wp2_with fail
  clear hV7o i0 kd0 HV7
  generalize V7 = W7 at *
 all_goals
  have HBx:Hid (Bx w W7 l1 l2):=⟨HV8.out.cell (w.heap.size,24,l1.map bv) (by simp),HV8.out.cell (w.heap.size + 1,24,l2.map bv) (by simp)⟩
  have HGg:Hid (w.heap.size + 1 < ga ∧ w.heap.size + 1 < gb):=⟨by have h1:=HPn.out;have h2:=HGA.out.2;omega,by have h1:=HPn.out;have h2:=HGA.out.2;have h3:=HGB.out.2.1;omega⟩
  clear HV8
  have AG:=ohid (NS.agreed noiseName P l1 l2 l3 L T T)
  refine (nFirst_any ga _ _ _ _ T W7 HD7.out.a HTx.out tnil (by omega) htc htm (row_block HTx.out) HD7.out.tab HD7.out.ka).mono ?_
  intro e W8 hE
  obtain ⟨v8,q8,rfl,D8,own8,hG8⟩:=HD7.out.stepA hE
  rw [AG.out.e1] at own8
  rw [AG.out.e1]
  rw [if_pos rfl] at own8
  have HD8:Hid (Du w W8 s ga gb (NS.ag1 noiseName P l1 l2 l3 T) (NS.answer noiseName P l2 L)):=D8
  have HO8:Hid (W8.ownsRow s 5 1 v8 q8 ((NS.agX noiseName P l1 l2 l3 T).map bv)):=own8
  have HTx8:=ohid (HTx.out.but_any hG8 (fun h0 b' o f e => (HTn.out h0 b' o f e).1))
  replace HBx:=ohid (HBx.out.but hG8 HGg.out.1)
  clear hE D8 own8 hG8 HTx
  obtain ⟨X,hX⟩:∃ X,NS.agX noiseName P l1 l2 l3 T = X:=⟨_,rfl⟩
  have HX:=ohid hX
  have hXl:=AG.out.l1
  rw [hX] at HO8 hXl
  obtain ⟨a8,c8,rfl,hB8,hc8,hm8,hn8,hw8,hs8,hl8⟩:=own_arg HO8.out
  obtain rfl:q8 = N:=by have:=HNM.out.1;omega
  have HB8:=ohid hB8
  have HN8:=ohid hn8
  have HL8:=ohid hw8
  have hN2:q8 ≤ 300:=by have:=HNM.out.1;have:=HTx8.out.1;omega
  clear hX hB8 hn8 hw8 hs8 hl8 HD7 HO8
  go_wp2_with fail
  refine (nHear_any gb _ a8 q8 c8 X W8 HD8.out.b HB8.out HN8.out (by omega) hc8 hm8 (fun _ => HL8.out) HD8.out.tab HD8.out.kb).mono ?_
  intro e W9 hE
  obtain ⟨v9,q9,rfl,D9,own9,hG9⟩:=HD8.out.stepB hE
  rw [← HX.out,AG.out.e2] at own9
  rw [← HX.out,AG.out.e2]
  rw [← HX.out] at D9
  rw [if_pos rfl,AG.out.o2] at own9
  have HD9:Hid (Du w W9 s ga gb (NS.ag1 noiseName P l1 l2 l3 T) (NS.bg1 noiseName P l1 l2 l3 L T)):=D9
  have HO9:=ohid own9
  have HTx9:=ohid (HTx8.out.but_any hG9 (fun h0 b' o f e => (HTn.out h0 b' o f e).2))
  replace HBx:=ohid (HBx.out.but hG9 HGg.out.2)
  clear hE D9 own9 hG9 HB8 HN8 HL8 HD8 hc8 hm8 HTx8
  obtain ⟨a9,c9,rfl,hB9,hc9,hm9,hn9,hw9,hs9,hl9⟩:=own_arg HO9.out
  have HB9:=ohid hB9
  have HN9:=ohid hn9
  have HL9:=ohid hw9
  have hq9:q9 ≤ 100:=by have:=HTx9.out.1;omega
  clear hB9 hn9 hw9 hs9 hl9
  go_wp2_with fail
  refine (nSecond_any gb _ a9 q9 c9 T W9 HD9.out.b HB9.out HN9.out (by omega) hc9 hm9 (fun _ => HL9.out) HD9.out.tab HD9.out.kb).mono ?_
  intro e W10 hE
  obtain ⟨v10,q10,rfl,D10,own10,hG10⟩:=HD9.out.stepB hE
  rw [AG.out.e3] at own10
  rw [AG.out.e3]
  rw [if_pos rfl] at own10
  have HD10:Hid (Du w W10 s ga gb (NS.ag1 noiseName P l1 l2 l3 T) (NS.bg2 noiseName P l1 l2 l3 L T T)):=D10
  have HO10:Hid (W10.ownsRow s 5 1 v10 q10 ((NS.agZ noiseName P l1 l2 l3 L T T).map bv)):=own10
  have HTx10:=ohid (HTx9.out.but_any hG10 (fun h0 b' o f e => (HTn.out h0 b' o f e).2))
  have HOy:=ohid (own_keep HO9.out hG10 HD9.out.b2)
  replace HBx:=ohid (HBx.out.but hG10 HGg.out.2)
  clear hE D10 own10 hG10 HB9 HN9 HL9 HD9 hc9 hm9 HTx9 HO9
  obtain ⟨Z,hZ⟩:∃ Z,NS.agZ noiseName P l1 l2 l3 L T T = Z:=⟨_,rfl⟩
  have HZ:=ohid hZ
  have hZl:=AG.out.l3
  rw [hZ] at HO10 hZl
  obtain ⟨a10,c10,rfl,hB10,hc10,hm10,hn10,hw10,hs10,hl10⟩:=own_arg HO10.out
  obtain rfl:q10 = M:=by have:=HNM.out.2;omega
  have HB10:=ohid hB10
  have HN10:=ohid hn10
  have HL10:=ohid hw10
  have hq10:q10 ≤ 300:=by have:=HNM.out.2;have:=HTx10.out.1;omega
  clear hZ hB10 hn10 hw10 hs10 hl10 HO10
  go_wp2_with fail
  refine (nDone_any ga _ a10 q10 c10 Z W10 HD10.out.a HB10.out HN10.out (by omega) hc10 hm10 (fun _ => HL10.out) HD10.out.tab HD10.out.ka).mono ?_
  intro e W11 hE
  obtain ⟨v11,q11,rfl,D11,own11,hG11⟩:=HD10.out.stepA hE
  rw [← HZ.out,AG.out.e4] at own11
  rw [← HZ.out,AG.out.e4]
  rw [← HZ.out] at D11
  rw [if_pos rfl] at own11
  have HD11:Hid (Du w W11 s ga gb (NS.ag2 noiseName P l1 l2 l3 L T T) (NS.bg2 noiseName P l1 l2 l3 L T T)):=D11
  have HO11:Hid (W11.ownsRow s 5 1 v11 q11 (T.map bv)):=by have h:=AG.out.o4;rw [show NS.doneOut _ _ = _ from h] at own11;exact own11
  have HTx11:=ohid (HTx10.out.but_any hG11 (fun h0 b' o f e => (HTn.out h0 b' o f e).1))
  replace HOy:=ohid (own_keep HOy.out hG11 HD10.out.a2)
  replace HBx:=ohid (HBx.out.but hG11 HGg.out.1)
  clear hE D11 own11 hG11 HB10 HN10 HL10 HD10 hc10 hm10 HTx10
  obtain ⟨a11,c11,rfl,hB11,_,_,_,_,_,_⟩:=own_arg HO11.out
  obtain ⟨_,_,e9,hB9,_,_,_⟩:=own_parts HOy.out
  cases e9
  have q1:=conv_bytes W11 a9 q9 c9 T hB9
  have q2:=fun c => conv_bytes W11 _ _ c T HTx11.out
  have q3:=conv_bytes W11 a11 q11 c11 T hB11
  clear hB11 hB9 HOy HO11 HTx11 HTn
  obtain ⟨x2,hx2⟩:∃ x2,NS.ag2 noiseName P l1 l2 l3 L T T = x2:=⟨_,rfl⟩
  obtain ⟨y2,hy2⟩:∃ y2,NS.bg2 noiseName P l1 l2 l3 L T T = y2:=⟨_,rfl⟩
  have hm:=AG.out.m
  have hsa:=AG.out.sa
  have hsb:=AG.out.sb
  have hta:=AG.out.ta
  have htb:=AG.out.tb
  have hSa:=AG.out.Sa
  have hSb:=AG.out.Sb
  rw [hx2,hy2] at HD11 hm
  rw [hx2] at hsa hta hSa
  rw [hy2] at hsb htb hSb
  obtain ⟨D1,hD1⟩:∃ D,NS.sendK x2 = D:=⟨_,rfl⟩
  obtain ⟨D2,hD2⟩:∃ D,NS.hearK x2 = D:=⟨_,rfl⟩
  have k3:NS.sendK y2 = D2:=by rw [← hD2];unfold NS.sendK NS.hearK;rw [if_neg (by rw [htb];decide),if_pos hta,hm]
  have k4:NS.hearK y2 = D1:=by rw [← hD1];unfold NS.sendK NS.hearK;rw [if_neg (by rw [htb];decide),if_pos hta,hm]
  have d1l:D1.length = 32:=by rw [← hD1];exact sendK_length _
  have d2l:D2.length = 32:=by rw [← hD2];exact hearK_length _
  have HKK:=ohid (And.intro hD1 (And.intro hD2 (And.intro k3 k4)))
  have HSA:=ohid hsa
  have HSB:=ohid hsb
  have HSS:=ohid (And.intro hSa hSb)
  have hHl:x2.M.H.length = 32:=by
   obtain ⟨sx,hsx⟩:=HD11.out.a
   exact hsx.sd.mi.h
  obtain ⟨H,hH⟩:∃ H,x2.M.H = H:=⟨_,rfl⟩
  have hHy:y2.M.H = H:=by rw [← hm];exact hH
  rw [hH] at hHl
  have HH:=ohid (And.intro hH hHy)
  clear hx2 hy2 hm hsa hsb hta htb hSa hSb hD1 hD2 k3 k4 hH hHy AG
  go_wp2_with fail
  clear q1 q2 q3 eN eM
  refine (nSplit_ok ga x2 W11 HD11.out.a HD11.out.tab HSA.out).mono ?_
  rintro e W12 ⟨rfl,hb12⟩
  rw [HKK.out.1,HKK.out.2.1,HH.out.1]
  obtain ⟨X1,X2,X3,s1,s2,s3,hc1,hc2,hk3,hbX⟩:=sp_place W12 D1 D2 H d1l d2l hHl
  simp only [ciZ,zero32C,List.replicate] at s1
  obtain ⟨u,hu⟩:∃ u,W12.heap.size = u:=⟨_,rfl⟩
  have HUw:Hid (w.heap.size < u):=by
   have h1:=HGg.out.1
   have h2:=(HD11.out.later hb12).a.lt
   rw [hu] at h2
   exact Nat.lt_of_le_of_lt (Nat.le_succ _) (Nat.lt_trans h1 h2)
  rw [hu] at s1 s2 s3 hc1 hc2 hk3
  have HD12:=ohid ((HD11.out.later hb12).later hbX)
  have HC1:=ohid hc1
  have HC2:=ohid hc2
  have HC3:=ohid hk3
  have hl1:(CiV D1 true 0).length = 34:=by rw [CiV_length,d1l]
  have hl2:(CiV D2 true 0).length = 34:=by rw [CiV_length,d2l]
  have hlH:(H.map bv).length = 32:=by simp [hHl]
  replace HBx:=ohid ((HBx.out.later hb12).later hbX)
  clear hc1 hc2 hk3 hbX hb12 HD11
  go_wp2_with fail
  clear s1 s2 s3 hu
  refine (nSplit_ok gb y2 X3 HD12.out.b HD12.out.tab HSB.out).mono ?_
  rintro e W13 ⟨rfl,hb13⟩
  rw [HKK.out.2.2.1,HKK.out.2.2.2,HH.out.2]
  obtain ⟨Y1,Y2,Y3,s1,s2,s3,hc4,hc5,hk6,hbY⟩:=sp_place W13 D2 D1 H d2l d1l hHl
  simp only [ciZ,zero32C,List.replicate] at s1
  obtain ⟨r,hr⟩:∃ r,W13.heap.size = r:=⟨_,rfl⟩
  have hru:u + 1 + 1 < r:=by rw [← hr];exact Nat.lt_of_lt_of_le HC3.out.lt hb13.size
  rw [hr] at s1 s2 s3 hc4 hc5 hk6
  have HD13:=ohid ((HD12.out.later hb13).later hbY)
  replace HC1:=ohid ((HC1.out.later hb13).later hbY)
  replace HC2:=ohid ((HC2.out.later hb13).later hbY)
  replace HC3:=ohid ((HC3.out.later hb13).later hbY)
  have HC4:=ohid hc4
  have HC5:=ohid hc5
  have HC6:=ohid hk6
  replace HBx:=ohid ((HBx.out.later hb13).later hbY)
  clear hc4 hc5 hk6 hbY hb13 HD12
  go_wp2_with fail
  clear s1 s2 s3 hr
  obtain ⟨W,hW⟩:∃ W,Y3.drew = W:=⟨_,rfl⟩
  have hgr:Below Y3.heap.size Y3 W:=by rw [← hW];exact (Below.refl _ _).drew
  have HWe:=ohid hW
  have HDW:=ohid (HD13.out.later hgr)
  have HBxW:=ohid (HBx.out.later hgr)
  replace HC1:=ohid (HC1.out.later hgr)
  replace HC2:=ohid (HC2.out.later hgr)
  replace HC3:=ohid (HC3.out.later hgr)
  replace HC4:=ohid (HC4.out.later hgr)
  replace HC5:=ohid (HC5.out.later hgr)
  replace HC6:=ohid (HC6.out.later hgr)
  have hIH:=ohid (keyIA hHl)
  have h1l:=pubB_length l1
  have h2l:=pubB_length l2
  obtain ⟨P1,hP1⟩:∃ Q,pubB l1 = Q:=⟨_,rfl⟩
  obtain ⟨P2,hP2⟩:∃ Q,pubB l2 = Q:=⟨_,rfl⟩
  rw [hP1] at h1l
  rw [hP2] at h2l
  have HPe:=ohid (And.intro hP1 hP2)
  have Hci:=ohid (And.intro (ci_info D1 true 0 d1l) (ci_info D2 true 0 d2l))
  clear hW hgr HD13 HBx hP1 hP2
  go_wp2_with fail
  refine wp_region_sched' (G:=Grows) (by kernel_rfl) Grows.refl Grows.trans (by kernel_rfl) [(0,true),(1,true),(2,true),(3,true),(4,true),(5,true),(6,true),(7,true),(8,true),(9,true),(10,true),(11,true),(12,true),(13,true),(14,true),(15,true),(16,true),(17,true),(18,true),(19,true),(20,true),(21,true),(22,true),(24,true),(23,false),(25,false),(26,true),(27,true),(28,true),(29,true),(31,true),(30,false),(32,false),(33,true),(34,true)] rfl (by kernel_rfl) ?_
  intro KK hKK
  rw [HWe.out]
  iterate 7 (refine sched_take rfl (by rfl) (v:=?_) ?_ ?_;rotate_left;(intro w' hw';clear hw';go_simp;with_reducible rfl);go_simp)
  refine sched_take rfl (by rfl) (v:=.agg (H.map bv).toArray) (fun w' hw' => exec_load_row 24 _ rfl (u + 1 + 1) rfl 24 _ (0,0) _ (HC3.out.later hw') Tryz.underlying24 rfl hIH.out) ?_
  go_simp
  refine sched_take rfl (by rfl) (v:=.agg (H.map bv).toArray) (fun w' hw' => exec_load_row 24 _ rfl (r + 1 + 1) rfl 24 _ (0,0) _ (HC6.out.later hw') Tryz.underlying24 rfl hIH.out) ?_
  go_simp
  iterate 3 (refine sched_take rfl (by rfl) (v:=?_) ?_ ?_;rotate_left;(intro w' hw';have q3:=arr_eq w' 24 32 H H hHl hHl Tryz.underlying24;rw [decide_eq_true rfl] at q3;clear hw';go_simp;with_reducible rfl);go_simp)
  refine sched_take rfl (by rfl) (v:=.agg (CiV D1 true 0).toArray) (fun w' hw' => exec_load_row 42 _ rfl u rfl 42 _ (0,0) _ (HC1.out.later hw').row Tryz.underlying42 rfl Hci.out.1) ?_
  go_simp
  refine sched_take rfl (by rfl) (v:=.agg (CiV D1 true 0).toArray) (fun w' hw' => exec_load_row 42 _ rfl (r + 1) rfl 42 _ (0,0) _ (HC5.out.later hw').row Tryz.underlying42 rfl Hci.out.1) ?_
  go_simp
  refine sched_take rfl (by rfl) (v:=.bool false) (fun w' hw' => exec_cmp true rfl rfl rfl Tryz.eqGuardType42 (by have h:=ci_eq w' D1 D1 true true 0 0 d1l d1l;rw [decide_eq_true (And.intro rfl (And.intro rfl rfl))] at h;exact h)) ?_
  go_simp
  iterate 2 (refine sched_take rfl (by rfl) (v:=?_) ?_ ?_;rotate_left;(intro w' hw';clear hw';go_simp;with_reducible rfl);go_simp)
  refine sched_take rfl (by rfl) (v:=.agg (CiV D2 true 0).toArray) (fun w' hw' => exec_load_row 42 _ rfl (u + 1) rfl 42 _ (0,0) _ (HC2.out.later hw').row Tryz.underlying42 rfl Hci.out.2) ?_
  go_simp
  refine sched_take rfl (by rfl) (v:=.agg (CiV D2 true 0).toArray) (fun w' hw' => exec_load_row 42 _ rfl r rfl 42 _ (0,0) _ (HC4.out.later hw').row Tryz.underlying42 rfl Hci.out.2) ?_
  go_simp
  refine sched_take rfl (by rfl) (v:=.bool false) (fun w' hw' => exec_cmp true rfl rfl rfl Tryz.eqGuardType42 (by have h:=ci_eq w' D2 D2 true true 0 0 d2l d2l;rw [decide_eq_true (And.intro rfl (And.intro rfl rfl))] at h;exact h)) ?_
  go_simp
  iterate 3 (refine sched_take rfl (by rfl) (v:=?_) ?_ ?_;rotate_left;(intro w' hw';clear hw';go_simp;with_reducible rfl);go_simp)
  refine sched_take rfl (by rfl) (v:=.agg (l2.map bv).toArray) (fun w' hw' => exec_load_row 24 _ rfl (w.heap.size + 1) rfl 24 _ (0,0) _ (HBxW.out.later hw').2 Tryz.underlying24 rfl (hI.out l2 w2)) ?_
  go_simp
  refine sched_call (f:=22) (args:=#[.pointer (some ⟨ga,0,none⟩)]) rfl (by rfl) (by go_simp) ?_
  refine (nOther_any ga x2 W HDW.out.a).mono ?_
  rintro e U1 ⟨rfl,hb,_⟩
  refine ⟨_,rfl,hb,?_⟩
  rw [HSS.out.1,HPe.out.2]
  have HD14:=ohid (HDW.out.later hb)
  have HB14:=ohid hb
  clear hb
  go_simp
  refine sched_call (f:=9) (args:=#[.agg (l2.map bv).toArray]) rfl (by rfl) (by go_simp) ?_
  refine (public_any l2 U1 w2 HD14.out.tab.2).mono ?_
  rintro e U2 ⟨rfl,hb⟩
  refine ⟨_,rfl,hb,?_⟩
  rw [show leB 32 (mX (clampK (leN l2)) 9) = P2 from HPe.out.2]
  have HD15:=ohid (HD14.out.later hb)
  have HB15:=ohid (HB14.out.trans (hb.mono HB14.out.size))
  clear hb HD14 HB14
  go_simp
  iterate 4 (refine sched_take rfl (by rfl) (v:=?_) ?_ ?_;rotate_left;(intro w' hw';have q3:=arr_eq w' 24 32 P2 P2 h2l h2l Tryz.underlying24;rw [decide_eq_true rfl] at q3;clear hw';go_simp;with_reducible rfl);go_simp)
  refine sched_take rfl (by rfl) (v:=.agg (l1.map bv).toArray) (fun w' hw' => exec_load_row 24 _ rfl w.heap.size rfl 24 _ (0,0) _ ((HBxW.out.later HB15.out).later hw').1 Tryz.underlying24 rfl (hI.out l1 w1)) ?_
  go_simp
  refine sched_call (f:=22) (args:=#[.pointer (some ⟨gb,0,none⟩)]) rfl (by rfl) (by go_simp) ?_
  refine (nOther_any gb y2 U2 HD15.out.b).mono ?_
  rintro e U3 ⟨rfl,hb,_⟩
  refine ⟨_,rfl,hb,?_⟩
  rw [HSS.out.2,HPe.out.1]
  have HD16:=ohid (HD15.out.later hb)
  have HB16:=ohid (HB15.out.trans (hb.mono HB15.out.size))
  clear hb HD15 HB15
  go_simp
  refine sched_call (f:=9) (args:=#[.agg (l1.map bv).toArray]) rfl (by rfl) (by go_simp) ?_
  refine (public_any l1 U3 w1 HD16.out.tab.2).mono ?_
  rintro e U4 ⟨rfl,hb⟩
  refine ⟨_,rfl,hb,?_⟩
  rw [show leB 32 (mX (clampK (leN l1)) 9) = P1 from HPe.out.1]
  have HB17:=HB16.out.trans (hb.mono HB16.out.size)
  have HW0:=ohid (HDW.out.bel.trans (HB17.mono HDW.out.bel.size))
  replace HC1:=ohid (HC1.out.later HB17)
  replace HC2:=ohid (HC2.out.later HB17)
  replace HC4:=ohid (HC4.out.later HB17)
  replace HC5:=ohid (HC5.out.later HB17)
  clear hb HD16 HB16 HB17 HDW HBxW HWe
  go_simp
  iterate 2 (refine sched_take rfl (by rfl) (v:=?_) ?_ ?_;rotate_left;(intro w' hw';have q3:=arr_eq w' 24 32 P1 P1 h1l h1l Tryz.underlying24;rw [decide_eq_true rfl] at q3;clear hw';go_simp;with_reducible rfl);go_simp)
  refine sched_done hKK ?_
  clear hKK
  clear HC3 HC6 hIH hlH hl1 hl2 HPe Hci HSS HH HKK
  go_wp2_with fail
  have hwu:=HUw.out
  have hwr:w.heap.size < r:=by omega
  have HF:Hid (FourC w u r D1 D2 0 0 U4):=⟨HC1.out,HC5.out,HC4.out,HC2.out,HW0.out⟩
  clear HC1 HC2 HC4 HC5 HW0 HUw
  go_loopw [32] (fun i wr => ∃ (k n m:Nat),k ≤ 20 ∧ n ≤ k ∧ m ≤ k ∧ i = .int .i64 k ∧ Hid (FourC w u r D1 D2 n m wr)) (fun i _ => 20 - (intOf i).toNat)
  case atStart => exact ⟨0,0,0,by omega,by omega,by omega,rfl,HF⟩
  case round =>
   clear HF
   obtain ⟨k,n,m,hk,hnk,hmk,rfl,HT⟩:=hrel
   by_cases hc:k < len4 ∧ k < 20
   ·obtain ⟨hc1,hc2⟩:=hc
    first
    |(exfalso;omega)
    |skip
     have i1:(k:Int) < (len4:Int):=by omega
     have i2:(k:Int) < 20:=by omega
     obtain ⟨b2,off2,e2,_,hrows⟩:=rows_at HR.out (by omega)
     have eb:b2 = b ∧ off2 = off:=by cases e2;exact ⟨rfl,rfl⟩
     rw [eb.1,eb.2] at hrows
     clear e2 eb
     obtain ⟨ai,li,ci,zs,hcell,hrow⟩:=hrows k hc1
     have hdn:=nrow_nil hrow
     obtain ⟨d,ln,hnE0,hn1,hn2,hnc,hncm,hBm⟩:=cut_row hrow 100
     have hnE:(if (100:Int) < (li:Int) then (100:Int) else (li:Int)) = (ln:Int):=hnE0
     have hdl:d.length = ln:=hBm.1
     obtain ⟨W,hWd⟩:∃ W,wr.drew = W:=⟨_,rfl⟩
     have HWd:=ohid hWd
     have hgr:Below wr.heap.size wr W:=by rw [← hWd];exact (Below.refl _ _).drew
     have HTW:Hid (FourC w u r D1 D2 n m W):=⟨HT.out.a.later hgr,HT.out.b.later hgr,HT.out.c.later hgr,HT.out.d.later hgr,HT.out.bel.trans (hgr.mono HT.out.bel.size)⟩
     have hcW:∀ w',Grows W w' → w'.cell? ⟨b,off + k,none⟩ = some (.slice ai li ci):=fun w' hw' => by
      have h2:=HTW.out.bel.size
      rw [World.cell?_of_block (hw'.block b (by omega)),World.cell?_of_block (HTW.out.bel.block b hbw)]
      exact hcell
     have HBm:Hid (Byt w ai ln d):=hBm
     have HBd:Hid (Byt W ai ln d):=hBm.later HTW.out.bel
     have e1:(ln:Int) ≤ (ci:Int):=by omega
     have hcm':ci ≤ 9223372036854775807:=by unfold maxLen at hncm;exact hncm
     clear hnE0 hBm hrow hcell hrows hWd hgr HT
     go_wp2_with fail
     refine wp_region_sched' (G:=Grows) (by kernel_rfl) Grows.refl Grows.trans (by kernel_rfl) [(0,true),(1,true),(2,true),(3,true),(4,true),(5,true),(6,true),(7,true),(8,true),(9,true),(10,true),(11,true)] rfl (by kernel_rfl) ?_
     intro KK hKK
     rw [HWd.out]
     iterate 12 (refine sched_take rfl (by rfl) (v:=?_) ?_ ?_;rotate_left;(intro w' hw';have q1:=hcW w' hw';clear hw';go_simp;with_reducible rfl);go_simp)
     refine sched_done hKK ?_
     clear hKK hcW HWd e1 hcm'
     rcases Nat.mod_two_eq_zero_or_one k with hr | hr
     ·have hrI:(k:Int).tmod 2 = 0:=by rw [Int.tmod_eq_emod_of_nonneg (by omega)];omega
      clear hr
      have hln:n ≠ lastN:=by unfold lastN;omega
      have hse:sErr true n = 0:=by simp [sErr,hln]
      have hsn:sNum true n = n + 1:=by simp [sNum,hln]
      obtain ⟨o1,o2,o3⟩:=oOut_sOut D1 true n [] d hln
      rw [hsn] at o3
      have hXl:=sOut_le D1 true n [] d
      obtain ⟨X,hX⟩:∃ X,sOut D1 true n [] d = X:=⟨_,rfl⟩
      rw [hX] at o1 o2 o3 hXl
      obtain ⟨lx,hlx⟩:∃ lx,X.length = lx:=⟨_,rfl⟩
      rw [hlx,hdl] at hXl
      have HO:=ohid (And.intro o1 (And.intro o2 o3))
      have HS:=ohid (And.intro hse (And.intro hsn (And.intro hX hlx)))
      clear hse hsn o1 o2 o3 hX hlx hln
      go_wp2_with fail
      refine (cseal_any u D1 true n none 0 0 [] ai ln ci d W HTW.out.a (by omega) ⟨rfl,.inl rfl⟩ (fun _ => rfl) (by omega) (by omega) (by unfold maxLen;omega) HBd.out hdn (by omega) (by omega) hncm).mono ?_
      rintro e w5 ⟨v5,rfl,hG5,hC5,own5⟩
      rw [HS.out.2.2.1,HS.out.2.2.2] at own5
      rw [HS.out.2.1] at hC5
      rw [HS.out.1]
      obtain ⟨a5,c5,rfl,hB5,hc5,hm5,hn5⟩:=own_parts own5
      have HB5:=ohid hB5
      have Hn5:=ohid hn5
      have HC5:=ohid hC5
      have HD5:=ohid (HTW.out.b.but hG5 (by omega))
      have HE5:=ohid (HTW.out.c.but hG5 (by omega))
      have HF5:=ohid (HTW.out.d.but hG5 (by omega))
      have HW5:=ohid (below_but HTW.out.bel hG5 (by omega))
      clear hG5 hC5 own5 hB5 hn5 HTW HS HBd
      go_wp2_with fail
      refine (copen_any (r + 1) D1 true n none 0 0 [] a5 lx c5 X w5 HD5.out (by omega) ⟨rfl,.inl rfl⟩ (fun _ => rfl) (by omega) (by omega) (by unfold maxLen;omega) HB5.out Hn5.out (by omega) hc5 hm5).mono ?_
      rintro e w8 ⟨a8,c8,rfl,hG8,hC8,hB8,_,_⟩
      rw [HO.out.1,hdl] at hB8 ⊢
      rw [HO.out.2.1]
      rw [HO.out.2.2] at hC8
      have HT8:Hid (FourC w u r D1 D2 (n + 1) m w8):=⟨HC5.out.but hG8 (by omega),hC8,HE5.out.but hG8 (by omega),HF5.out.but hG8 (by omega),below_but HW5.out hG8 (by omega)⟩
      have q3:=conv_bytes w8 a8 ln c8 d hB8
      have q4:=conv_bytes w8 ai ln ci d (HBm.out.later HT8.out.bel)
      have q5:=S_beq d d
      clear hG8 hC8 hB8 HC5 HD5 HE5 HF5 HW5 HB5 Hn5 HO
      go_wp2
      exact ⟨⟨k + 1,(n + 1),m,by omega,by omega,by omega,by go_num,HT8⟩,by simp [intOf];omega⟩
     ·have hrI:(k:Int).tmod 2 = 1:=by rw [Int.tmod_eq_emod_of_nonneg (by omega)];omega
      clear hr
      have hln:m ≠ lastN:=by unfold lastN;omega
      have hse:sErr true m = 0:=by simp [sErr,hln]
      have hsn:sNum true m = m + 1:=by simp [sNum,hln]
      obtain ⟨o1,o2,o3⟩:=oOut_sOut D2 true m [] d hln
      rw [hsn] at o3
      have hXl:=sOut_le D2 true m [] d
      obtain ⟨X,hX⟩:∃ X,sOut D2 true m [] d = X:=⟨_,rfl⟩
      rw [hX] at o1 o2 o3 hXl
      obtain ⟨lx,hlx⟩:∃ lx,X.length = lx:=⟨_,rfl⟩
      rw [hlx,hdl] at hXl
      have HO:=ohid (And.intro o1 (And.intro o2 o3))
      have HS:=ohid (And.intro hse (And.intro hsn (And.intro hX hlx)))
      clear hse hsn o1 o2 o3 hX hlx hln
      go_wp2_with fail
      refine (cseal_any r D2 true m none 0 0 [] ai ln ci d W HTW.out.c (by omega) ⟨rfl,.inl rfl⟩ (fun _ => rfl) (by omega) (by omega) (by unfold maxLen;omega) HBd.out hdn (by omega) (by omega) hncm).mono ?_
      rintro e w5 ⟨v5,rfl,hG5,hC5,own5⟩
      rw [HS.out.2.2.1,HS.out.2.2.2] at own5
      rw [HS.out.2.1] at hC5
      rw [HS.out.1]
      obtain ⟨a5,c5,rfl,hB5,hc5,hm5,hn5⟩:=own_parts own5
      have HB5:=ohid hB5
      have Hn5:=ohid hn5
      have HC5:=ohid hC5
      have HD5:=ohid (HTW.out.d.but hG5 (by omega))
      have HE5:=ohid (HTW.out.a.but hG5 (by omega))
      have HF5:=ohid (HTW.out.b.but hG5 (by omega))
      have HW5:=ohid (below_but HTW.out.bel hG5 (by omega))
      clear hG5 hC5 own5 hB5 hn5 HTW HS HBd
      go_wp2_with fail
      refine (copen_any (u + 1) D2 true m none 0 0 [] a5 lx c5 X w5 HD5.out (by omega) ⟨rfl,.inl rfl⟩ (fun _ => rfl) (by omega) (by omega) (by unfold maxLen;omega) HB5.out Hn5.out (by omega) hc5 hm5).mono ?_
      rintro e w8 ⟨a8,c8,rfl,hG8,hC8,hB8,_,_⟩
      rw [HO.out.1,hdl] at hB8 ⊢
      rw [HO.out.2.1]
      rw [HO.out.2.2] at hC8
      have HT8:Hid (FourC w u r D1 D2 n (m + 1) w8):=⟨HE5.out.but hG8 (by omega),HF5.out.but hG8 (by omega),HC5.out.but hG8 (by omega),hC8,below_but HW5.out hG8 (by omega)⟩
      have q3:=conv_bytes w8 a8 ln c8 d hB8
      have q4:=conv_bytes w8 ai ln ci d (HBm.out.later HT8.out.bel)
      have q5:=S_beq d d
      clear hG8 hC8 hB8 HC5 HD5 HE5 HF5 HW5 HB5 Hn5 HO
      go_wp2
      exact ⟨⟨k + 1,n,(m + 1),by omega,by omega,by omega,by go_num,HT8⟩,by simp [intOf];omega⟩
   ·by_cases hc1:k < len4
    ·have i1:(k:Int) < (len4:Int):=by omega
     have i2:¬ (k:Int) < 20:=by omega
     clear hc
     go_wp2_with fail
     go_ret
     exact ⟨rfl,HT.out.bel⟩
    ·have i1:¬ (k:Int) < (len4:Int):=by omega
     clear hc
     go_wp2_with fail
     go_ret
     exact ⟨rfl,HT.out.bel⟩
end Go.Proofs.YthmkhdnnljdglaaGreatDoor.noiseAgrees
