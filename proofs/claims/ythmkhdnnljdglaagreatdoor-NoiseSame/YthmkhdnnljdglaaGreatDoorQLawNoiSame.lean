import Derived.Test.YthmkhdnnljdglaaGreatDoorQbp
import Derived.Test.YthmkhdnnljdglaaGreatDoorQaj
namespace Go.Proofs.YthmkhdnnljdglaaGreatDoor.noiseSame
open Go.ChangeShapes Go.WideShapes Go.ChangeAt Go.RowKit
set_option linter.unusedVariables false
set_option maxRecDepth 100000
set_option maxHeartbeats 16000000 in
theorem walk (a0:Option Addr) (len0 cap0:Nat) (z0:List Int) (l1 l2 l3:List UInt8) (a4:Option Addr) (len4 cap4:Nat) (z4:List Int) (w:World) (w0:IsRow .u8 w a0 len0 cap0 z0) (w1:l1.length = 32) (w2:l2.length = 32) (w3:l3.length = 32) (w4:IsRow .u8 w a4 len4 cap4 z4) (htabs:Tab w ∧ FTab w) :
  Calls Tryz.prog 7 #[.slice a0 len0 cap0,.agg (l1.map bv).toArray,.agg (l2.map bv).toArray,.agg (l3.map bv).toArray,.slice a4 len4 cap4] w fun e w' => e = .returned (.bool true) ∧ Below w.heap.size w w':=by
 have hnil0:=nrow_nil w0
 have hnil4:=nrow_nil w4
 obtain ⟨P,np,hnE0,hn10,hn20,hnc0,hncm0,hB0⟩:=cut_row w0 50
 obtain ⟨T,nt,hnE4,hn14,hn24,hnc4,hncm4,hB4⟩:=cut_row w4 100
 have hnEp:(if (50:Int) < (len0:Int) then (50:Int) else (len0:Int)) = (np:Int):=hnE0
 have hnEt:(if (100:Int) < (len4:Int) then (100:Int) else (len4:Int)) = (nt:Int):=hnE4
 have HP:=ohid hB0
 have HTx:=ohid hB4
 have hTl:=hB4.1
 have HT:Hid (TT w):=htabs
 have hI:Hid (∀ l:List UInt8,l.length = 32 → (Tryz.prog.info? 24).map (·.size) = some (l.map bv).toArray.size):=fun l hl => keyIA hl
 have HV0:Hid (Vw w (((w.alloc (.cells (l1.map bv).toArray 24)).alloc (.cells (l2.map bv).toArray 24)).alloc (.cells (l3.map bv).toArray 24)) [(w.heap.size,24,l1.map bv),(w.heap.size + 1,24,l2.map bv),(w.heap.size + 1 + 1,24,l3.map bv)]):=by
  have h:=(((Vw.none w).alloc 24 (l1.map bv)).alloc 24 (l2.map bv)).alloc 24 (l3.map bv)
  simp only [World.size_alloc] at h
  exact h
 clear hnE0 hnE4 hB0 hB4 w0 w4 htabs
 go_enter Tryz.func7,Tryz.ntmps7
 go_wp2_with fail
 obtain ⟨V0,hV0⟩:∃ V,((w.alloc (.cells (l1.map bv).toArray 24)).alloc (.cells (l2.map bv).toArray 24)).alloc (.cells (l3.map bv).toArray 24) = V:=⟨_,rfl⟩
 rw [hV0] at HV0
 rw [hV0]
 clear hV0
 refine (noiShown_any V0 (HT.out.later HV0.out.bel)).mono ?_
 rintro e V1 ⟨rfl,hb⟩
 have HV1:=ohid (HV0.out.later hb)
 clear hb HV0
 have KL2:Hid (V1.heap[w.heap.size + 1]? = some (.cells (l2.map bv).toArray 24 (0,0))):=HV1.out.cell (w.heap.size + 1,24,l2.map bv) (by simp)
 go_wp2_with (first | refine wpList_load_row rfl 24 (.tmp 7) rfl (w.heap.size + 1) rfl 24 (l2.map bv).toArray (0,0) _ KL2.out Tryz.underlying24 rfl (hI.out l2 w2) ?_ | fail)
 clear KL2
 refine (public_any l2 V1 w2 (HT.out.later HV1.out.bel).2).mono ?_
 rintro e V2 ⟨rfl,hb⟩
 have hRl:=pubB_length l2
 obtain ⟨R,hR⟩:∃ R,pubB l2 = R:=⟨_,rfl⟩
 have hR':leB 32 (mX (clampK (leN l2)) 9) = R:=hR
 rw [hR] at hRl
 rw [hR']
 have HR:=ohid hR
 have hst:=run_store_arr V2 24 R 32 hRl (by kernel_rfl) zero32C (by kernel_rfl)
 simp only [zero32C,List.replicate] at hst
 have hV:=(HV1.out.later hb).alloc 24 (R.map bv)
 obtain ⟨p,hp⟩:∃ p,V2.heap.size = p:=⟨_,rfl⟩
 obtain ⟨X,hX⟩:∃ X,V2.alloc (.cells (R.map bv).toArray 24) = X:=⟨_,rfl⟩
 rw [hX,hp] at hst hV
 have HX:=ohid hV
 have K1:Hid (X.heap[w.heap.size]? = some (.cells (l1.map bv).toArray 24 (0,0))):=hV.cell (w.heap.size,24,l1.map bv) (by simp)
 have K3:Hid (X.heap[w.heap.size + 1 + 1]? = some (.cells (l3.map bv).toArray 24 (0,0))):=hV.cell (w.heap.size + 1 + 1,24,l3.map bv) (by simp)
 have K4:Hid (X.heap[p]? = some (.cells (R.map bv).toArray 24 (0,0))):=hV.cell (p,24,R.map bv) (by simp)
 clear hb hV hX hR hR' HV1
 go_wp2_with (first | refine wpList_load_row rfl 24 (.tmp 6) rfl w.heap.size rfl 24 (l1.map bv).toArray (0,0) _ K1.out Tryz.underlying24 rfl (hI.out l1 w1) ?_ | refine wpList_load_row rfl 24 (.tmp 12) rfl p rfl 24 (R.map bv).toArray (0,0) _ K4.out Tryz.underlying24 rfl (hI.out R hRl) ?_ | refine wpList_load_row rfl 24 (.tmp 8) rfl (w.heap.size + 1 + 1) rfl 24 (l3.map bv).toArray (0,0) _ K3.out Tryz.underlying24 rfl (hI.out l3 w3) ?_ | fail)
 clear hst hp
 refine (nStart_any a0 np cap0 P l1 R l3 X w1 w3 hRl (HP.out.later HX.out.bel) hnil0 (by omega) (Nat.le_trans hn20 hnc0) hncm0 (HT.out.later HX.out.bel)).mono ?_
 rintro e V5 ⟨ga,rfl,hga,hb,hA⟩
 have HV5:=ohid (HX.out.later hb)
 have HA:=ohid hA
 have HGA:Hid (w.heap.size + 1 + 1 < ga):=by
  have h1:w.heap.size + 1 + 1 < X.heap.size:=(Array.getElem?_eq_some_iff.1 K3.out).1
  exact Nat.lt_of_lt_of_le h1 hga
 clear hb hA hga HX K1 K3 K4
 obtain ⟨W,hW⟩:∃ W,V5.drew = W:=⟨_,rfl⟩
 have hgr:Below V5.heap.size V5 W:=by rw [← hW];exact (Below.refl _ _).drew
 have HVW:=ohid (HV5.out.later hgr)
 have HAW:=ohid (HA.out.later hgr)
 have HWe:=ohid hW
 have hPl:=HP.out.1
 have K1:Hid (∀ w',Below W.heap.size W w' → w'.heap[w.heap.size]? = some (.cells (l1.map bv).toArray 24 (0,0))):=fun w' hw' => (HVW.out.later hw').cell (w.heap.size,24,l1.map bv) (by simp)
 have K3:Hid (∀ w',Below W.heap.size W w' → w'.heap[w.heap.size + 1 + 1]? = some (.cells (l3.map bv).toArray 24 (0,0))):=fun w' hw' => (HVW.out.later hw').cell (w.heap.size + 1 + 1,24,l3.map bv) (by simp)
 have K4:Hid (∀ w',Below W.heap.size W w' → w'.heap[p]? = some (.cells (R.map bv).toArray 24 (0,0))):=fun w' hw' => (HVW.out.later hw').cell (p,24,R.map bv) (by simp)
 obtain ⟨v6,U,hap,own6,hbU,hbA,hbB⟩:=append_copy W a0 np cap0 P (HP.out.later HVW.out.bel) hnil0 (by omega)
 have hmk:Below W.heap.size W (W.alloc (.cells #[] 5)):=hbA
 obtain ⟨W1,hW1⟩:∃ W1,W.alloc (.cells #[] 5) = W1:=⟨_,rfl⟩
 rw [hW1] at hap hbA hbB
 have HAP:=ohid hap
 have HBU:=ohid hbU
 have HB1:=ohid hbA
 have HB2:=ohid hbB
 have HO6:=ohid own6
 have HW1:=ohid hW1
 clear hW hgr hap own6 hbU hbA hbB hmk hW1 HV5 HA
 go_wp2_with fail
 refine wp_region_sched' (G:=Below W.heap.size) (by kernel_rfl) (Below.refl _) (fun _ _ _ => Below.trans) (by kernel_rfl) [(1,true),(3,true),(4,true),(5,true),(0,false),(2,false),(6,false),(7,true)] rfl (by kernel_rfl) ?_
 intro KK hKK
 rw [HWe.out]
 iterate 1 (refine sched_take rfl (by rfl) (v:=?_) ?_ ?_;rotate_left;(intro w' hw';clear hw';go_simp;with_reducible rfl);go_simp)
 refine sched_take rfl (by rfl) (v:=.agg (l1.map bv).toArray) (fun w' hw' => exec_load_row 24 _ rfl w.heap.size rfl 24 _ (0,0) _ (K1.out w' hw') Tryz.underlying24 rfl (hI.out l1 w1)) ?_
 go_simp
 refine sched_take rfl (by rfl) (v:=.agg (R.map bv).toArray) (fun w' hw' => exec_load_row 24 _ rfl p rfl 24 _ (0,0) _ (K4.out w' hw') Tryz.underlying24 rfl (hI.out R hRl)) ?_
 go_simp
 refine sched_take rfl (by rfl) (v:=.agg (l3.map bv).toArray) (fun w' hw' => exec_load_row 24 _ rfl (w.heap.size + 1 + 1) rfl 24 _ (0,0) _ (K3.out w' hw') Tryz.underlying24 rfl (hI.out l3 w3)) ?_
 go_simp
 refine sched_val rfl (by rfl) (v:=.slice (some ⟨W.heap.size,0,none⟩) 0 0) (w':=W1) (by rw [← HW1.out];go_simp) HB1.out ?_
 go_simp
 refine sched_val rfl (by rfl) (v:=v6) (w':=U) (exec_append_run (.tmp 38) (.tmp 39) 22 rfl _ _ v6 U rfl rfl HAP.out) HB2.out ?_
 obtain ⟨a6,c6,rfl,hB6,hc6,hm6,hn6,hw6,hs6,hl6⟩:=own_arg HO6.out
 have HB6:=ohid hB6
 have HN6:=ohid hn6
 clear hB6 hn6 hw6 hs6 hl6
 go_simp
 refine sched_call (f:=10) (args:=#[.slice a6 np c6,.agg (l1.map bv).toArray,.agg (R.map bv).toArray,.agg (l3.map bv).toArray]) rfl (by rfl) (by go_simp) ?_
 have hBW:=HVW.out.bel.trans (HBU.out.mono HVW.out.bel.size)
 refine (nStart_any a6 np c6 P l1 R l3 U w1 w3 hRl HB6.out HN6.out (by omega) hc6 hm6 (HT.out.later hBW)).mono ?_
 rintro e V6 ⟨gb,rfl,hgb,hb6,hBd⟩
 refine ⟨_,rfl,hb6.mono HBU.out.size,?_⟩
 have hgaW:=HAW.out.lt
 have hgbV:=hBd.lt
 have hb7:=hBW.trans (hb6.mono hBW.size)
 have hUs:=HBU.out.size
 have hVs:=hb6.size
 have HV6:=ohid (HVW.out.later (HBU.out.trans (hb6.mono HBU.out.size)))
 have HTx6:=ohid (HTx.out.later hb7)
 have HD:Hid (Du w V6 V6.heap.size ga gb (NS.begin_ noiseName P l1 R l3) (NS.begin_ noiseName P l1 R l3)):=⟨hb7,by have:=HGA.out;omega,by omega,by have:=hBW.size;omega,hgbV,by omega,Nat.le_refl _,(HAW.out.later HBU.out).later hb6,hBd,HT.out⟩
 obtain ⟨s,hs⟩:∃ s,V6.heap.size = s:=⟨_,rfl⟩
 rw [hs] at HD
 have hTw0:0 < nt → ∀ y o f,a4 = some ⟨y,o,f⟩ → y < w.heap.size:=fun h0 y o f e => by
  have h1:=HTx.out
  obtain ⟨b',o',e',_⟩:=h1.at_ 0 h0
  rw [e'] at e h1
  cases e
  exact h1.lt h0
 have HTw:=ohid hTw0
 have HK3:Hid (V6.heap[w.heap.size + 1 + 1]? = some (.cells (l3.map bv).toArray 24 (0,0))):=HV6.out.cell (w.heap.size + 1 + 1,24,l3.map bv) (by simp)
 have HGB:Hid (w.heap.size + 1 + 1 < gb):=by have:=HGA.out;show _ < _;omega
 have HS6:Hid (s ≤ V6.heap.size):=Nat.le_of_eq hs.symm
 have hfe:NS.firstErr (NS.begin_ noiseName P l1 R l3) = 0:=by rw [← HR.out];exact NS.first_ok noiseName P l1 l2 l3
 have HFe:=ohid hfe
 obtain ⟨F,hF⟩:∃ F,NS.firstOut (NS.begin_ noiseName P l1 R l3) T = F:=⟨_,rfl⟩
 have hFl:F.length = 96 + nt:=by
  rw [← hF,← HR.out,← hTl]
  exact (NS.hear_first noiseName P l1 l2 l3 l3 T).2.2.2
 have hF32:F.take 32 = pubB l3:=by
  rw [← hF]
  unfold NS.firstOut
  rw [List.append_assoc,List.take_left' (pubB_length _)]
  rfl
 have HF:=ohid hF
 have HF32:=ohid hF32
 obtain ⟨fl,hfl⟩:∃ fl,96 + nt = fl:=⟨_,rfl⟩
 rw [hfl] at hFl
 have HWr:Hid (IntKind.i64.wrap ((96:Int) + (nt:Int)) = (fl:Int) ∧ 96 ≤ fl):=⟨by rw [IntKind.wrap_i64];omega,by omega⟩
 clear hgaW hgbV hb7 hUs hVs hb6 hBd hgb hBW HAW HVW HBU HWe HW1 HB1 HB2 HB6 HN6 HO6 HAP K1 K3 K4 hc6 hm6 hTw0 hs hfe hF hF32 HP hfl
 go_simp
 iterate 1 (refine sched_take rfl (by rfl) (v:=?_) ?_ ?_;rotate_left;(intro w' hw';clear hw';go_simp;with_reducible rfl);go_simp)
 refine sched_done hKK ?_
 clear hKK
 go_wp2_with fail
 refine (nFirst_any ga _ a4 nt cap4 T V6 HD.out.a HTx6.out hnil4 (by omega) (Nat.le_trans hn24 hnc4) hncm4 (fun h0 y o f e => Nat.lt_of_lt_of_le (HTw.out h0 y o f e) HD.out.bel.size) HD.out.tab HD.out.ka).mono ?_
 intro e V7 hE
 obtain ⟨v7,q7,rfl,D7,own7,hG7⟩:=HD.out.stepA hE
 rw [HFe.out] at own7
 rw [HFe.out]
 rw [if_pos rfl,HF.out] at own7
 have HD7:=ohid D7
 have HO7:=ohid own7
 have HTx7:=ohid (HTx6.out.but_any hG7 (fun h0 b' o f e => by have:=HTw.out h0 b' o f e;have:=HGA.out;omega))
 have HK7:Hid (V7.heap[w.heap.size + 1 + 1]? = some (.cells (l3.map bv).toArray 24 (0,0))):=by
  show _ = _
  rw [hG7.block _ (Array.getElem?_eq_some_iff.1 HK3.out).1 (fun e => by have:=HGA.out;cases e;omega)];exact HK3.out
 clear hE D7 own7 hG7 HD HTx6 HK3 HS6
 obtain ⟨a7,c7,rfl,hB7,hc7,hm7,hn7,hw7,hs7,hl7⟩:=own_arg HO7.out
 obtain rfl:q7 = fl:=by omega
 clear hB7 hn7 hw7 hs7 hl7
 go_wp2_with fail
 refine (nFirst_any gb _ a4 nt cap4 T V7 HD7.out.b HTx7.out hnil4 (by omega) (Nat.le_trans hn24 hnc4) hncm4 (fun h0 y o f e => Nat.lt_of_lt_of_le (HTw.out h0 y o f e) HD7.out.bel.size) HD7.out.tab HD7.out.kb).mono ?_
 intro e V8 hE
 obtain ⟨v8,q8,rfl,D8,own8,hG8⟩:=HD7.out.stepB hE
 rw [HFe.out] at own8
 rw [HFe.out]
 rw [if_pos rfl,HF.out] at own8
 have HD8:=ohid D8
 have HO8:=ohid own8
 replace HO7:=ohid (own_keep HO7.out hG8 HD7.out.b2)
 have HK8:Hid (V8.heap[w.heap.size + 1 + 1]? = some (.cells (l3.map bv).toArray 24 (0,0))):=by
  show _ = _
  rw [hG8.block _ (Array.getElem?_eq_some_iff.1 HK7.out).1 (fun e => by have:=HGB.out;cases e;omega)];exact HK7.out
 clear hE D8 own8 hG8 HD7 HTx7 HK7
 obtain ⟨a8,c8,rfl,hB8,hc8,hm8,hn8,hw8,hs8,hl8⟩:=own_arg HO8.out
 obtain rfl:q7 = q8:=by omega
 clear hB8 hn8 hw8 hs8 hl8
 go_wp2_with (first | refine wpList_load_row rfl 24 (.tmp 8) rfl (w.heap.size + 1 + 1) rfl 24 (l3.map bv).toArray (0,0) _ HK8.out Tryz.underlying24 rfl (hI.out l3 w3) ?_ | fail)
 refine (public_any l3 V8 w3 HD8.out.tab.2).mono ?_
 rintro e V9 ⟨rfl,hb9⟩
 have hEl:=pubB_length l3
 obtain ⟨E,hE⟩:∃ E,pubB l3 = E:=⟨_,rfl⟩
 have hE':leB 32 (mX (clampK (leN l3)) 9) = E:=hE
 rw [hE] at hEl HF32
 rw [hE']
 have hst:=run_store_arr V9 24 E 32 hEl (by kernel_rfl) zero32C (by kernel_rfl)
 simp only [zero32C,List.replicate] at hst
 have hA:=Arr.new V9 24 E
 have hb10:Below V9.heap.size V9 (V9.alloc (.cells (E.map bv).toArray 24)):=(Below.refl _ _).alloc (Nat.le_refl _) _
 obtain ⟨g9,hg9⟩:∃ g,V9.heap.size = g:=⟨_,rfl⟩
 obtain ⟨Y,hY⟩:∃ Y,V9.alloc (.cells (E.map bv).toArray 24) = Y:=⟨_,rfl⟩
 rw [hY] at hst hA hb10
 have HD9:=ohid ((HD8.out.later hb9).later hb10)
 replace HO7:=ohid (own_later (own_later HO7.out hb9) hb10)
 replace HO8:=ohid (own_later (own_later HO8.out hb9) hb10)
 rw [hg9] at hst hA
 obtain ⟨Z,hZ⟩:∃ Z,Y.drew = Z:=⟨_,rfl⟩
 have hgr:Below Y.heap.size Y Z:=by rw [← hZ];exact (Below.refl _ _).drew
 have HZe:=ohid hZ
 have HAZ:=ohid (hA.later hgr)
 have HDZ:=ohid (HD9.out.later hgr)
 obtain ⟨_,_,e7,hB7,_,_,_⟩:=own_parts (own_later HO7.out hgr)
 cases e7
 obtain ⟨_,_,e8,hB8,_,_,_⟩:=own_parts (own_later HO8.out hgr)
 cases e8
 have HQ:Hid ((convert 22 9 (.slice a7 q7 c7)).run Tryz.prog Z = .ok (.string (S F)) Z ∧ (convert 22 9 (.slice a8 q7 c8)).run Tryz.prog Z = .ok (.string (S F)) Z ∧
   (convert 22 9 (.slice a7 32 c7)).run Tryz.prog Z = .ok (.string (S E)) Z ∧ (convert 22 9 (.slice (some ⟨g9,0,none⟩) 32 32)).run Tryz.prog Z = .ok (.string (S E)) Z):=by
  refine ⟨conv_bytes Z a7 q7 c7 F hB7,conv_bytes Z a8 q7 c8 F hB8,?_,conv_bytes Z _ 32 32 E (HAZ.out.byt 32 hEl)⟩
  have:=conv_bytes Z a7 32 c7 (F.take 32) (hB7.cut (by have:=HWr.out.2;omega))
  rw [HF32.out] at this
  exact this
 clear hb9 hb10 hA hY hgr hE hE' HD8 HO7 HO8 HK8 hZ hB7 hB8
 have i1:(32:Int) ≤ (c7:Int):=by have:=HWr.out.2;omega
 have i2:32 ≤ c7:=by have:=HWr.out.2;omega
 have i4:(32:Int) ≤ (q7:Int):=by have:=HWr.out.2;omega
 have i3:32 ≤ q7:=by have:=HWr.out.2;omega
 go_wp2_with fail
 clear hst hg9
 refine wp_region_sched' (G:=Stays) (by kernel_rfl) Stays.refl Stays.trans (by kernel_rfl) [(0,true),(1,true),(2,true),(3,true),(4,true),(5,true),(6,true),(7,true),(8,true),(9,true),(10,true),(11,true),(12,true),(13,true),(14,true),(15,true),(16,true),(17,true),(18,true),(19,true),(20,true),(21,true),(22,true),(23,true),(24,true),(25,true),(26,true),(27,true),(28,true),(29,true),(30,true),(31,true),(32,true)] rfl (by kernel_rfl) ?_
 intro KK hKK
 rw [HZe.out]
 iterate 33 (refine sched_take rfl (by rfl) (v:=?_) ?_ ?_;rotate_left;(intro w' hw';obtain ⟨q1,q2,q3,q4⟩:=HQ.out;have q5:=HWr.out.1;unfold Stays at hw';subst hw';go_simp;with_reducible rfl);go_simp)
 refine sched_done hKK ?_
 clear hKK
 go_wp2_with fail
 go_ret
 exact ⟨rfl,HDZ.out.bel⟩
end Go.Proofs.YthmkhdnnljdglaaGreatDoor.noiseSame
