import Derived.Test.YthmkhdnnljdglaaGreatDoorQaw
import Derived.Test.YthmkhdnnljdglaaGreatDoorQbh
import Derived.Test.YthmkhdnnljdglaaGreatDoorQbg
namespace Go.Proofs.YthmkhdnnljdglaaGreatDoor
set_option linter.unusedVariables false
set_option maxRecDepth 100000
open Go.RowKit
theorem cseal_any (g:Nat) (key:List UInt8) (has:Bool) (n:Nat) (a:Option Addr) (la ca:Nat) (ad:List UInt8) (c:Option Addr) (lc cc:Nat) (b:List UInt8) (w:World) (hC:CiIs w g key has n) (hn:n ≤ 18446744073709551615)
  (hA:Byt w a la ad) (hAn:a = none → ca = 0) (hla:la ≤ 1000) (hca:la ≤ ca) (hcam:ca ≤ maxLen) (hB:Byt w c lc b) (hBn:c = none → cc = 0) (hlc:lc ≤ 1000) (hcc:lc ≤ cc) (hccm:cc ≤ maxLen) :
  Calls Tryz.prog 26 #[.pointer (some ⟨g,0,none⟩),.slice a la ca,.slice c lc cc] w fun e w' => ∃ v,e = .returned (.tuple #[v,.int .i64 ((sErr has n:Nat):Int)]) ∧ w.grownBy w' (some g) ∧ CiIs w' g key has (sNum has n) ∧ w'.ownsRow w.heap.size 5 1 v (sOut key has n ad b).length ((sOut key has n ad b).map bv):=
 (kseal_any g _ 0 [] [] key has n a la ca ad c lc cc b w (KC.ofCi hC) hn hA hAn hla hca hcam hB hBn hlc hcc hccm).mono fun e w' ⟨v,h1,h2,h3,h4⟩ => ⟨v,h1,h2,KC.toCi h3,h4⟩
theorem copen_any (g:Nat) (key:List UInt8) (has:Bool) (n:Nat) (a:Option Addr) (la ca:Nat) (ad:List UInt8) (c:Option Addr) (lc cc:Nat) (b:List UInt8) (w:World) (hC:CiIs w g key has n) (hn:n ≤ 18446744073709551615)
  (hA:Byt w a la ad) (hAn:a = none → ca = 0) (hla:la ≤ 1000) (hca:la ≤ ca) (hcam:ca ≤ maxLen) (hB:Byt w c lc b) (hBn:c = none → cc = 0) (hlc:lc ≤ 1100) (hcc:lc ≤ cc) (hccm:cc ≤ maxLen) :
  Calls Tryz.prog 27 #[.pointer (some ⟨g,0,none⟩),.slice a la ca,.slice c lc cc] w fun e w' => ∃ a' c',e = .returned (.tuple #[.slice a' (oOut key has n ad b).length c',.int .i64 ((oErr key has n ad b:Nat):Int)]) ∧ w.grownBy w' (some g) ∧ CiIs w' g key has (oNum key has n ad b) ∧ Byt w' a' (oOut key has n ad b).length (oOut key has n ad b) ∧ (∀ j,blockOf a' = some j → w.heap.size ≤ j) ∧
   (has = false → w'.ownsRow w.heap.size 5 1 (.slice a' (oOut key has n ad b).length c') (oOut key has n ad b).length ((oOut key has n ad b).map bv)):=
 (kopen_any g _ 0 [] [] key has n a la ca ad c lc cc b w (KC.ofCi hC) hn hA hAn hla hca hcam hB hBn hlc hcc hccm).mono fun e w' ⟨v,h1,h2,h3,h4⟩ => by
  obtain ⟨a',c',rfl,hB',_,_,_⟩:=own_parts h4
  exact ⟨a',c',h1,h2,KC.toCi h3,hB',own_new h4,fun _ => h4⟩
structure NsP (w W:World) (own once ans:List UInt8):Prop where
 a:W.heap[w.heap.size]? = some (.cells (own.map bv).toArray 24 (0,0))
 b:W.heap[w.heap.size + 1]? = some (.cells (once.map bv).toArray 24 (0,0))
 c:W.heap[w.heap.size + 1 + 1]? = some (.cells (ans.map bv).toArray 24 (0,0))
 d:W.heap[w.heap.size + 1 + 1 + 1]? = some (.cells sdZ.toArray 67 (0,0))
 bel:Below w.heap.size w W
 sz:w.heap.size + 4 ≤ W.heap.size
theorem NsP.new (w:World) (own once ans:List UInt8):NsP w ((((w.alloc (.cells (own.map bv).toArray 24)).alloc (.cells (once.map bv).toArray 24)).alloc (.cells (ans.map bv).toArray 24)).alloc (.cells sdZ.toArray 67)) own once ans:=by
 have h:=((((Vw.none w).alloc 24 (own.map bv)).alloc 24 (once.map bv)).alloc 24 (ans.map bv)).alloc 67 sdZ
 simp only [World.size_alloc] at h
 exact ⟨h.cell (w.heap.size,24,own.map bv) (by simp),h.cell (w.heap.size + 1,24,once.map bv) (by simp),h.cell (w.heap.size + 1 + 1,24,ans.map bv) (by simp),h.cell (w.heap.size + 1 + 1 + 1,67,sdZ) (by simp),h.bel,by simp⟩
theorem NsP.later {w W W':World} {own once ans:List UInt8} (x:NsP w W own once ans) (hb:Below W.heap.size W W'):NsP w W' own once ans:=
 ⟨row_later9 x.a hb,row_later9 x.b hb,row_later9 x.c hb,row_later9 x.d hb,x.bel.trans (hb.mono x.bel.size),Nat.le_trans x.sz hb.size⟩
theorem NsP.but {w W W':World} {own once ans:List UInt8} {g:Nat} (x:NsP w W own once ans) (hG:W.grownBy W' (some g)) (hg:w.heap.size + 4 ≤ g):NsP w W' own once ans:=by
 have hz:=x.sz
 refine ⟨?_,?_,?_,?_,below_but x.bel hG (by omega),Nat.le_trans x.sz hG.size⟩
 ·rw [hG.block _ (by omega) (fun e => by cases e;omega)];exact x.a
 ·rw [hG.block _ (by omega) (fun e => by cases e;omega)];exact x.b
 ·rw [hG.block _ (by omega) (fun e => by cases e;omega)];exact x.c
 ·rw [hG.block _ (by omega) (fun e => by cases e;omega)];exact x.d
set_option maxHeartbeats 8000000 in
theorem nnewSide_any (pa:Option Addr) (pl pc:Nat) (pro own once ans:List UInt8) (w:World) (ho:own.length = 32) (hn:once.length = 32) (ha:ans.length = 32) (hP:Byt w pa pl pro) (hPn:pa = none → pc = 0) (hpl:pl ≤ 1000) (hpc:pl ≤ pc) (hpm:pc ≤ maxLen) (hT:TT w) :
  Calls Tryz.prog 29 #[.slice pa pl pc,.agg (own.map bv).toArray,.agg (once.map bv).toArray,.agg (ans.map bv).toArray] w fun e w' => e = .returned (.agg (SV (((MS.start noiseName).hash pro).hash ans) own once zk zk).toArray) ∧ Below w.heap.size w w':=by
 have hI:Hid (∀ l:List UInt8,l.length = 32 → (Tryz.prog.info? 24).map (·.size) = some (l.map bv).toArray.size):=fun l hl => keyIA hl
 have HN0:Hid (NsP w ((((w.alloc (.cells (own.map bv).toArray 24)).alloc (.cells (once.map bv).toArray 24)).alloc (.cells (ans.map bv).toArray 24)).alloc (.cells sdZ.toArray 67)) own once ans):=NsP.new w own once ans
 have HT:=ohid hT
 have HP:=ohid hP
 have HNm:Hid ((nameB noiseName).length = 32):=nameB_length _
 clear hT hP
 go_enter Tryz.func29,Tryz.ntmps29
 refine wp_seq (wp_cut (fun a W => a = { tmps:=#[.slice pa pl pc,.agg (own.map bv).toArray,.agg (once.map bv).toArray,.agg (ans.map bv).toArray,undef,.pointer (some ⟨w.heap.size,0,none⟩),.pointer (some ⟨w.heap.size + 1,0,none⟩),.pointer (some ⟨w.heap.size + 1 + 1,0,none⟩),.pointer (some ⟨w.heap.size + 1 + 1 + 1,0,none⟩),undef,undef,undef,undef,undef,undef,undef,undef,undef,undef,undef,undef,undef,undef],defers:=[] } ∧ Hid (NsP w W own once ans)) ?_ ?_)
 ·go_wp2
  all_goals first | exact HN0 | exact ⟨rfl,HN0⟩ | exact ⟨rfl,rfl,HN0⟩
 ·rintro a W0 ⟨rfl,HV⟩
  clear HN0
  simp only [Exit.then]
  refine wp_seq (wp_cut (fun a W => ∃ g,∃ v:Nat → Value,a = { tmps:=#[.slice pa pl pc,.agg (own.map bv).toArray,.agg (once.map bv).toArray,.agg (ans.map bv).toArray,undef,.pointer (some ⟨w.heap.size,0,none⟩),.pointer (some ⟨w.heap.size + 1,0,none⟩),.pointer (some ⟨w.heap.size + 1 + 1,0,none⟩),.pointer (some ⟨w.heap.size + 1 + 1 + 1,0,none⟩),.pointer (some ⟨g,0,none⟩),v 0,v 1,v 2,v 3,v 4,v 5,undef,undef,undef,undef,undef,undef,undef],defers:=[] } ∧ Hid (w.heap.size + 4 ≤ g) ∧ Hid (NsP w W own once ans) ∧ Hid (SdT W g 67 [] (MS.start noiseName) own once zk zk)) ?_ ?_)
  ·refine wp_region_vals 7 (by decide) (by kernel_rfl) (by kernel_rfl) (by kernel_rfl) (by kernel_rfl)
    (fun j x W' => match j with
     | 0 => ∃ g,x = .pointer (some ⟨g,0,none⟩) ∧ MiIs W' g (nameB noiseName) (nameB noiseName) zk false 0
     | 1 => ∃ g,x = .pointer (some ⟨g,0,none⟩) ∧ MiIs W' g (nameB noiseName) (nameB noiseName) zk false 0
     | 2 => x = .agg (MiV (nameB noiseName) (nameB noiseName) zk false 0).toArray
     | 3 => x = .agg (own.map bv).toArray
     | 4 => x = .agg (once.map bv).toArray
     | 5 => x = .agg (SV ⟨nameB noiseName,nameB noiseName,zk,false,0⟩ own once zk zk).toArray
     | _ => ∃ g,x = .pointer (some ⟨g,0,none⟩) ∧ w.heap.size + 4 ≤ g ∧ W'.heap[g]? = some (.cells sdZ.toArray 67 (0,0))) ?_ ?_ ?_
   ·intro j x W W' h hb
    match j with
    | 0 => obtain ⟨g,h1,h2⟩:=h;exact ⟨g,h1,h2.later hb⟩
    | 1 => obtain ⟨g,h1,h2⟩:=h;exact ⟨g,h1,h2.later hb⟩
    | 2 | 3 | 4 | 5 => exact h
    | n + 6 => obtain ⟨g,h1,h2,h3⟩:=h;exact ⟨g,h1,h2,row_later9 h3 hb⟩
   ·intro d v W' i o A hi ho' hv hdep hA hb
    have HVd:=(HV.out.later ((Below.refl _ _).drew)).later hb
    have hcs:i = 0 ∨ i = 1 ∨ i = 2 ∨ i = 3 ∨ i = 4 ∨ i = 5 ∨ i = 6:=by omega
    rcases hcs with rfl | rfl | rfl | rfl | rfl | rfl | rfl
    ·cases ho'
     refine ⟨rfl,oper_call (f:=62) (args:=#[.string (S noiseName)]) (by go_simp;rfl) ((cnew_any noiseName W' (by decide) (HT.out.1.later HVd.bel)).mono ?_)⟩
     rintro e w2 ⟨g,rfl,_,hb2,hM2⟩
     exact ⟨_,rfl,_,rfl,⟨g,rfl,hM2⟩,hb2⟩
    ·cases ho'
     obtain ⟨g,h0,hM⟩:=hv 0 (by decide) (vdone hdep 0 (by kernel_rfl))
     replace h0:=slotv ((hA.got hdep 0 10 (by decide) (by kernel_rfl) rfl (of_decide_eq_true (by kernel_rfl))).trans h0)
     exact ⟨rfl,oper_val (v:=.pointer (some ⟨g,0,none⟩)) (w':=W') (by go_simp) ⟨_,rfl,⟨g,rfl,hM⟩,Below.refl _ _⟩⟩
    ·cases ho'
     obtain ⟨g,h0,hM⟩:=hv 1 (by decide) (vdone hdep 1 (by kernel_rfl))
     replace h0:=(hA.got hdep 1 11 (by decide) (by kernel_rfl) rfl (of_decide_eq_true (by kernel_rfl))).trans h0
     exact ⟨rfl,oper_val (v:=.agg (MiV (nameB noiseName) (nameB noiseName) zk false 0).toArray) (w':=W') (exec_load_row 65 _ rfl g h0 65 _ (0,0) _ hM.row Tryz.underlying65 rfl (mi_info HNm.out HNm.out rfl)) ⟨_,rfl,rfl,Below.refl _ _⟩⟩
    ·cases ho'
     have h0:A.eval (.tmp 5) = .pointer (some ⟨w.heap.size,0,none⟩):=(hA.keep 5 (by kernel_rfl)).trans rfl
     exact ⟨rfl,oper_val (v:=.agg (own.map bv).toArray) (w':=W') (exec_load_row 24 _ rfl w.heap.size h0 24 _ (0,0) _ HVd.a Tryz.underlying24 rfl (hI.out own ho)) ⟨_,rfl,rfl,Below.refl _ _⟩⟩
    ·cases ho'
     have h0:A.eval (.tmp 6) = .pointer (some ⟨w.heap.size + 1,0,none⟩):=(hA.keep 6 (by kernel_rfl)).trans rfl
     exact ⟨rfl,oper_val (v:=.agg (once.map bv).toArray) (w':=W') (exec_load_row 24 _ rfl (w.heap.size + 1) h0 24 _ (0,0) _ HVd.b Tryz.underlying24 rfl (hI.out once hn)) ⟨_,rfl,rfl,Below.refl _ _⟩⟩
    ·cases ho'
     have h2:=(hA.got hdep 2 12 (by decide) (by kernel_rfl) rfl (of_decide_eq_true (by kernel_rfl))).trans (hv 2 (by decide) (vdone hdep 2 (by kernel_rfl)))
     have h3:=(hA.got hdep 3 13 (by decide) (by kernel_rfl) rfl (of_decide_eq_true (by kernel_rfl))).trans (hv 3 (by decide) (vdone hdep 3 (by kernel_rfl)))
     have h4:=(hA.got hdep 4 14 (by decide) (by kernel_rfl) rfl (of_decide_eq_true (by kernel_rfl))).trans (hv 4 (by decide) (vdone hdep 4 (by kernel_rfl)))
     exact ⟨rfl,oper_val (v:=.agg (SV ⟨nameB noiseName,nameB noiseName,zk,false,0⟩ own once zk zk).toArray) (w':=W') (exec_sd3 _ _ _ _ _ own once HNm.out HNm.out rfl ho hn (.tmp 12) (.tmp 13) (.tmp 14) rfl h2 h3 h4) ⟨_,rfl,rfl,Below.refl _ _⟩⟩
    ·cases ho'
     have hb3:Below W'.heap.size W' (W'.alloc (.cells sdZ.toArray 67)):=(Below.refl _ _).alloc (Nat.le_refl _) _
     exact ⟨rfl,oper_val (v:=.pointer (some ⟨W'.heap.size,0,none⟩)) (w':=W'.alloc (.cells sdZ.toArray 67)) (by kernel_rfl) ⟨_,rfl,⟨_,rfl,HVd.sz,heap_alloc_new W' _⟩,hb3⟩⟩
   ·intro v W' hv hb
    obtain ⟨g,e6,hg,hz⟩:=hv 6 (by decide)
    have e5:=hv 5 (by decide)
    have HVd:=(HV.out.later ((Below.refl _ _).drew)).later hb
    have hl:(SV ⟨nameB noiseName,nameB noiseName,zk,false,0⟩ own once zk zk).length = 226:=by
     rw [SV,List.length_append,MiV_length _ _ _ _ _ HNm.out HNm.out rfl,SKy_length ⟨ho,hn,rfl,rfl⟩]
    have hst:=store_row W' g _ _ (SV ⟨nameB noiseName,nameB noiseName,zk,false,0⟩ own once zk zk) hz (by rw [hl];exact sdZ_length) (SV_one _ _ _ _ _)
    have hrow:=setRow_heap W' g _ (SV ⟨nameB noiseName,nameB noiseName,zk,false,0⟩ own once zk zk).toArray _ _ hz
    have hG:W'.grownBy (W'.setRow g (SV ⟨nameB noiseName,nameB noiseName,zk,false,0⟩ own once zk zk).toArray) (some g):=But.setRow W' g _
    obtain ⟨X,hX⟩:∃ X,W'.setRow g (SV ⟨nameB noiseName,nameB noiseName,zk,false,0⟩ own once zk zk).toArray = X:=⟨_,rfl⟩
    rw [hX] at hst hrow hG
    have HN2:=ohid (HVd.but hG hg)
    have HS2:Hid (SdT X g 67 [] (MS.start noiseName) own once zk zk):=SdT.of (by rw [List.append_nil];exact hrow) HNm.out HNm.out rfl ⟨ho,hn,rfl,rfl⟩
    obtain ⟨V,hV⟩:∃ V,SV ⟨nameB noiseName,nameB noiseName,zk,false,0⟩ own once zk zk = V:=⟨_,rfl⟩
    rw [hV] at hst e5 hl
    have HGg:=ohid hg
    clear hrow hG hX hV hz HVd hg
    refine vtail (a':={ tmps:=#[.slice pa pl pc,.agg (own.map bv).toArray,.agg (once.map bv).toArray,.agg (ans.map bv).toArray,undef,.pointer (some ⟨w.heap.size,0,none⟩),.pointer (some ⟨w.heap.size + 1,0,none⟩),.pointer (some ⟨w.heap.size + 1 + 1,0,none⟩),.pointer (some ⟨w.heap.size + 1 + 1 + 1,0,none⟩),v 6,v 0,v 1,v 2,v 3,v 4,v 5,undef,undef,undef,undef,undef,undef,undef],defers:=[] }) rfl (by kernel_rfl) ?_
    rw [e5,e6]
    go_wp2
    refine ⟨g,⟨rfl,(fun k => match k with | 5 => .agg V.toArray | k => v k),rfl,rfl,rfl,rfl,rfl,rfl⟩,?_⟩
    first | exact ⟨HGg,HN2,HS2⟩ | exact ⟨HGg,HS2⟩ | exact ⟨HN2,HS2⟩ | exact HS2
  ·rintro a W1 ⟨g,v,rfl,HGg,HN1,HS1⟩
   simp only [Exit.then]
   have HGo:Hid (Gok g):=HT.out.new (Nat.le_trans (by omega) HGg.out)
   clear HV
   go_wp2_with fail
   refine (kmixhash_any g 67 (SKy own once zk zk ++ []) _ _ _ _ _ pa pl pc pro W1 HS1.out.mi (HP.out.later HN1.out.bel) hPn (by omega) hpc hpm (HT.out.1.later HN1.out.bel) HGo.out.1).mono ?_
   rintro e w2 ⟨⟨v2,rfl⟩,hG2,hM2⟩
   have HS2:Hid (SdT w2 g 67 [] ((MS.start noiseName).hash pro) own once zk zk):=SdT.turned (m':=(MS.start noiseName).hash pro) HS1.out hM2
   have HN2:=ohid (HN1.out.but hG2 HGg.out)
   clear hG2 hM2 HS1 HN1
   go_wp2_with fail
   refine (kmixhash_any g 67 (SKy own once zk zk ++ []) _ _ _ _ _ (some ⟨w.heap.size + 1 + 1,0,none⟩) 32 32 ans w2 HS2.out.mi (byt_row 32 ha HN2.out.c) (fun e => by cases e) (by omega) (by omega) (by unfold maxLen;omega) (HT.out.1.later HN2.out.bel) HGo.out.1).mono ?_
   rintro e w3 ⟨⟨v3,rfl⟩,hG3,hM3⟩
   have hS3:SdT w3 g 67 [] (((MS.start noiseName).hash pro).hash ans) own once zk zk:=SdT.turned (m':=((MS.start noiseName).hash pro).hash ans) HS2.out hM3
   have hN3:=HN2.out.but hG3 HGg.out
   obtain ⟨V,hV⟩:∃ V,SV (((MS.start noiseName).hash pro).hash ans) own once zk zk = V:=⟨_,rfl⟩
   have hl:V.length = 226:=by rw [← hV];exact hS3.slen
   have h1:∀ v ∈ V,v.oneCell' = true:=by rw [← hV];exact SV_one _ _ _ _ _
   have hrow3:w3.heap[g]? = some (.cells V.toArray 67 (0,0)):=by rw [← hV];simpa using hS3.row
   have hI3:(Tryz.prog.info? 67).map (·.size) = some V.toArray.size:=by
    have:=sd_info hS3.slen
    rw [hV] at this
    simpa using this
   have hst:=store_row w3 (w.heap.size + 1 + 1 + 1) _ _ V hN3.d (by rw [hl];exact sdZ_length) h1
   have hrow:=setRow_heap w3 (w.heap.size + 1 + 1 + 1) _ V.toArray _ _ hN3.d
   have HBel:=ohid (below_setRow hN3.bel (show w.heap.size ≤ w.heap.size + 1 + 1 + 1 by omega) V.toArray)
   obtain ⟨X,hX⟩:∃ X,w3.setRow (w.heap.size + 1 + 1 + 1) V.toArray = X:=⟨_,rfl⟩
   rw [hX] at hst hrow HBel
   have HRow:=ohid hrow
   have HR3:=ohid hrow3
   have HI3:=ohid hI3
   have HVe:=ohid hV
   clear hG3 hM3 hS3 hN3 h1 hrow3 hI3 hrow hX HS2 HN2 hV
   go_wp2_with (first | refine wpList_load_row rfl 67 _ rfl g rfl 67 V.toArray (0,0) _ HR3.out Tryz.underlying67 rfl HI3.out ?_ | fail)
   (try simp only [Exit.inBlock,Exit.then])
   refine bodyPost_ret (results_cell_row rfl _ _ (w.heap.size + 1 + 1 + 1) 67 _ (0,0) _ rfl HRow.out Tryz.underlying67 rfl HI3.out) rfl ?_
   exact ⟨by rw [HVe.out],HBel.out⟩
theorem wpList_alloc_sd {ops:Array Oper} {rest:List Oper} {o:Oper} {a:Act} {w:World} {Q:Exit → Act → World → Prop} (hg:Region.wanted o (yielded ops a.tmps) = true) (ho:o.op = .alloc 67)
  (h:wpList Tryz.prog ops Q rest (a.put o.dst (.pointer (some ⟨w.heap.size,0,none⟩))) (w.alloc (.cells sdZ.toArray 67))):wpList Tryz.prog ops Q (o :: rest) a w:=by
 unfold wpList
 rw [if_pos hg]
 refine .inl ?_
 have hr:(execOp a.eval o).run Tryz.prog w = .ok (.value (.pointer (some ⟨w.heap.size,0,none⟩))) (w.alloc (.cells sdZ.toArray 67)):=by
  unfold execOp
  simp only [ho]
  kernel_rfl
 unfold Oper.wp
 rw [hr]
 exact h
def NS.code (x:NS):Nat:=if x.st = 9 then 0 else (if x.starts = true then 1 else 4) + x.st
structure HaS (w:World) (g:Nat) (x:NS) (seen:List UInt8):Prop where
 sd:SdT w g 71 [.int .i64 (x.code:Int)] x.M x.own x.once x.S seen
 st:x.st = 0 ∨ x.st = 1 ∨ x.st = 2 ∨ x.st = 9
 se:x.starts = false → x.st = 1 → seen = x.R
 n:x.M.n ≤ 100
def HaIs (w:World) (g:Nat) (x:NS):Prop:=∃ seen,HaS w g x seen
theorem HaIs.lt {w:World} {g:Nat} {x:NS} (h:HaIs w g x):g < w.heap.size:=by
 obtain ⟨s,h1⟩:=h
 exact h1.sd.lt
theorem HaIs.later {w w':World} {g:Nat} {x:NS} (h:HaIs w g x) (hb:Below w.heap.size w w'):HaIs w' g x:=by
 obtain ⟨s,h1,h2,h3,h4⟩:=h
 exact ⟨s,h1.later hb,h2,h3,h4⟩
theorem HaIs.but {w w':World} {g g':Nat} {x:NS} (h:HaIs w g x) (hG:w.grownBy w' (some g')) (hne:g ≠ g'):HaIs w' g x:=by
 obtain ⟨s,h1,h2,h3,h4⟩:=h
 exact ⟨s,h1.but hG hne,h2,h3,h4⟩
set_option maxHeartbeats 4000000 in
theorem nStart_any (pa:Option Addr) (pl pc:Nat) (pro own other once:List UInt8) (w:World) (ho:own.length = 32) (hn:once.length = 32) (ha:other.length = 32) (hP:Byt w pa pl pro) (hPn:pa = none → pc = 0) (hpl:pl ≤ 1000) (hpc:pl ≤ pc) (hpm:pc ≤ maxLen) (hT:TT w) :
  Calls Tryz.prog 10 #[.slice pa pl pc,.agg (own.map bv).toArray,.agg (other.map bv).toArray,.agg (once.map bv).toArray] w fun e w' => ∃ g,e = .returned (.pointer (some ⟨g,0,none⟩)) ∧ w.heap.size ≤ g ∧ Below w.heap.size w w' ∧ HaIs w' g (NS.begin_ noiseName pro own other once):=by
 have hI:Hid (∀ l:List UInt8,l.length = 32 → (Tryz.prog.info? 24).map (·.size) = some (l.map bv).toArray.size):=fun l hl => keyIA hl
 have HV0:Hid (Vw w (((w.alloc (.cells (own.map bv).toArray 24)).alloc (.cells (other.map bv).toArray 24)).alloc (.cells (once.map bv).toArray 24)) [(w.heap.size,24,own.map bv),(w.heap.size + 1,24,other.map bv),(w.heap.size + 1 + 1,24,once.map bv)]):=by
  have h:=(((Vw.none w).alloc 24 (own.map bv)).alloc 24 (other.map bv)).alloc 24 (once.map bv)
  simp only [World.size_alloc] at h
  exact h
 have HT:=ohid hT
 have HP:=ohid hP
 obtain ⟨m,hm⟩:∃ m,((MS.start noiseName).hash pro).hash other = m:=⟨_,rfl⟩
 have HM:Hid ((NS.begin_ noiseName pro own other once).M = m):=hm
 have hcl:Hid (m.C.length = 32 ∧ m.H.length = 32 ∧ m.K.length = 32 ∧ m.n = 0):=by rw [← hm];exact ⟨nameB_length noiseName,mixH_length _ _,rfl,rfl⟩
 have HMe:=ohid hm
 clear hT hP hm
 go_enter Tryz.func10,Tryz.ntmps10
 refine wp_seq (wp_cut (fun a W => a = { tmps:=#[.slice pa pl pc,.agg (own.map bv).toArray,.agg (other.map bv).toArray,.agg (once.map bv).toArray,undef,.pointer (some ⟨w.heap.size,0,none⟩),.pointer (some ⟨w.heap.size + 1,0,none⟩),.pointer (some ⟨w.heap.size + 1 + 1,0,none⟩),.pointer none,undef,undef,undef,undef,undef,undef,undef,undef,undef,undef,undef],defers:=[] } ∧ Hid (Vw w W [(w.heap.size,24,own.map bv),(w.heap.size + 1,24,other.map bv),(w.heap.size + 1 + 1,24,once.map bv)])) ?_ ?_)
 ·go_wp2
  all_goals first | exact HV0 | exact ⟨rfl,HV0⟩ | exact ⟨rfl,rfl,HV0⟩
 ·rintro a W0 ⟨rfl,HV⟩
  clear HV0
  simp only [Exit.then]
  go_wp2_with (first | (refine wpList_load_row rfl 24 (.tmp 5) rfl w.heap.size rfl 24 (own.map bv).toArray (0,0) _ ?_ Tryz.underlying24 rfl (hI.out own ho) ?_;exact HV.out.cell (w.heap.size,24,own.map bv) (by simp)) | (refine wpList_load_row rfl 24 (.tmp 7) rfl (w.heap.size + 1 + 1) rfl 24 (once.map bv).toArray (0,0) _ ?_ Tryz.underlying24 rfl (hI.out once hn) ?_;exact HV.out.cell (w.heap.size + 1 + 1,24,once.map bv) (by simp)) | (refine wpList_load_row rfl 24 (.tmp 6) rfl (w.heap.size + 1) rfl 24 (other.map bv).toArray (0,0) _ ?_ Tryz.underlying24 rfl (hI.out other ha) ?_;exact HV.out.cell (w.heap.size + 1,24,other.map bv) (by simp)) | fail)
  refine (nnewSide_any pa pl pc pro own once other W0 ho hn ha (HP.out.later HV.out.bel) hPn hpl hpc hpm (HT.out.later HV.out.bel)).mono ?_
  rintro e V ⟨rfl,hb⟩
  rw [HMe.out]
  have hvl:(SV m own once zk zk).length = 226:=by rw [SV,List.length_append,MiV_length _ _ _ _ _ hcl.out.1 hcl.out.2.1 hcl.out.2.2.1,SKy_length ⟨ho,hn,rfl,rfl⟩]
  have hone:=SV_one m own once zk zk
  obtain ⟨L,hL⟩:∃ L,SV m own once zk zk = L:=⟨_,rfl⟩
  rw [hL] at hvl hone ⊢
  have hst:=run_store_new V 67 L 226 hvl (by kernel_rfl) hone sdZ.toArray (by simpa using sdZ_length)
  have hVV:=(HV.out.later hb).alloc 67 L
  obtain ⟨p,hp⟩:∃ p,V.heap.size = p:=⟨_,rfl⟩
  obtain ⟨X,hX⟩:∃ X,V.alloc (.cells L.toArray 67) = X:=⟨_,rfl⟩
  rw [hX,hp] at hst hVV
  have HX:=ohid hVV
  have HSd:SdT X p 67 [] m own once zk zk:=SdT.of (by rw [List.append_nil,hL];exact hVV.cell (p,67,L) (by simp)) hcl.out.1 hcl.out.2.1 hcl.out.2.2.1 ⟨ho,hn,rfl,rfl⟩
  obtain ⟨Y,hst2,hSY,hGY⟩:=HSd.putOther other ha
  have hpl2:w.heap.size ≤ p:=by rw [← hp];exact (HV.out.later hb).bel.size
  have hBY:Below w.heap.size w Y:=below_but HX.out.bel hGY hpl2
  have hvl2:=hSY.slen
  have hrow2:Y.heap[p]? = some (.cells (SV m own once other zk).toArray 67 (0,0)):=by have:=hSY.row;rw [List.append_nil] at this;exact this
  have hIY:=sd_info hvl2
  obtain ⟨L2,hL2⟩:∃ L2,SV m own once other zk = L2:=⟨_,rfl⟩
  rw [hL2] at hvl2 hrow2 hIY
  have HRow:=ohid hrow2
  have HIY:Hid ((Tryz.prog.info? 67).map (·.size) = some L2.toArray.size):=by show _ = _;simpa using hIY
  have HBY:=ohid hBY
  have HL2:=ohid hL2
  clear hX hb hVV hone hL HSd hSY hGY hBY hrow2 hIY hL2 HV
  go_wp2_with (first | refine wpList_alloc_sd rfl rfl ?_ | (refine wpList_load_row rfl 24 (.tmp 6) rfl (w.heap.size + 1) rfl 24 (other.map bv).toArray (0,0) _ ?_ Tryz.underlying24 rfl (hI.out other ha) ?_;exact HX.out.cell (w.heap.size + 1,24,other.map bv) (by simp)) | refine wpList_load_row rfl 67 (.tmp 9) rfl p rfl 67 L2.toArray (0,0) _ HRow.out Tryz.underlying67 rfl HIY.out ?_ | refine wpList_hd L2 1 hvl2 rfl (.tmp 17) (.const (.int .i64 1)) rfl rfl rfl ?_ | fail)
  go_ret
  refine ⟨Y.heap.size,rfl,HBY.out.size,HBY.out.alloc HBY.out.size _,zk,?_,.inl rfl,(fun h => absurd (show true = false from h) (by decide)),?_⟩
  ·refine SdT.of ?_ ?_ ?_ ?_ ⟨ho,hn,ha,rfl⟩
   ·rw [HM.out]
    show (Y.alloc _).heap[Y.heap.size]? = some (.cells (SV m own once other zk ++ [Value.int .i64 1]).toArray _ (0,0))
    rw [HL2.out]
    exact heap_alloc_new Y _
   ·rw [HM.out];exact hcl.out.1
   ·rw [HM.out];exact hcl.out.2.1
   ·rw [HM.out];exact hcl.out.2.2.1
  ·rw [HM.out,hcl.out.2.2.2];omega
set_option maxHeartbeats 4000000 in
theorem nAnswer_any (pa:Option Addr) (pl pc:Nat) (pro own once:List UInt8) (w:World) (ho:own.length = 32) (hn:once.length = 32) (hP:Byt w pa pl pro) (hPn:pa = none → pc = 0) (hpl:pl ≤ 1000) (hpc:pl ≤ pc) (hpm:pc ≤ maxLen) (hT:TT w) :
  Calls Tryz.prog 11 #[.slice pa pl pc,.agg (own.map bv).toArray,.agg (once.map bv).toArray] w fun e w' => ∃ g,e = .returned (.pointer (some ⟨g,0,none⟩)) ∧ w.heap.size ≤ g ∧ Below w.heap.size w w' ∧ HaIs w' g (NS.answer noiseName pro own once):=by
 have hI:Hid (∀ l:List UInt8,l.length = 32 → (Tryz.prog.info? 24).map (·.size) = some (l.map bv).toArray.size):=fun l hl => keyIA hl
 have HV0:Hid (Vw w ((w.alloc (.cells (own.map bv).toArray 24)).alloc (.cells (once.map bv).toArray 24)) [(w.heap.size,24,own.map bv),(w.heap.size + 1,24,once.map bv)]):=by
  have h:=((Vw.none w).alloc 24 (own.map bv)).alloc 24 (once.map bv)
  simp only [World.size_alloc] at h
  exact h
 have HT:=ohid hT
 have HP:=ohid hP
 have hpu:=pubB_length own
 obtain ⟨R,hR⟩:∃ R,pubB own = R:=⟨_,rfl⟩
 have HR:Hid (leB 32 (mX (clampK (leN own)) 9) = R):=hR
 rw [hR] at hpu
 obtain ⟨m,hm⟩:∃ m,((MS.start noiseName).hash pro).hash R = m:=⟨_,rfl⟩
 have HM:Hid ((NS.answer noiseName pro own once).M = m):=by rw [← hm,← hR];exact rfl
 have hcl:Hid (m.C.length = 32 ∧ m.H.length = 32 ∧ m.K.length = 32 ∧ m.n = 0):=by rw [← hm];exact ⟨nameB_length noiseName,mixH_length _ _,rfl,rfl⟩
 have HMe:=ohid hm
 clear hT hP hm hR
 go_enter Tryz.func11,Tryz.ntmps11
 refine wp_seq (wp_cut (fun a W => a = { tmps:=#[.slice pa pl pc,.agg (own.map bv).toArray,.agg (once.map bv).toArray,undef,.pointer (some ⟨w.heap.size,0,none⟩),.pointer (some ⟨w.heap.size + 1,0,none⟩),.pointer none,undef,undef,undef,undef,undef,undef,undef,undef],defers:=[] } ∧ Hid (Vw w W [(w.heap.size,24,own.map bv),(w.heap.size + 1,24,once.map bv)])) ?_ ?_)
 ·go_wp2
  all_goals first | exact HV0 | exact ⟨rfl,HV0⟩ | exact ⟨rfl,rfl,HV0⟩
 ·rintro a W0 ⟨rfl,HV⟩
  clear HV0
  simp only [Exit.then]
  obtain ⟨W,hW⟩:∃ W,W0.drew = W:=⟨_,rfl⟩
  have HVW:=ohid (hW ▸ HV.out.drew)
  have HWe:=ohid hW
  clear hW HV
  go_wp2_with fail
  refine wp_region_sched' (G:=Grows) (by kernel_rfl) Grows.refl Grows.trans (by kernel_rfl) [(0,true),(1,true),(2,true),(3,true),(4,false),(5,false),(6,true),(7,false),(8,true)] rfl (by kernel_rfl) ?_
  intro KK hKK
  rw [HWe.out]
  refine sched_take rfl (by rfl) (v:=?_) ?_ ?_
  rotate_left
  ·intro w' hw';clear hw';go_simp;with_reducible rfl
  go_simp
  refine sched_take rfl (by rfl) (v:=.agg (own.map bv).toArray) (fun w' hw' => exec_load_row 24 _ rfl w.heap.size rfl 24 _ (0,0) _ ((HVW.out.later hw').cell (w.heap.size,24,own.map bv) (by simp)) Tryz.underlying24 rfl (hI.out own ho)) ?_
  go_simp
  refine sched_take rfl (by rfl) (v:=.agg (once.map bv).toArray) (fun w' hw' => exec_load_row 24 _ rfl (w.heap.size + 1) rfl 24 _ (0,0) _ ((HVW.out.later hw').cell (w.heap.size + 1,24,once.map bv) (by simp)) Tryz.underlying24 rfl (hI.out once hn)) ?_
  go_simp
  refine sched_take rfl (by rfl) (v:=.agg (own.map bv).toArray) (fun w' hw' => exec_load_row 24 _ rfl w.heap.size rfl 24 _ (0,0) _ ((HVW.out.later hw').cell (w.heap.size,24,own.map bv) (by simp)) Tryz.underlying24 rfl (hI.out own ho)) ?_
  go_simp
  refine sched_call (f:=9) (args:=#[.agg (own.map bv).toArray]) rfl (by rfl) (by go_simp) ?_
  refine (public_any own W ho (HT.out.2.later HVW.out.bel)).mono ?_
  rintro e V ⟨rfl,hb⟩
  refine ⟨_,rfl,hb,?_⟩
  rw [HR.out]
  have HVV:=ohid (HVW.out.later hb)
  clear hb
  go_simp
  refine sched_call (f:=29) (args:=#[.slice pa pl pc,.agg (own.map bv).toArray,.agg (once.map bv).toArray,.agg (R.map bv).toArray]) rfl (by rfl) (by go_simp) ?_
  refine (nnewSide_any pa pl pc pro own once R V ho hn hpu (HP.out.later HVV.out.bel) hPn hpl hpc hpm (HT.out.later HVV.out.bel)).mono ?_
  rintro e U ⟨rfl,hb⟩
  refine ⟨_,rfl,hb,?_⟩
  rw [HMe.out]
  have hvl:(SV m own once zk zk).length = 226:=by rw [SV,List.length_append,MiV_length _ _ _ _ _ hcl.out.1 hcl.out.2.1 hcl.out.2.2.1,SKy_length ⟨ho,hn,rfl,rfl⟩]
  obtain ⟨L,hL⟩:∃ L,SV m own once zk zk = L:=⟨_,rfl⟩
  rw [hL] at hvl ⊢
  have HU:=ohid (HVV.out.later hb)
  have HLe:=ohid hL
  clear hb hL
  go_simp
  refine sched_take rfl (by rfl) (v:=.agg (L ++ [Value.int .i64 4]).toArray) (fun w' hw' => exec_hd L 4 hvl (.tmp 12) (.const (.int .i64 4)) rfl rfl rfl) ?_
  go_simp
  have hb3:Below U.heap.size U (U.alloc (.cells (L ++ [Value.int .i64 4]).toArray 71)):=(Below.refl _ _).alloc (Nat.le_refl _) _
  obtain ⟨Z,hZ⟩:∃ Z,U.alloc (.cells (L ++ [Value.int .i64 4]).toArray 71) = Z:=⟨_,rfl⟩
  have hrowZ:Z.heap[U.heap.size]? = some (.cells (L ++ [Value.int .i64 4]).toArray 71 (0,0)):=by rw [← hZ];exact heap_alloc_new U _
  rw [hZ] at hb3
  have HB3:=ohid hb3
  have HRZ:=ohid hrowZ
  clear hb3 hrowZ
  refine sched_val rfl (by rfl) (v:=.pointer (some ⟨U.heap.size,0,none⟩)) (w':=Z) (by rw [← hZ];go_simp) HB3.out ?_
  clear hZ
  go_simp
  iterate 1 (refine sched_take rfl (by rfl) (v:=?_) ?_ ?_;rotate_left;(intro w' hw';clear hw';go_simp;with_reducible rfl);go_simp)
  refine sched_done hKK ?_
  clear hKK
  go_wp2_with fail
  go_ret
  refine ⟨U.heap.size,rfl,HU.out.bel.size,HU.out.bel.trans (HB3.out.mono HU.out.bel.size),zk,?_,.inl rfl,(fun _ h => absurd (show (0:Nat) = 1 from h) (by decide)),?_⟩
  ·refine SdT.of ?_ ?_ ?_ ?_ ⟨ho,hn,rfl,rfl⟩
   ·rw [HM.out]
    show Z.heap[U.heap.size]? = some (.cells (SV m own once zk zk ++ [Value.int .i64 4]).toArray _ (0,0))
    rw [HLe.out]
    exact HRZ.out
   ·rw [HM.out];exact hcl.out.1
   ·rw [HM.out];exact hcl.out.2.1
   ·rw [HM.out];exact hcl.out.2.2.1
  ·rw [HM.out,hcl.out.2.2.2];omega
set_option maxHeartbeats 4000000 in
theorem nOther_any (g:Nat) (x:NS) (w:World) (h:HaIs w g x) :
  Calls Tryz.prog 22 #[.pointer (some ⟨g,0,none⟩)] w fun e w' => e = .returned (.agg (x.S.map bv).toArray) ∧ Below w.heap.size w w' ∧ x.S.length = 32:=by
 obtain ⟨seen,hs⟩:=h
 have hlen:=hs.sd.k4.c
 obtain ⟨R,hR⟩:∃ R,x.S = R:=⟨_,rfl⟩
 have HS:=ohid hs.sd
 rw [hR] at HS hlen ⊢
 have hst:=run_store_arr w 24 R 32 hlen (by kernel_rfl) zero32C (by kernel_rfl)
 simp only [zero32C,List.replicate] at hst
 have HI:=ohid (keyI hlen)
 have HIA:=ohid (keyIA hlen)
 have hb2:Below w.heap.size w (w.alloc (.cells (R.map bv).toArray 24)):=(Below.refl _ _).alloc (Nat.le_refl _) _
 have hA:=Arr.new w 24 R
 obtain ⟨X,hX⟩:∃ X,w.alloc (.cells (R.map bv).toArray 24) = X:=⟨_,rfl⟩
 rw [hX] at hst hb2 hA
 have HB:=ohid hb2
 have HA:=ohid hA
 clear hX hb2 hA hs hR
 go_enter Tryz.func22,Tryz.ntmps22
 go_wp2_with (first | (refine wpList_load_part rfl 24 (.tmp 6) rfl g 162 rfl (R.map bv) _ ?_ Tryz.underlying24 rfl HI.out ?_;exact (HS.out.later ((Below.refl _ _).alloc (Nat.le_refl _) _)).otherC) | fail)
 (try simp only [Exit.inBlock,Exit.then])
 refine bodyPost_ret (results_cell_row rfl _ _ w.heap.size 24 _ (0,0) _ rfl HA.out Tryz.underlying24 rfl HIA.out) rfl ?_
 exact ⟨rfl,HB.out,hlen⟩
structure Cw (w:World) (gs pb:Nat) (c:Option Addr) (lc cc:Nat) (b:List UInt8):Prop where
 p:w.heap[pb]? = some (.cells #[.slice c lc cc] 22 (0,0))
 b:Byt w c lc b
 bn:c = none → cc = 0
 lcc:lc ≤ cc
 ccm:cc ≤ maxLen
 ne:pb ≠ gs
 cg:0 < lc → ∀ x o f,c = some ⟨x,o,f⟩ → x ≠ gs
 t:TT w
 k:Gok gs
 wl:gs < w.heap.size
structure Cl (w W:World) (gs pb:Nat) (c:Option Addr) (lc cc:Nat) (b:List UInt8) (m:MS) (own once other seen:List UInt8):Prop where
 cw:Cw w gs pb c lc cc b
 sd:Sd W gs m own once other seen
 g:w.grownBy W (some gs)
section
variable {w W W':World} {gs pb:Nat} {c:Option Addr} {lc cc:Nat} {b:List UInt8} {m m':MS} {own once other seen own' once' other' seen':List UInt8}
theorem Cl.step (x:Cl w W gs pb c lc cc b m own once other seen) (hG:W.grownBy W' (some gs)) (hS:Sd W' gs m' own' once' other' seen'):Cl w W' gs pb c lc cc b m' own' once' other' seen':=
 ⟨x.cw,hS,World.grownBy.trans x.g hG⟩
theorem Cl.later (x:Cl w W gs pb c lc cc b m own once other seen) (hb:Below W.heap.size W W'):Cl w W' gs pb c lc cc b m own once other seen:=
 x.step (But.below gs hb) (x.sd.later hb)
theorem Cl.row (x:Cl w W gs pb c lc cc b m own once other seen) {r:Option Nat} (hG:W.grownBy W' r) (hr:∀ g',r = some g' → w.heap.size ≤ g'):Cl w W' gs pb c lc cc b m own once other seen:=by
 have hl:=x.cw.wl
 have hs:=x.g.size
 refine ⟨x.cw,SdT.of ?_ x.sd.mi.c x.sd.mi.h x.sd.mi.k x.sd.k4,⟨hG.os.trans x.g.os,hG.tape.trans x.g.tape,hG.output.trans x.g.output,Nat.le_trans x.g.size hG.size,fun k hk hne => ?_⟩⟩
 ·rw [hG.block gs (by omega) (fun e => by have:=hr gs e.symm;omega)]
  exact x.sd.row
 ·rw [hG.block k (by omega) (fun e => by have:=hr k e.symm;omega)]
  exact x.g.block k hk hne
theorem Cl.byt (x:Cl w W gs pb c lc cc b m own once other seen):Byt W c lc b:=x.cw.b.but_any x.g x.cw.cg
theorem Cl.tab (x:Cl w W gs pb c lc cc b m own once other seen):TT W:=x.cw.t.but x.g x.cw.k
theorem Cl.cell (x:Cl w W gs pb c lc cc b m own once other seen):W.cell? ⟨pb,0,none⟩ = some (.slice c lc cc):=by
 have h:=x.g.block pb (Array.getElem?_eq_some_iff.1 x.cw.p).1 (fun e => x.cw.ne (by cases e;rfl))
 rw [cell_of_row W pb 0 _ _ (0,0) (h.trans x.cw.p)];rfl
theorem Cl.ownr (x:Cl w W gs pb c lc cc b m own once other seen) (hG:W.grownBy W' (some gs)) {v:Value} {n:Nat} {xs:List Value} (h:W.ownsRow w.heap.size 5 1 v n xs):W'.ownsRow w.heap.size 5 1 v n xs:=
 own_but h hG (fun b' hb' e => by
  have h1:=(own_base h b' hb').1
  have h2:=x.cw.wl
  cases e
  omega)
end
theorem drew_below {w W:World} (hb:Below w.drew.heap.size w.drew W):Below w.heap.size w W:=((Below.refl w.heap.size w).drew).trans hb
def Clo (w w':World) (gs:Nat) (e:Ending) (er:Nat) (m:MS) (own once other seen out:List UInt8):Prop:=
 (er = 0 ∧ ∃ v q,e = .returned v ∧ w.grownBy w' (some gs) ∧ Sd w' gs m own once other seen ∧ w'.ownsRow w.heap.size 5 1 v q (out.map bv)) ∨ (er ≠ 0 ∧ e = pan er ∧ w.grownBy w' (some gs))
theorem Clo.ok {w w':World} {gs er q:Nat} {v:Value} {m:MS} {own once other seen out:List UInt8} (h0:er = 0) (hG:w.grownBy w' (some gs)) (hS:Sd w' gs m own once other seen) (hO:w'.ownsRow w.heap.size 5 1 v q (out.map bv)):Clo w w' gs (.returned v) er m own once other seen out:=
 .inl ⟨h0,v,q,rfl,hG,hS,hO⟩
theorem Clo.no {w w':World} {gs er k:Nat} {m:MS} {own once other seen out:List UInt8} (h0:er = k) (hk:k ≠ 0) (hG:w.grownBy w' (some gs)):Clo w w' gs (pan k) er m own once other seen out:=
 .inr ⟨by rw [h0];exact hk,by rw [h0],hG⟩
def fE (x:NS):Nat:=if NS.ok x.once x.S ∧ NS.ok x.own x.S then 0 else 4
def sE (x:NS):Nat:=if NS.ok x.once x.R ∧ NS.ok x.once x.S then 0 else 4
def hE (x:NS) (b:List UInt8):Nat:=if b.length < 96 then 2 else if ¬ NS.ok x.own (NS.hR b) then 4 else if (NS.h1 x b).err (NS.hB b) ≠ 0 then (NS.h1 x b).err (NS.hB b) else if ¬ NS.ok x.own (NS.hS x b) then 4 else (NS.h2 x b).err (b.drop 80)
def dE (x:NS) (b:List UInt8):Nat:=if b.length < 48 then 2 else if ¬ (NS.ok x.once (NS.hR b) ∧ NS.ok x.own (NS.hR b)) then 4 else (NS.d1 x b).err (b.drop 32)
end Go.Proofs.YthmkhdnnljdglaaGreatDoor
