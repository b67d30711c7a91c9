import Derived.Test.YthmkhdnnljdglaaGreatDoorQbf
namespace Go.Proofs.YthmkhdnnljdglaaGreatDoor
set_option linter.unusedVariables false
set_option maxRecDepth 100000
open Go.RowKit
set_option maxHeartbeats 4000000 in
theorem ntellOnce_any (g:Nat) (m:MS) (own once other seen:List UInt8) (w:World) (hS:Sd w g m own once other seen) (hT:TT w) (hg:Gok g) :
  Calls Tryz.prog 35 #[.pointer (some ⟨g,0,none⟩)] w fun e w' => ∃ v,e = .returned v ∧ w.grownBy w' (some g) ∧ Sd w' g (m.hash (pubB once)) own once other seen ∧ w'.ownsRow w.heap.size 5 1 v 32 ((pubB once).map bv):=by
 have HI:Hid ((Tryz.prog.info? 24).map (·.size) = some (once.map bv).length):=keyI hS.k4.b
 have HS:=ohid hS
 have HT:=ohid hT
 have HG:=ohid hg
 have hgl:=hS.lt
 have hlen:=pubB_length once
 obtain ⟨R,hR0⟩:∃ R,pubB once = R:=⟨_,rfl⟩
 have hR:Hid (leB 32 (mX (clampK (leN once)) 9) = R):=hR0
 rw [hR0] at hlen ⊢
 clear hS hT hg hR0
 go_enter Tryz.func35,Tryz.ntmps35
 go_wp2_with (first | refine wpList_load_part rfl 24 _ rfl g 130 rfl (once.map bv) _ HS.out.onceC Tryz.underlying24 rfl HI.out ?_ | fail)
 refine (public_any once w HS.out.k4.b HT.out.2).mono ?_
 rintro e V ⟨rfl,hb⟩
 rw [hR.out]
 have hst:=run_store_arr V 24 R 32 hlen (by kernel_rfl) zero32C (by kernel_rfl)
 simp only [zero32C,List.replicate] at hst
 have hA:=Arr.new V 24 R
 have hb2:Below V.heap.size V (V.alloc (.cells (R.map bv).toArray 24)):=(Below.refl _ _).alloc (Nat.le_refl _) _
 obtain ⟨X,hX⟩:∃ X,V.alloc (.cells (R.map bv).toArray 24) = X:=⟨_,rfl⟩
 rw [hX] at hst hA hb2
 obtain ⟨p,hp⟩:∃ p,V.heap.size = p:=⟨_,rfl⟩
 have hpl:w.heap.size ≤ p:=by rw [← hp];exact hb.size
 have hbX:Below w.heap.size w X:=hb.trans (hb2.mono hb.size)
 rw [hp] at hst hA
 obtain ⟨Y,hY⟩:∃ Y,X.drew = Y:=⟨_,rfl⟩
 have hgr:Below X.heap.size X Y:=by rw [← hY];exact (Below.refl _ _).drew
 have HYe:=ohid hY
 have HA:=ohid (hA.later hgr)
 have HBY:=ohid (hbX.trans (hgr.mono hbX.size))
 clear hX hb hb2 hA hbX hgr hY hR
 go_wp2_with fail
 clear hst hp
 refine wp_region_sched' (G:=But g) (by kernel_rfl) (But.refl g) (But.trans g) (by kernel_rfl) [(0,true),(1,true),(2,true),(3,true),(4,false)] rfl (by kernel_rfl) ?_
 intro KK hKK
 rw [HYe.out]
 iterate 4 (refine sched_take rfl (by rfl) (v:=?_) ?_ ?_;rotate_left;(intro w' hw';clear hw';go_simp;with_reducible rfl);go_simp)
 refine sched_call (f:=63) (args:=#[.pointer (some ⟨g,0,none⟩),.slice (some ⟨p,0,none⟩) 32 32]) rfl (by rfl) (by go_simp) ?_
 have hSY:=HS.out.later HBY.out
 refine (kmixhash_any g 67 (SKy own once other seen ++ []) m.C m.H m.K m.has m.n (some ⟨p,0,none⟩) 32 32 R Y hSY.mi (HA.out.byt 32 hlen) (fun e => by cases e) (by omega) (by omega) (by unfold maxLen;omega) (HT.out.1.later HBY.out) HG.out.1).mono ?_
 rintro e w5 ⟨⟨v5,rfl⟩,hG5,hM5⟩
 refine ⟨_,rfl,hG5,?_⟩
 have HG5:Hid (w.grownBy w5 (some g)):=World.grownBy.trans (But.below g HBY.out) hG5
 have HM5:Hid (Sd w5 g (m.hash R) own once other seen):=SdT.turned (m':=m.hash R) hSY hM5
 have HB5:Hid (Byt w5 (some ⟨p,0,none⟩) 32 R):=byt_but (HA.out.byt 32 hlen) hG5 (fun b o f e => by cases e;omega)
 clear hG5 hM5 hSY HA HBY HYe
 go_simp
 refine sched_done hKK ?_
 clear hKK
 go_wp2_with fail
 refine (cclone_any (some ⟨p,0,none⟩) 32 32 R w5 HB5.out (fun e => by cases e) (by omega)).mono ?_
 rintro e w6 ⟨v6,rfl,hb6,own6⟩
 have HO6:=ohid (own_lower own6 HG5.out.size)
 have HG6:Hid (w.grownBy w6 (some g)):=World.grownBy.trans HG5.out (But.below g hb6)
 have HM6:=ohid (HM5.out.later hb6)
 clear own6 hb6
 go_wp2_with fail
 go_ret
 exact ⟨_,rfl,HG6.out,HM6.out,HO6.out⟩
set_option maxHeartbeats 4000000 in
theorem ntell_any (g:Nat) (m:MS) (own once other seen:List UInt8) (c:Option Addr) (lc cc:Nat) (b:List UInt8) (w:World) (hS:Sd w g m own once other seen) (hn:m.n ≤ 1000) (hB:Byt w c lc b) (hBn:c = none → cc = 0) (hlc:lc ≤ 800) (hcc:lc ≤ cc) (hccm:cc ≤ maxLen) (hT:TT w) (hg:Gok g) :
  Calls Tryz.prog 37 #[.pointer (some ⟨g,0,none⟩),.slice c lc cc] w fun e w' => ∃ v,e = .returned v ∧ w.grownBy w' (some g) ∧ Sd w' g (m.sealed b) own once other seen ∧ w'.ownsRow w.heap.size 5 1 v (m.out b).length ((m.out b).map bv):=by
 have HS:=ohid hS
 have HT:=ohid hT
 have HG:=ohid hg
 have HB:=ohid hB
 have hse:sErr m.has m.n = 0:=by
  rcases sErr_cases m.has m.n with h | ⟨_,h⟩
  ·exact h
  ·unfold lastN at h;omega
 clear hS hT hg hB
 go_enter Tryz.func37,Tryz.ntmps37
 go_wp2_with fail
 refine (ksealmixed_any g 67 (SKy own once other seen ++ []) m.C m.H m.K m.has m.n c lc cc b w HS.out.mi (by omega) HB.out hBn (by omega) hcc hccm HT.out.1 HG.out.1).mono ?_
 rintro e w1 ⟨v1,rfl,hG1,hM1,own1⟩
 rw [hse]
 have HM1:Hid (Sd w1 g (m.sealed b) own once other seen):=SdT.turned (m':=m.sealed b) HS.out hM1
 have HG1:=ohid hG1
 have HO1:Hid (w1.ownsRow w.heap.size 5 1 v1 (m.out b).length ((m.out b).map bv)):=own1
 clear hG1 hM1 own1 hse
 go_wp2_with fail
 refine (nmust_ok w1).mono ?_
 rintro e w2 ⟨⟨v2,rfl⟩,rfl⟩
 go_wp2_with fail
 go_ret
 exact ⟨_,rfl,HG1.out,HM1.out,HO1.out⟩
set_option maxHeartbeats 4000000 in
theorem nhear_any (g:Nat) (m:MS) (own once other seen:List UInt8) (c:Option Addr) (lc cc:Nat) (b:List UInt8) (w:World) (hS:Sd w g m own once other seen) (hn:m.n ≤ 1000) (hB:Byt w c lc b) (hBn:c = none → cc = 0) (hlc:lc ≤ 1000) (hcc:lc ≤ cc) (hccm:cc ≤ maxLen) (hcg:∀ x o f,c = some ⟨x,o,f⟩ → x ≠ g) (hT:TT w) (hg:Gok g) (h0:m.err b = 0) :
  Calls Tryz.prog 43 #[.pointer (some ⟨g,0,none⟩),.slice c lc cc] w fun e w' => ∃ v,e = .returned v ∧ w.grownBy w' (some g) ∧ Sd w' g (m.opened b) own once other seen ∧ w'.ownsRow w.heap.size 5 1 v (m.text b).length ((m.text b).map bv):=by
 have HS:=ohid hS
 have HT:=ohid hT
 have HG:=ohid hg
 have HB:=ohid hB
 have HCg:=ohid hcg
 have hse:oErr m.K m.has m.n m.H b = 0:=h0
 clear hS hT hg hB hcg h0
 go_enter Tryz.func43,Tryz.ntmps43
 go_wp2_with fail
 refine (kopenmixed_own g 67 (SKy own once other seen ++ []) m.C m.H m.K m.has m.n c lc cc b w HS.out.mi (by omega) HB.out hBn (by omega) hcc hccm HCg.out HT.out.1 HG.out.1).mono ?_
 rintro e w1 ⟨v1,rfl,hG1,hM1,own1⟩
 rw [hse]
 have HM1:Hid (Sd w1 g (m.opened b) own once other seen):=SdT.turned (m':=m.opened b) HS.out hM1
 have HG1:=ohid hG1
 have HO1:Hid (w1.ownsRow w.heap.size 5 1 v1 (m.text b).length ((m.text b).map bv)):=own1
 clear hG1 hM1 own1 hse
 go_wp2_with fail
 refine (nmust_ok w1).mono ?_
 rintro e w2 ⟨⟨v2,rfl⟩,rfl⟩
 go_wp2_with fail
 go_ret
 exact ⟨_,rfl,HG1.out,HM1.out,HO1.out⟩
set_option maxHeartbeats 4000000 in
theorem nhear_no (g:Nat) (m:MS) (own once other seen:List UInt8) (c:Option Addr) (lc cc:Nat) (b:List UInt8) (w:World) (hS:Sd w g m own once other seen) (hn:m.n ≤ 1000) (hB:Byt w c lc b) (hBn:c = none → cc = 0) (hlc:lc ≤ 1000) (hcc:lc ≤ cc) (hccm:cc ≤ maxLen) (hcg:∀ x o f,c = some ⟨x,o,f⟩ → x ≠ g) (hT:TT w) (hg:Gok g) (h0:m.err b ≠ 0) :
  Calls Tryz.prog 43 #[.pointer (some ⟨g,0,none⟩),.slice c lc cc] w fun e w' => e = pan (m.err b) ∧ w.grownBy w' (some g):=by
 have HS:=ohid hS
 have HT:=ohid hT
 have HG:=ohid hg
 have HB:=ohid hB
 have HCg:=ohid hcg
 obtain ⟨er,her⟩:∃ er,m.err b = er:=⟨_,rfl⟩
 have hse:oErr m.K m.has m.n m.H b = er:=her
 rw [her] at h0 ⊢
 clear hS hT hg hB hcg her
 go_enter Tryz.func43,Tryz.ntmps43
 go_wp2_with fail
 refine (kopenmixed_own g 67 (SKy own once other seen ++ []) m.C m.H m.K m.has m.n c lc cc b w HS.out.mi (by omega) HB.out hBn (by omega) hcc hccm HCg.out HT.out.1 HG.out.1).mono ?_
 rintro e w1 ⟨v1,rfl,hG1,hM1,own1⟩
 rw [hse]
 have HG1:=ohid hG1
 clear hG1 hM1 own1 hse
 go_wp2_with fail
 refine (nmust_no er h0 w1).mono ?_
 rintro e w2 ⟨rfl,rfl⟩
 go_wp2_with fail
 first | exact ⟨rfl,HG1.out⟩ | exact ⟨rfl,rfl,HG1.out⟩
set_option maxHeartbeats 4000000 in
theorem nhearOnce_no (g:Nat) (c:Option Addr) (lc cc least:Nat) (w:World) (hlc:lc < least) (hll:least ≤ 100) :
  Calls Tryz.prog 42 #[.pointer (some ⟨g,0,none⟩),.slice c lc cc,.int .i64 (least:Int)] w fun e w' => e = pan 2 ∧ w' = w:=by
 have hi:(lc:Int) < (least:Int):=by omega
 go_enter Tryz.func42,Tryz.ntmps42
 go_wp2
 first | exact ⟨rfl,rfl⟩ | exact ⟨rfl,rfl,rfl⟩
set_option maxHeartbeats 4000000 in
theorem nhearOnce_any (g:Nat) (m:MS) (own once other seen:List UInt8) (cb co lc cc least:Nat) (b:List UInt8) (w:World) (hS:Sd w g m own once other seen) (hB:Byt w (some ⟨cb,co,none⟩) lc b) (hlc:least ≤ lc) (hll:32 < least) (hcc:lc ≤ cc) (hccm:cc ≤ maxLen) (hcg:cb ≠ g) (hT:TT w) (hg:Gok g) :
  Calls Tryz.prog 42 #[.pointer (some ⟨g,0,none⟩),.slice (some ⟨cb,co,none⟩) lc cc,.int .i64 (least:Int)] w fun e w' => e = .returned (.slice (some ⟨cb,co + 32,none⟩) (lc - 32) (cc - 32)) ∧ w.grownBy w' (some g) ∧ Sd w' g (m.hash (b.take 32)) own once other (b.take 32):=by
 have hbl:=hB.1
 have hlr:(b.take 32).length = 32:=by rw [List.length_take];omega
 obtain ⟨R,hR⟩:∃ R,b.take 32 = R:=⟨_,rfl⟩
 have hBR:Byt w (some ⟨cb,co,none⟩) 32 R:=by rw [← hR];exact hB.cut (by omega)
 rw [hR] at hlr ⊢
 obtain ⟨W,hst,hSW,hGW⟩:=hS.putSeen R hlr
 have hgl:=hS.lt
 obtain ⟨Y,hY⟩:∃ Y,W.drew = Y:=⟨_,rfl⟩
 have hgr:Below W.heap.size W Y:=by rw [← hY];exact (Below.refl _ _).drew
 have HYe:=ohid hY
 have HSY:=ohid (hSW.later hgr)
 have HGY:Hid (w.grownBy Y (some g)):=World.grownBy.trans hGW (But.below g hgr)
 have HBR:=ohid hBR
 have HT:=ohid hT
 have HG:=ohid hg
 have hi:¬ (lc:Int) < (least:Int):=by omega
 have hcm:(cc:Int) ≤ 9223372036854775807:=by unfold maxLen at hccm;omega
 have hat:(Instr.arrayAt 24 (.slice (some ⟨cb,co,none⟩) 32 cc)).run Tryz.prog w = .ok (.pointer (some ⟨cb,co,none⟩)) w:=by simp [Instr.arrayAt,run_underlying Tryz.underlying24]
 have e1:32 ≤ lc:=by omega
 have e2:32 ≤ cc:=by omega
 clear hS hSW hGW hB hBR hT hg hgr hY hR
 go_enter Tryz.func42,Tryz.ntmps42
 go_wp2_with (first | refine wpList_load_byt rfl 24 _ rfl cb co 32 32 5 R rfl HBR.out Tryz.underlying24 (by kernel_rfl) ?_ | fail)
 clear hst hat
 refine wp_region_sched' (G:=But g) (by kernel_rfl) (But.refl g) (But.trans g) (by kernel_rfl) [(0,true),(1,true),(2,true),(3,true),(4,true),(5,true),(6,true),(7,false)] rfl (by kernel_rfl) ?_
 intro KK hKK
 rw [HYe.out]
 iterate 7 (refine sched_take rfl (by rfl) (v:=?_) ?_ ?_;rotate_left;(intro w' hw';clear hw';go_simp;with_reducible rfl);go_simp)
 refine sched_call (f:=63) (args:=#[.pointer (some ⟨g,0,none⟩),.slice (some ⟨g,194,none⟩) 32 32]) rfl (by rfl) (by go_simp) ?_
 refine (kmixhash_any g 67 (SKy own once other R ++ []) m.C m.H m.K m.has m.n (some ⟨g,194,none⟩) 32 32 R Y HSY.out.mi (byt_of_cells hlr HSY.out.seenC) (fun e => by cases e) (by omega) (by omega) (by unfold maxLen;omega) (HT.out.1.but HGY.out HG.out.1) HG.out.1).mono ?_
 rintro e w5 ⟨⟨v5,rfl⟩,hG5,hM5⟩
 refine ⟨_,rfl,hG5,?_⟩
 have HG5:Hid (w.grownBy w5 (some g)):=World.grownBy.trans HGY.out hG5
 have HM5:Hid (Sd w5 g (m.hash R) own once other R):=SdT.turned (m':=m.hash R) HSY.out hM5
 clear hG5 hM5 HYe
 go_simp
 refine sched_done hKK ?_
 clear hKK
 go_wp2_with fail
 go_ret
 have c1:((lc:Int) - 32) = ((lc - 32:Nat):Int):=by omega
 have c2:((cc:Int) - 32) = ((cc - 32:Nat):Int):=by omega
 exact ⟨rfl,HG5.out,HM5.out⟩
end Go.Proofs.YthmkhdnnljdglaaGreatDoor
