import Derived.Test.YthmkhdnnljdglaaGreatDoorQbc
import Derived.Test.YthmkhdnnljdglaaGreatDoorQbd
namespace Go.Proofs.YthmkhdnnljdglaaGreatDoor
set_option linter.unusedVariables false
set_option maxRecDepth 100000
open Go.RowKit
set_option maxHeartbeats 16000000 in
set_option maxRecDepth 100000 in
theorem cstep_any (A B u:List Value) (x2 z2 x3 z3 U:Nat) (w:World) (hA:PtE A x2 z2) (hB:PtE B x3 z3) (hu:Elm u U) (htab:FTab w) :
  Calls Tryz.prog 58 #[.agg A.toArray,.agg B.toArray,.agg u.toArray] w fun e w' => ∃ C D,e = .returned (.tuple #[.agg C.toArray,.agg D.toArray]) ∧ PtE C (nX2 x2 z2) (nZ2 x2 z2) ∧ PtE D (nX3 x2 z2 x3 z3) (nZ3 U x2 z2 x3 z3) ∧ Below w.heap.size w w':=by
 have HTab:Hid (FTab w):=htab
 have HZero:Hid (Elm zeroE 0):=elm_zero
 have HPA:Hid (PtE A x2 z2):=hA
 have HPB:Hid (PtE B x3 z3):=hB
 have HU:Hid (Elm u U):=hu
 have HV0:Hid (Vw w (((((w.alloc (.cells A.toArray 101)).alloc (.cells B.toArray 101)).alloc (.cells u.toArray 96)).alloc (.cells zeroP.toArray 101)).alloc (.cells zeroP.toArray 101)) [(w.heap.size,101,A),(w.heap.size + 1,101,B),(w.heap.size + 1 + 1,96,u),(w.heap.size + 1 + 1 + 1,101,zeroP),(w.heap.size + 1 + 1 + 1 + 1,101,zeroP)]):=by
  have h:=(((((Vw.none w).alloc 101 A).alloc 101 B).alloc 96 u).alloc 101 zeroP).alloc 101 zeroP
  simp only [World.size_alloc] at h
  exact h
 clear htab hA hB hu
 go_enter Tryz.func58,Tryz.ntmps58
 refine wp_seq (wp_cut (fun a W => a = { tmps:=#[.agg A.toArray,.agg B.toArray,.agg u.toArray,.pointer (some ⟨w.heap.size,0,none⟩),.pointer (some ⟨w.heap.size + 1,0,none⟩),.pointer (some ⟨w.heap.size + 1 + 1,0,none⟩),.pointer (some ⟨w.heap.size + 1 + 1 + 1,0,none⟩),.pointer (some ⟨w.heap.size + 1 + 1 + 1 + 1,0,none⟩),undef,undef,undef,undef,undef,undef,undef,undef,undef,undef,undef,undef,undef,undef,undef,undef,undef,undef,undef,undef,undef,undef,undef,undef,undef,undef,undef,undef,undef,undef,undef,undef,undef,undef,undef,undef,undef,undef,undef,undef,undef,undef,undef,undef,undef,undef,undef,undef,undef,undef,undef,undef,undef,undef,undef,undef,undef,undef,undef,undef,undef,undef,undef,undef,undef,undef,undef,undef,undef,undef,undef,undef,undef,undef,undef,undef],defers:=[] } ∧ Hid (Vw w W [(w.heap.size,101,A),(w.heap.size + 1,101,B),(w.heap.size + 1 + 1,96,u),(w.heap.size + 1 + 1 + 1,101,zeroP),(w.heap.size + 1 + 1 + 1 + 1,101,zeroP)])) ?_ ?_)
 ·go_wp2
  first | exact HV0 | exact ⟨rfl,HV0⟩ | exact ⟨rfl,rfl,HV0⟩
 ·rintro a W0 ⟨rfl,HV⟩
  clear HV0
  simp only [Exit.then]
  go_wp2
  obtain ⟨aA,bA,eA,xA,zA⟩:=HPA.out
  have EA:=hidup eA
  have XA:=hidup xA
  have ZA:=hidup zA
  clear eA xA zA
  obtain ⟨aB,bB,eB,xB,zB⟩:=HPB.out
  have EB:=hidup eB
  have XB:=hidup xB
  have ZB:=hidup zB
  clear eB xB zB
  refine wp_cut (fun a W => ∃ (g8 g9:Nat) (q25 q30:List Value),a = { tmps:=#[.agg A.toArray,.agg B.toArray,.agg u.toArray,.pointer (some ⟨w.heap.size,0,none⟩),.pointer (some ⟨w.heap.size + 1,0,none⟩),.pointer (some ⟨w.heap.size + 1 + 1,0,none⟩),.pointer (some ⟨w.heap.size + 1 + 1 + 1,0,none⟩),.pointer (some ⟨w.heap.size + 1 + 1 + 1 + 1,0,none⟩),.pointer (some ⟨g8,0,none⟩),.pointer (some ⟨g9,0,none⟩),undef,undef,undef,undef,undef,undef,undef,undef,undef,undef,undef,.pointer (some ⟨w.heap.size,0,none⟩),.agg aA.toArray,.pointer (some ⟨w.heap.size,5,none⟩),.agg bA.toArray,.agg q25.toArray,.pointer (some ⟨w.heap.size,0,none⟩),.agg aA.toArray,.pointer (some ⟨w.heap.size,5,none⟩),.agg bA.toArray,.agg q30.toArray,undef,undef,undef,undef,undef,undef,undef,undef,undef,undef,undef,undef,undef,undef,undef,undef,undef,undef,undef,undef,undef,undef,undef,undef,undef,undef,undef,undef,undef,undef,undef,undef,undef,undef,undef,undef,undef,undef,undef,undef,undef,undef,undef,undef,undef,undef,undef,undef,undef,undef,undef,undef,undef],defers:=[] } ∧ Hid (Elm q25 (fA (x2) (z2))) ∧ Hid (Elm q30 (fS (x2) (z2))) ∧ Hid (Vw w W [(w.heap.size,101,A),(w.heap.size + 1,101,B),(w.heap.size + 1 + 1,96,u),(w.heap.size + 1 + 1 + 1,101,zeroP),(w.heap.size + 1 + 1 + 1 + 1,101,zeroP),(g8,96,q25),(g9,96,q30)])) ?_ ?_
  ·have HVd:Hid (Vw w W0.drew [(w.heap.size,101,A),(w.heap.size + 1,101,B),(w.heap.size + 1 + 1,96,u),(w.heap.size + 1 + 1 + 1,101,zeroP),(w.heap.size + 1 + 1 + 1 + 1,101,zeroP)]):=HV.out.drew
   refine wp_region_elems 14 (Nat.le_refl _) (by kernel_rfl) (by kernel_rfl) (by kernel_rfl) (by kernel_rfl) [10,11] (fun p => if p = 10 then 12 else 13) (fun p => if p = 10 then 4 else 9) (plc_of (by kernel_rfl)) (fun j x' => match j with | 0 => x' = .pointer (some ⟨w.heap.size,0,none⟩) | 1 => x' = .agg aA.toArray | 2 => x' = .pointer (some ⟨w.heap.size,5,none⟩) | 3 => x' = .agg bA.toArray | 4 => ∃ c:List Value,x' = .agg c.toArray ∧ Elm c (fA (x2) (z2)) | 5 => x' = .pointer (some ⟨w.heap.size,0,none⟩) | 6 => x' = .agg aA.toArray | 7 => x' = .pointer (some ⟨w.heap.size,5,none⟩) | 8 => x' = .agg bA.toArray | 9 => ∃ c:List Value,x' = .agg c.toArray ∧ Elm c (fS (x2) (z2)) | _ => True) ?_ ?_ ?_
   ·intro p hp x' hx'
    simp only [List.mem_cons,List.not_mem_nil,or_false] at hp
    rcases hp with rfl | rfl
    ·obtain ⟨c,hc,hE⟩:=hx'
     exact ⟨c,_,hc,hE⟩
    ·obtain ⟨c,hc,hE⟩:=hx'
     exact ⟨c,_,hc,hE⟩
   ·intro d v W i o AA hi hia his ho hv hdep hA hb
    have hcs:i = 0 ∨ i = 1 ∨ i = 2 ∨ i = 3 ∨ i = 4 ∨ i = 5 ∨ i = 6 ∨ i = 7 ∨ i = 8 ∨ i = 9:=by simp at hia his;omega
    rcases hcs with rfl | rfl | rfl | rfl | rfl | rfl | rfl | rfl | rfl | rfl
    ·cases ho
     exact ⟨rfl,oper_val (exec_px rfl ((hA.slot 3 (by kernel_rfl)).trans rfl)) ⟨_,rfl,rfl,Below.refl _ _⟩⟩
    ·cases ho
     have h0:AA.eval (.tmp 21) = .pointer (some ⟨w.heap.size,0,none⟩):=(hA.new 0 21 (by decide) (dep_done hdep 0 (by kernel_rfl)) rfl (of_decide_eq_true (by kernel_rfl))).trans (hv 0 (by decide) (by decide) (dep_done hdep 0 (by kernel_rfl)) (by decide))
     exact ⟨rfl,oper_val (exec_load_x rfl h0 ((HVd.out.later hb).cell (w.heap.size,101,A) (by simp)) EA.out XA.out) ⟨_,rfl,rfl,Below.refl _ _⟩⟩
    ·cases ho
     exact ⟨rfl,oper_val (exec_pz rfl ((hA.slot 3 (by kernel_rfl)).trans rfl)) ⟨_,rfl,rfl,Below.refl _ _⟩⟩
    ·cases ho
     have h0:AA.eval (.tmp 23) = .pointer (some ⟨w.heap.size,5,none⟩):=(hA.new 2 23 (by decide) (dep_done hdep 2 (by kernel_rfl)) rfl (of_decide_eq_true (by kernel_rfl))).trans (hv 2 (by decide) (by decide) (dep_done hdep 2 (by kernel_rfl)) (by decide))
     exact ⟨rfl,oper_val (exec_load_z rfl h0 ((HVd.out.later hb).cell (w.heap.size,101,A) (by simp)) EA.out XA.out ZA.out) ⟨_,rfl,rfl,Below.refl _ _⟩⟩
    ·cases ho
     have h0:AA.eval (.tmp 22) = .agg aA.toArray:=(hA.new 1 22 (by decide) (dep_done hdep 1 (by kernel_rfl)) rfl (of_decide_eq_true (by kernel_rfl))).trans (hv 1 (by decide) (by decide) (dep_done hdep 1 (by kernel_rfl)) (by decide))
     have h1:AA.eval (.tmp 24) = .agg bA.toArray:=(hA.new 3 24 (by decide) (dep_done hdep 3 (by kernel_rfl)) rfl (of_decide_eq_true (by kernel_rfl))).trans (hv 3 (by decide) (by decide) (dep_done hdep 3 (by kernel_rfl)) (by decide))
     refine ⟨rfl,oper_call (exec_enter2 rfl rfl h0 h1 (by go_simp)) ((fadd_any aA bA (x2) (z2) W XA.out ZA.out).mono ?_)⟩
     rintro r W' ⟨c,rfl,he,hb'⟩
     exact ⟨_,rfl,_,rfl,⟨c,rfl,he⟩,hb'⟩
    ·cases ho
     exact ⟨rfl,oper_val (exec_px rfl ((hA.slot 3 (by kernel_rfl)).trans rfl)) ⟨_,rfl,rfl,Below.refl _ _⟩⟩
    ·cases ho
     have h0:AA.eval (.tmp 26) = .pointer (some ⟨w.heap.size,0,none⟩):=(hA.new 5 26 (by decide) (dep_done hdep 5 (by kernel_rfl)) rfl (of_decide_eq_true (by kernel_rfl))).trans (hv 5 (by decide) (by decide) (dep_done hdep 5 (by kernel_rfl)) (by decide))
     exact ⟨rfl,oper_val (exec_load_x rfl h0 ((HVd.out.later hb).cell (w.heap.size,101,A) (by simp)) EA.out XA.out) ⟨_,rfl,rfl,Below.refl _ _⟩⟩
    ·cases ho
     exact ⟨rfl,oper_val (exec_pz rfl ((hA.slot 3 (by kernel_rfl)).trans rfl)) ⟨_,rfl,rfl,Below.refl _ _⟩⟩
    ·cases ho
     have h0:AA.eval (.tmp 28) = .pointer (some ⟨w.heap.size,5,none⟩):=(hA.new 7 28 (by decide) (dep_done hdep 7 (by kernel_rfl)) rfl (of_decide_eq_true (by kernel_rfl))).trans (hv 7 (by decide) (by decide) (dep_done hdep 7 (by kernel_rfl)) (by decide))
     exact ⟨rfl,oper_val (exec_load_z rfl h0 ((HVd.out.later hb).cell (w.heap.size,101,A) (by simp)) EA.out XA.out ZA.out) ⟨_,rfl,rfl,Below.refl _ _⟩⟩
    ·cases ho
     have h0:AA.eval (.tmp 27) = .agg aA.toArray:=(hA.new 6 27 (by decide) (dep_done hdep 6 (by kernel_rfl)) rfl (of_decide_eq_true (by kernel_rfl))).trans (hv 6 (by decide) (by decide) (dep_done hdep 6 (by kernel_rfl)) (by decide))
     have h1:AA.eval (.tmp 29) = .agg bA.toArray:=(hA.new 8 29 (by decide) (dep_done hdep 8 (by kernel_rfl)) rfl (of_decide_eq_true (by kernel_rfl))).trans (hv 8 (by decide) (by decide) (dep_done hdep 8 (by kernel_rfl)) (by decide))
     refine ⟨rfl,oper_call (exec_enter2 rfl rfl h0 h1 (by go_simp)) ((fsub_any aA bA (x2) (z2) W XA.out ZA.out (HTab.out.later (HVd.out.later hb).bel)).mono ?_)⟩
     rintro r W' ⟨c,rfl,he,hb'⟩
     exact ⟨_,rfl,_,rfl,⟨c,rfl,he⟩,hb'⟩
   ·intro v g W hs hp hd hb
    have e0:v 0 = .pointer (some ⟨w.heap.size,0,none⟩):=hs 0 (by decide) (by decide) (by decide)
    have e1:v 1 = .agg aA.toArray:=hs 1 (by decide) (by decide) (by decide)
    have e2:v 2 = .pointer (some ⟨w.heap.size,5,none⟩):=hs 2 (by decide) (by decide) (by decide)
    have e3:v 3 = .agg bA.toArray:=hs 3 (by decide) (by decide) (by decide)
    obtain ⟨q25,e4,hQ4⟩:∃ c:List Value,v 4 = .agg c.toArray ∧ Elm c (fA (x2) (z2)):=hs 4 (by decide) (by decide) (by decide)
    have e5:v 5 = .pointer (some ⟨w.heap.size,0,none⟩):=hs 5 (by decide) (by decide) (by decide)
    have e6:v 6 = .agg aA.toArray:=hs 6 (by decide) (by decide) (by decide)
    have e7:v 7 = .pointer (some ⟨w.heap.size,5,none⟩):=hs 7 (by decide) (by decide) (by decide)
    have e8:v 8 = .agg bA.toArray:=hs 8 (by decide) (by decide) (by decide)
    obtain ⟨q30,e9,hQ9⟩:∃ c:List Value,v 9 = .agg c.toArray ∧ Elm c (fS (x2) (z2)):=hs 9 (by decide) (by decide) (by decide)
    obtain ⟨e10,hge10,c10',n10',hc10,hE10',hC10⟩:=hp 10 (by decide)
    obtain rfl:q25 = c10':=agg_inj (e4.symm.trans hc10)
    obtain ⟨e11,hge11,c11',n11',hc11,hE11',hC11⟩:=hp 11 (by decide)
    obtain rfl:q30 = c11':=agg_inj (e9.symm.trans hc11)
    have HVn:Vw w W ([(w.heap.size,101,A),(w.heap.size + 1,101,B),(w.heap.size + 1 + 1,96,u),(w.heap.size + 1 + 1 + 1,101,zeroP),(w.heap.size + 1 + 1 + 1 + 1,101,zeroP)] ++ [(g 10,96,q25),(g 11,96,q30)]):=HVd.out.places hb 96 g (fun p => match p with | 10 => q25 | 11 => q30 | _ => []) [10,11] (by decide) (by
     intro p hp
     simp only [List.mem_cons,List.not_mem_nil,or_false] at hp
     rcases hp with rfl | rfl
     ·exact ⟨hge10,hC10⟩
     ·exact ⟨hge11,hC11⟩) hd
    refine wp_tail_eq (l':=[]) (a':={ tmps:=#[.agg A.toArray,.agg B.toArray,.agg u.toArray,.pointer (some ⟨w.heap.size,0,none⟩),.pointer (some ⟨w.heap.size + 1,0,none⟩),.pointer (some ⟨w.heap.size + 1 + 1,0,none⟩),.pointer (some ⟨w.heap.size + 1 + 1 + 1,0,none⟩),.pointer (some ⟨w.heap.size + 1 + 1 + 1 + 1,0,none⟩),v 10,v 11,undef,undef,undef,undef,undef,undef,undef,undef,undef,undef,undef,v 0,v 1,v 2,v 3,v 4,v 5,v 6,v 7,v 8,v 9,undef,undef,undef,undef,undef,undef,undef,undef,undef,undef,undef,undef,undef,undef,undef,undef,undef,undef,undef,undef,undef,undef,undef,undef,undef,undef,undef,undef,undef,undef,undef,undef,undef,undef,undef,undef,undef,undef,undef,undef,undef,undef,undef,undef,undef,undef,undef,undef,undef,undef,undef,undef,undef],defers:=[] }) (by kernel_rfl) (by kernel_rfl) ?_
    rw [e0,e1,e2,e3,e4,e5,e6,e7,e8,e9,e10,e11]
    exact ⟨rfl,g 10,g 11,q25,q30,rfl,hQ4,hQ9,HVn⟩
  ·rintro a W1 ⟨g8,g9,q25,q30,rfl,HQ25,HQ30,HV⟩
   (try dsimp only)
   go_wp2
   refine wp_cut (fun a W => ∃ (g10 g11:Nat) (q35 q40:List Value),a = { tmps:=#[.agg A.toArray,.agg B.toArray,.agg u.toArray,.pointer (some ⟨w.heap.size,0,none⟩),.pointer (some ⟨w.heap.size + 1,0,none⟩),.pointer (some ⟨w.heap.size + 1 + 1,0,none⟩),.pointer (some ⟨w.heap.size + 1 + 1 + 1,0,none⟩),.pointer (some ⟨w.heap.size + 1 + 1 + 1 + 1,0,none⟩),.pointer (some ⟨g8,0,none⟩),.pointer (some ⟨g9,0,none⟩),.pointer (some ⟨g10,0,none⟩),.pointer (some ⟨g11,0,none⟩),undef,undef,undef,undef,undef,undef,undef,undef,undef,.pointer (some ⟨w.heap.size,0,none⟩),.agg aA.toArray,.pointer (some ⟨w.heap.size,5,none⟩),.agg bA.toArray,.agg q25.toArray,.pointer (some ⟨w.heap.size,0,none⟩),.agg aA.toArray,.pointer (some ⟨w.heap.size,5,none⟩),.agg bA.toArray,.agg q30.toArray,.pointer (some ⟨w.heap.size + 1,0,none⟩),.agg aB.toArray,.pointer (some ⟨w.heap.size + 1,5,none⟩),.agg bB.toArray,.agg q35.toArray,.pointer (some ⟨w.heap.size + 1,0,none⟩),.agg aB.toArray,.pointer (some ⟨w.heap.size + 1,5,none⟩),.agg bB.toArray,.agg q40.toArray,undef,undef,undef,undef,undef,undef,undef,undef,undef,undef,undef,undef,undef,undef,undef,undef,undef,undef,undef,undef,undef,undef,undef,undef,undef,undef,undef,undef,undef,undef,undef,undef,undef,undef,undef,undef,undef,undef,undef,undef,undef,undef,undef],defers:=[] } ∧ Hid (Elm q35 (fA (x3) (z3))) ∧ Hid (Elm q40 (fS (x3) (z3))) ∧ Hid (Vw w W [(w.heap.size,101,A),(w.heap.size + 1,101,B),(w.heap.size + 1 + 1,96,u),(w.heap.size + 1 + 1 + 1,101,zeroP),(w.heap.size + 1 + 1 + 1 + 1,101,zeroP),(g8,96,q25),(g9,96,q30),(g10,96,q35),(g11,96,q40)])) ?_ ?_
   ·have HVd:Hid (Vw w W1.drew [(w.heap.size,101,A),(w.heap.size + 1,101,B),(w.heap.size + 1 + 1,96,u),(w.heap.size + 1 + 1 + 1,101,zeroP),(w.heap.size + 1 + 1 + 1 + 1,101,zeroP),(g8,96,q25),(g9,96,q30)]):=HV.out.drew
    refine wp_region_elems 14 (Nat.le_refl _) (by kernel_rfl) (by kernel_rfl) (by kernel_rfl) (by kernel_rfl) [10,11] (fun p => if p = 10 then 12 else 13) (fun p => if p = 10 then 4 else 9) (plc_of (by kernel_rfl)) (fun j x' => match j with | 0 => x' = .pointer (some ⟨w.heap.size + 1,0,none⟩) | 1 => x' = .agg aB.toArray | 2 => x' = .pointer (some ⟨w.heap.size + 1,5,none⟩) | 3 => x' = .agg bB.toArray | 4 => ∃ c:List Value,x' = .agg c.toArray ∧ Elm c (fA (x3) (z3)) | 5 => x' = .pointer (some ⟨w.heap.size + 1,0,none⟩) | 6 => x' = .agg aB.toArray | 7 => x' = .pointer (some ⟨w.heap.size + 1,5,none⟩) | 8 => x' = .agg bB.toArray | 9 => ∃ c:List Value,x' = .agg c.toArray ∧ Elm c (fS (x3) (z3)) | _ => True) ?_ ?_ ?_
    ·intro p hp x' hx'
     simp only [List.mem_cons,List.not_mem_nil,or_false] at hp
     rcases hp with rfl | rfl
     ·obtain ⟨c,hc,hE⟩:=hx'
      exact ⟨c,_,hc,hE⟩
     ·obtain ⟨c,hc,hE⟩:=hx'
      exact ⟨c,_,hc,hE⟩
    ·intro d v W i o AA hi hia his ho hv hdep hA hb
     have hcs:i = 0 ∨ i = 1 ∨ i = 2 ∨ i = 3 ∨ i = 4 ∨ i = 5 ∨ i = 6 ∨ i = 7 ∨ i = 8 ∨ i = 9:=by simp at hia his;omega
     rcases hcs with rfl | rfl | rfl | rfl | rfl | rfl | rfl | rfl | rfl | rfl
     ·cases ho
      exact ⟨rfl,oper_val (exec_px rfl ((hA.slot 4 (by kernel_rfl)).trans rfl)) ⟨_,rfl,rfl,Below.refl _ _⟩⟩
     ·cases ho
      have h0:AA.eval (.tmp 31) = .pointer (some ⟨w.heap.size + 1,0,none⟩):=(hA.new 0 31 (by decide) (dep_done hdep 0 (by kernel_rfl)) rfl (of_decide_eq_true (by kernel_rfl))).trans (hv 0 (by decide) (by decide) (dep_done hdep 0 (by kernel_rfl)) (by decide))
      exact ⟨rfl,oper_val (exec_load_x rfl h0 ((HVd.out.later hb).cell (w.heap.size + 1,101,B) (by simp)) EB.out XB.out) ⟨_,rfl,rfl,Below.refl _ _⟩⟩
     ·cases ho
      exact ⟨rfl,oper_val (exec_pz rfl ((hA.slot 4 (by kernel_rfl)).trans rfl)) ⟨_,rfl,rfl,Below.refl _ _⟩⟩
     ·cases ho
      have h0:AA.eval (.tmp 33) = .pointer (some ⟨w.heap.size + 1,5,none⟩):=(hA.new 2 33 (by decide) (dep_done hdep 2 (by kernel_rfl)) rfl (of_decide_eq_true (by kernel_rfl))).trans (hv 2 (by decide) (by decide) (dep_done hdep 2 (by kernel_rfl)) (by decide))
      exact ⟨rfl,oper_val (exec_load_z rfl h0 ((HVd.out.later hb).cell (w.heap.size + 1,101,B) (by simp)) EB.out XB.out ZB.out) ⟨_,rfl,rfl,Below.refl _ _⟩⟩
     ·cases ho
      have h0:AA.eval (.tmp 32) = .agg aB.toArray:=(hA.new 1 32 (by decide) (dep_done hdep 1 (by kernel_rfl)) rfl (of_decide_eq_true (by kernel_rfl))).trans (hv 1 (by decide) (by decide) (dep_done hdep 1 (by kernel_rfl)) (by decide))
      have h1:AA.eval (.tmp 34) = .agg bB.toArray:=(hA.new 3 34 (by decide) (dep_done hdep 3 (by kernel_rfl)) rfl (of_decide_eq_true (by kernel_rfl))).trans (hv 3 (by decide) (by decide) (dep_done hdep 3 (by kernel_rfl)) (by decide))
      refine ⟨rfl,oper_call (exec_enter2 rfl rfl h0 h1 (by go_simp)) ((fadd_any aB bB (x3) (z3) W XB.out ZB.out).mono ?_)⟩
      rintro r W' ⟨c,rfl,he,hb'⟩
      exact ⟨_,rfl,_,rfl,⟨c,rfl,he⟩,hb'⟩
     ·cases ho
      exact ⟨rfl,oper_val (exec_px rfl ((hA.slot 4 (by kernel_rfl)).trans rfl)) ⟨_,rfl,rfl,Below.refl _ _⟩⟩
     ·cases ho
      have h0:AA.eval (.tmp 36) = .pointer (some ⟨w.heap.size + 1,0,none⟩):=(hA.new 5 36 (by decide) (dep_done hdep 5 (by kernel_rfl)) rfl (of_decide_eq_true (by kernel_rfl))).trans (hv 5 (by decide) (by decide) (dep_done hdep 5 (by kernel_rfl)) (by decide))
      exact ⟨rfl,oper_val (exec_load_x rfl h0 ((HVd.out.later hb).cell (w.heap.size + 1,101,B) (by simp)) EB.out XB.out) ⟨_,rfl,rfl,Below.refl _ _⟩⟩
     ·cases ho
      exact ⟨rfl,oper_val (exec_pz rfl ((hA.slot 4 (by kernel_rfl)).trans rfl)) ⟨_,rfl,rfl,Below.refl _ _⟩⟩
     ·cases ho
      have h0:AA.eval (.tmp 38) = .pointer (some ⟨w.heap.size + 1,5,none⟩):=(hA.new 7 38 (by decide) (dep_done hdep 7 (by kernel_rfl)) rfl (of_decide_eq_true (by kernel_rfl))).trans (hv 7 (by decide) (by decide) (dep_done hdep 7 (by kernel_rfl)) (by decide))
      exact ⟨rfl,oper_val (exec_load_z rfl h0 ((HVd.out.later hb).cell (w.heap.size + 1,101,B) (by simp)) EB.out XB.out ZB.out) ⟨_,rfl,rfl,Below.refl _ _⟩⟩
     ·cases ho
      have h0:AA.eval (.tmp 37) = .agg aB.toArray:=(hA.new 6 37 (by decide) (dep_done hdep 6 (by kernel_rfl)) rfl (of_decide_eq_true (by kernel_rfl))).trans (hv 6 (by decide) (by decide) (dep_done hdep 6 (by kernel_rfl)) (by decide))
      have h1:AA.eval (.tmp 39) = .agg bB.toArray:=(hA.new 8 39 (by decide) (dep_done hdep 8 (by kernel_rfl)) rfl (of_decide_eq_true (by kernel_rfl))).trans (hv 8 (by decide) (by decide) (dep_done hdep 8 (by kernel_rfl)) (by decide))
      refine ⟨rfl,oper_call (exec_enter2 rfl rfl h0 h1 (by go_simp)) ((fsub_any aB bB (x3) (z3) W XB.out ZB.out (HTab.out.later (HVd.out.later hb).bel)).mono ?_)⟩
      rintro r W' ⟨c,rfl,he,hb'⟩
      exact ⟨_,rfl,_,rfl,⟨c,rfl,he⟩,hb'⟩
    ·intro v g W hs hp hd hb
     have e0:v 0 = .pointer (some ⟨w.heap.size + 1,0,none⟩):=hs 0 (by decide) (by decide) (by decide)
     have e1:v 1 = .agg aB.toArray:=hs 1 (by decide) (by decide) (by decide)
     have e2:v 2 = .pointer (some ⟨w.heap.size + 1,5,none⟩):=hs 2 (by decide) (by decide) (by decide)
     have e3:v 3 = .agg bB.toArray:=hs 3 (by decide) (by decide) (by decide)
     obtain ⟨q35,e4,hQ4⟩:∃ c:List Value,v 4 = .agg c.toArray ∧ Elm c (fA (x3) (z3)):=hs 4 (by decide) (by decide) (by decide)
     have e5:v 5 = .pointer (some ⟨w.heap.size + 1,0,none⟩):=hs 5 (by decide) (by decide) (by decide)
     have e6:v 6 = .agg aB.toArray:=hs 6 (by decide) (by decide) (by decide)
     have e7:v 7 = .pointer (some ⟨w.heap.size + 1,5,none⟩):=hs 7 (by decide) (by decide) (by decide)
     have e8:v 8 = .agg bB.toArray:=hs 8 (by decide) (by decide) (by decide)
     obtain ⟨q40,e9,hQ9⟩:∃ c:List Value,v 9 = .agg c.toArray ∧ Elm c (fS (x3) (z3)):=hs 9 (by decide) (by decide) (by decide)
     obtain ⟨e10,hge10,c10',n10',hc10,hE10',hC10⟩:=hp 10 (by decide)
     obtain rfl:q35 = c10':=agg_inj (e4.symm.trans hc10)
     obtain ⟨e11,hge11,c11',n11',hc11,hE11',hC11⟩:=hp 11 (by decide)
     obtain rfl:q40 = c11':=agg_inj (e9.symm.trans hc11)
     have HVn:Vw w W ([(w.heap.size,101,A),(w.heap.size + 1,101,B),(w.heap.size + 1 + 1,96,u),(w.heap.size + 1 + 1 + 1,101,zeroP),(w.heap.size + 1 + 1 + 1 + 1,101,zeroP),(g8,96,q25),(g9,96,q30)] ++ [(g 10,96,q35),(g 11,96,q40)]):=HVd.out.places hb 96 g (fun p => match p with | 10 => q35 | 11 => q40 | _ => []) [10,11] (by decide) (by
      intro p hp
      simp only [List.mem_cons,List.not_mem_nil,or_false] at hp
      rcases hp with rfl | rfl
      ·exact ⟨hge10,hC10⟩
      ·exact ⟨hge11,hC11⟩) hd
     refine wp_tail_eq (l':=[]) (a':={ tmps:=#[.agg A.toArray,.agg B.toArray,.agg u.toArray,.pointer (some ⟨w.heap.size,0,none⟩),.pointer (some ⟨w.heap.size + 1,0,none⟩),.pointer (some ⟨w.heap.size + 1 + 1,0,none⟩),.pointer (some ⟨w.heap.size + 1 + 1 + 1,0,none⟩),.pointer (some ⟨w.heap.size + 1 + 1 + 1 + 1,0,none⟩),.pointer (some ⟨g8,0,none⟩),.pointer (some ⟨g9,0,none⟩),v 10,v 11,undef,undef,undef,undef,undef,undef,undef,undef,undef,.pointer (some ⟨w.heap.size,0,none⟩),.agg aA.toArray,.pointer (some ⟨w.heap.size,5,none⟩),.agg bA.toArray,.agg q25.toArray,.pointer (some ⟨w.heap.size,0,none⟩),.agg aA.toArray,.pointer (some ⟨w.heap.size,5,none⟩),.agg bA.toArray,.agg q30.toArray,v 0,v 1,v 2,v 3,v 4,v 5,v 6,v 7,v 8,v 9,undef,undef,undef,undef,undef,undef,undef,undef,undef,undef,undef,undef,undef,undef,undef,undef,undef,undef,undef,undef,undef,undef,undef,undef,undef,undef,undef,undef,undef,undef,undef,undef,undef,undef,undef,undef,undef,undef,undef,undef,undef,undef,undef],defers:=[] }) (by kernel_rfl) (by kernel_rfl) ?_
     rw [e0,e1,e2,e3,e4,e5,e6,e7,e8,e9,e10,e11]
     exact ⟨rfl,g 10,g 11,q35,q40,rfl,hQ4,hQ9,HVn⟩
   ·rintro a W2 ⟨g10,g11,q35,q40,rfl,HQ35,HQ40,HV⟩
    (try dsimp only)
    go_wp2
    refine wp_cut (fun a W => ∃ (g12 g13:Nat) (q43 q46:List Value),a = { tmps:=#[.agg A.toArray,.agg B.toArray,.agg u.toArray,.pointer (some ⟨w.heap.size,0,none⟩),.pointer (some ⟨w.heap.size + 1,0,none⟩),.pointer (some ⟨w.heap.size + 1 + 1,0,none⟩),.pointer (some ⟨w.heap.size + 1 + 1 + 1,0,none⟩),.pointer (some ⟨w.heap.size + 1 + 1 + 1 + 1,0,none⟩),.pointer (some ⟨g8,0,none⟩),.pointer (some ⟨g9,0,none⟩),.pointer (some ⟨g10,0,none⟩),.pointer (some ⟨g11,0,none⟩),.pointer (some ⟨g12,0,none⟩),.pointer (some ⟨g13,0,none⟩),undef,undef,undef,undef,undef,undef,undef,.pointer (some ⟨w.heap.size,0,none⟩),.agg aA.toArray,.pointer (some ⟨w.heap.size,5,none⟩),.agg bA.toArray,.agg q25.toArray,.pointer (some ⟨w.heap.size,0,none⟩),.agg aA.toArray,.pointer (some ⟨w.heap.size,5,none⟩),.agg bA.toArray,.agg q30.toArray,.pointer (some ⟨w.heap.size + 1,0,none⟩),.agg aB.toArray,.pointer (some ⟨w.heap.size + 1,5,none⟩),.agg bB.toArray,.agg q35.toArray,.pointer (some ⟨w.heap.size + 1,0,none⟩),.agg aB.toArray,.pointer (some ⟨w.heap.size + 1,5,none⟩),.agg bB.toArray,.agg q40.toArray,.agg q25.toArray,.agg q25.toArray,.agg q43.toArray,.agg q30.toArray,.agg q30.toArray,.agg q46.toArray,undef,undef,undef,undef,undef,undef,undef,undef,undef,undef,undef,undef,undef,undef,undef,undef,undef,undef,undef,undef,undef,undef,undef,undef,undef,undef,undef,undef,undef,undef,undef,undef,undef,undef,undef,undef,undef],defers:=[] } ∧ Hid (Elm q43 (fM (fA (x2) (z2)) (fA (x2) (z2)))) ∧ Hid (Elm q46 (fM (fS (x2) (z2)) (fS (x2) (z2)))) ∧ Hid (Vw w W [(w.heap.size,101,A),(w.heap.size + 1,101,B),(w.heap.size + 1 + 1,96,u),(w.heap.size + 1 + 1 + 1,101,zeroP),(w.heap.size + 1 + 1 + 1 + 1,101,zeroP),(g8,96,q25),(g9,96,q30),(g10,96,q35),(g11,96,q40),(g12,96,q43),(g13,96,q46)])) ?_ ?_
    ·have HVd:Hid (Vw w W2.drew [(w.heap.size,101,A),(w.heap.size + 1,101,B),(w.heap.size + 1 + 1,96,u),(w.heap.size + 1 + 1 + 1,101,zeroP),(w.heap.size + 1 + 1 + 1 + 1,101,zeroP),(g8,96,q25),(g9,96,q30),(g10,96,q35),(g11,96,q40)]):=HV.out.drew
     refine wp_region_elems 10 (Nat.le_refl _) (by kernel_rfl) (by kernel_rfl) (by kernel_rfl) (by kernel_rfl) [6,7] (fun p => if p = 6 then 8 else 9) (fun p => if p = 6 then 2 else 5) (plc_of (by kernel_rfl)) (fun j x' => match j with | 0 => x' = .agg q25.toArray | 1 => x' = .agg q25.toArray | 2 => ∃ c:List Value,x' = .agg c.toArray ∧ Elm c (fM (fA (x2) (z2)) (fA (x2) (z2))) | 3 => x' = .agg q30.toArray | 4 => x' = .agg q30.toArray | 5 => ∃ c:List Value,x' = .agg c.toArray ∧ Elm c (fM (fS (x2) (z2)) (fS (x2) (z2))) | _ => True) ?_ ?_ ?_
     ·intro p hp x' hx'
      simp only [List.mem_cons,List.not_mem_nil,or_false] at hp
      rcases hp with rfl | rfl
      ·obtain ⟨c,hc,hE⟩:=hx'
       exact ⟨c,_,hc,hE⟩
      ·obtain ⟨c,hc,hE⟩:=hx'
       exact ⟨c,_,hc,hE⟩
     ·intro d v W i o AA hi hia his ho hv hdep hA hb
      have hcs:i = 0 ∨ i = 1 ∨ i = 2 ∨ i = 3 ∨ i = 4 ∨ i = 5:=by simp at hia his;omega
      rcases hcs with rfl | rfl | rfl | rfl | rfl | rfl
      ·cases ho
       exact ⟨rfl,oper_val (exec_load_row 96 _ rfl (g8) ((hA.slot 8 (by kernel_rfl)).trans rfl) 96 _ (0,0) _ ((HVd.out.later hb).cell (g8,96,q25) (by simp)) Tryz.underlying96 rfl (elm_info HQ25.out)) ⟨_,rfl,rfl,Below.refl _ _⟩⟩
      ·cases ho
       exact ⟨rfl,oper_val (exec_load_row 96 _ rfl (g8) ((hA.slot 8 (by kernel_rfl)).trans rfl) 96 _ (0,0) _ ((HVd.out.later hb).cell (g8,96,q25) (by simp)) Tryz.underlying96 rfl (elm_info HQ25.out)) ⟨_,rfl,rfl,Below.refl _ _⟩⟩
      ·cases ho
       have h0:AA.eval (.tmp 41) = .agg q25.toArray:=(hA.new 0 41 (by decide) (dep_done hdep 0 (by kernel_rfl)) rfl (of_decide_eq_true (by kernel_rfl))).trans (hv 0 (by decide) (by decide) (dep_done hdep 0 (by kernel_rfl)) (by decide))
       have h1:AA.eval (.tmp 42) = .agg q25.toArray:=(hA.new 1 42 (by decide) (dep_done hdep 1 (by kernel_rfl)) rfl (of_decide_eq_true (by kernel_rfl))).trans (hv 1 (by decide) (by decide) (dep_done hdep 1 (by kernel_rfl)) (by decide))
       refine ⟨rfl,oper_call (exec_enter2 rfl rfl h0 h1 (by go_simp)) ((fmul_any q25 q25 (fA (x2) (z2)) (fA (x2) (z2)) W HQ25.out HQ25.out).mono ?_)⟩
       rintro r W' ⟨c,rfl,he,hb'⟩
       exact ⟨_,rfl,_,rfl,⟨c,rfl,he⟩,hb'⟩
      ·cases ho
       exact ⟨rfl,oper_val (exec_load_row 96 _ rfl (g9) ((hA.slot 9 (by kernel_rfl)).trans rfl) 96 _ (0,0) _ ((HVd.out.later hb).cell (g9,96,q30) (by simp)) Tryz.underlying96 rfl (elm_info HQ30.out)) ⟨_,rfl,rfl,Below.refl _ _⟩⟩
      ·cases ho
       exact ⟨rfl,oper_val (exec_load_row 96 _ rfl (g9) ((hA.slot 9 (by kernel_rfl)).trans rfl) 96 _ (0,0) _ ((HVd.out.later hb).cell (g9,96,q30) (by simp)) Tryz.underlying96 rfl (elm_info HQ30.out)) ⟨_,rfl,rfl,Below.refl _ _⟩⟩
      ·cases ho
       have h0:AA.eval (.tmp 44) = .agg q30.toArray:=(hA.new 3 44 (by decide) (dep_done hdep 3 (by kernel_rfl)) rfl (of_decide_eq_true (by kernel_rfl))).trans (hv 3 (by decide) (by decide) (dep_done hdep 3 (by kernel_rfl)) (by decide))
       have h1:AA.eval (.tmp 45) = .agg q30.toArray:=(hA.new 4 45 (by decide) (dep_done hdep 4 (by kernel_rfl)) rfl (of_decide_eq_true (by kernel_rfl))).trans (hv 4 (by decide) (by decide) (dep_done hdep 4 (by kernel_rfl)) (by decide))
       refine ⟨rfl,oper_call (exec_enter2 rfl rfl h0 h1 (by go_simp)) ((fmul_any q30 q30 (fS (x2) (z2)) (fS (x2) (z2)) W HQ30.out HQ30.out).mono ?_)⟩
       rintro r W' ⟨c,rfl,he,hb'⟩
       exact ⟨_,rfl,_,rfl,⟨c,rfl,he⟩,hb'⟩
     ·intro v g W hs hp hd hb
      have e0:v 0 = .agg q25.toArray:=hs 0 (by decide) (by decide) (by decide)
      have e1:v 1 = .agg q25.toArray:=hs 1 (by decide) (by decide) (by decide)
      obtain ⟨q43,e2,hQ2⟩:∃ c:List Value,v 2 = .agg c.toArray ∧ Elm c (fM (fA (x2) (z2)) (fA (x2) (z2))):=hs 2 (by decide) (by decide) (by decide)
      have e3:v 3 = .agg q30.toArray:=hs 3 (by decide) (by decide) (by decide)
      have e4:v 4 = .agg q30.toArray:=hs 4 (by decide) (by decide) (by decide)
      obtain ⟨q46,e5,hQ5⟩:∃ c:List Value,v 5 = .agg c.toArray ∧ Elm c (fM (fS (x2) (z2)) (fS (x2) (z2))):=hs 5 (by decide) (by decide) (by decide)
      obtain ⟨e6,hge6,c6',n6',hc6,hE6',hC6⟩:=hp 6 (by decide)
      obtain rfl:q43 = c6':=agg_inj (e2.symm.trans hc6)
      obtain ⟨e7,hge7,c7',n7',hc7,hE7',hC7⟩:=hp 7 (by decide)
      obtain rfl:q46 = c7':=agg_inj (e5.symm.trans hc7)
      have HVn:Vw w W ([(w.heap.size,101,A),(w.heap.size + 1,101,B),(w.heap.size + 1 + 1,96,u),(w.heap.size + 1 + 1 + 1,101,zeroP),(w.heap.size + 1 + 1 + 1 + 1,101,zeroP),(g8,96,q25),(g9,96,q30),(g10,96,q35),(g11,96,q40)] ++ [(g 6,96,q43),(g 7,96,q46)]):=HVd.out.places hb 96 g (fun p => match p with | 6 => q43 | 7 => q46 | _ => []) [6,7] (by decide) (by
       intro p hp
       simp only [List.mem_cons,List.not_mem_nil,or_false] at hp
       rcases hp with rfl | rfl
       ·exact ⟨hge6,hC6⟩
       ·exact ⟨hge7,hC7⟩) hd
      refine wp_tail_eq (l':=[]) (a':={ tmps:=#[.agg A.toArray,.agg B.toArray,.agg u.toArray,.pointer (some ⟨w.heap.size,0,none⟩),.pointer (some ⟨w.heap.size + 1,0,none⟩),.pointer (some ⟨w.heap.size + 1 + 1,0,none⟩),.pointer (some ⟨w.heap.size + 1 + 1 + 1,0,none⟩),.pointer (some ⟨w.heap.size + 1 + 1 + 1 + 1,0,none⟩),.pointer (some ⟨g8,0,none⟩),.pointer (some ⟨g9,0,none⟩),.pointer (some ⟨g10,0,none⟩),.pointer (some ⟨g11,0,none⟩),v 6,v 7,undef,undef,undef,undef,undef,undef,undef,.pointer (some ⟨w.heap.size,0,none⟩),.agg aA.toArray,.pointer (some ⟨w.heap.size,5,none⟩),.agg bA.toArray,.agg q25.toArray,.pointer (some ⟨w.heap.size,0,none⟩),.agg aA.toArray,.pointer (some ⟨w.heap.size,5,none⟩),.agg bA.toArray,.agg q30.toArray,.pointer (some ⟨w.heap.size + 1,0,none⟩),.agg aB.toArray,.pointer (some ⟨w.heap.size + 1,5,none⟩),.agg bB.toArray,.agg q35.toArray,.pointer (some ⟨w.heap.size + 1,0,none⟩),.agg aB.toArray,.pointer (some ⟨w.heap.size + 1,5,none⟩),.agg bB.toArray,.agg q40.toArray,v 0,v 1,v 2,v 3,v 4,v 5,undef,undef,undef,undef,undef,undef,undef,undef,undef,undef,undef,undef,undef,undef,undef,undef,undef,undef,undef,undef,undef,undef,undef,undef,undef,undef,undef,undef,undef,undef,undef,undef,undef,undef,undef,undef,undef],defers:=[] }) (by kernel_rfl) (by kernel_rfl) ?_
      rw [e0,e1,e2,e3,e4,e5,e6,e7]
      exact ⟨rfl,g 6,g 7,q43,q46,rfl,hQ2,hQ5,HVn⟩
    ·rintro a W3 ⟨g12,g13,q43,q46,rfl,HQ43,HQ46,HV⟩
     (try dsimp only)
     go_wp2
     refine wp_cut (fun a W => ∃ (g14 g15:Nat) (q49 q52:List Value),a = { tmps:=#[.agg A.toArray,.agg B.toArray,.agg u.toArray,.pointer (some ⟨w.heap.size,0,none⟩),.pointer (some ⟨w.heap.size + 1,0,none⟩),.pointer (some ⟨w.heap.size + 1 + 1,0,none⟩),.pointer (some ⟨w.heap.size + 1 + 1 + 1,0,none⟩),.pointer (some ⟨w.heap.size + 1 + 1 + 1 + 1,0,none⟩),.pointer (some ⟨g8,0,none⟩),.pointer (some ⟨g9,0,none⟩),.pointer (some ⟨g10,0,none⟩),.pointer (some ⟨g11,0,none⟩),.pointer (some ⟨g12,0,none⟩),.pointer (some ⟨g13,0,none⟩),.pointer (some ⟨g14,0,none⟩),.pointer (some ⟨g15,0,none⟩),undef,undef,undef,undef,undef,.pointer (some ⟨w.heap.size,0,none⟩),.agg aA.toArray,.pointer (some ⟨w.heap.size,5,none⟩),.agg bA.toArray,.agg q25.toArray,.pointer (some ⟨w.heap.size,0,none⟩),.agg aA.toArray,.pointer (some ⟨w.heap.size,5,none⟩),.agg bA.toArray,.agg q30.toArray,.pointer (some ⟨w.heap.size + 1,0,none⟩),.agg aB.toArray,.pointer (some ⟨w.heap.size + 1,5,none⟩),.agg bB.toArray,.agg q35.toArray,.pointer (some ⟨w.heap.size + 1,0,none⟩),.agg aB.toArray,.pointer (some ⟨w.heap.size + 1,5,none⟩),.agg bB.toArray,.agg q40.toArray,.agg q25.toArray,.agg q25.toArray,.agg q43.toArray,.agg q30.toArray,.agg q30.toArray,.agg q46.toArray,.agg q40.toArray,.agg q25.toArray,.agg q49.toArray,.agg q35.toArray,.agg q30.toArray,.agg q52.toArray,undef,undef,undef,undef,undef,undef,undef,undef,undef,undef,undef,undef,undef,undef,undef,undef,undef,undef,undef,undef,undef,undef,undef,undef,undef,undef,undef,undef,undef,undef,undef],defers:=[] } ∧ Hid (Elm q49 (fM (fS (x3) (z3)) (fA (x2) (z2)))) ∧ Hid (Elm q52 (fM (fA (x3) (z3)) (fS (x2) (z2)))) ∧ Hid (Vw w W [(w.heap.size,101,A),(w.heap.size + 1,101,B),(w.heap.size + 1 + 1,96,u),(w.heap.size + 1 + 1 + 1,101,zeroP),(w.heap.size + 1 + 1 + 1 + 1,101,zeroP),(g8,96,q25),(g9,96,q30),(g10,96,q35),(g11,96,q40),(g12,96,q43),(g13,96,q46),(g14,96,q49),(g15,96,q52)])) ?_ ?_
     ·have HVd:Hid (Vw w W3.drew [(w.heap.size,101,A),(w.heap.size + 1,101,B),(w.heap.size + 1 + 1,96,u),(w.heap.size + 1 + 1 + 1,101,zeroP),(w.heap.size + 1 + 1 + 1 + 1,101,zeroP),(g8,96,q25),(g9,96,q30),(g10,96,q35),(g11,96,q40),(g12,96,q43),(g13,96,q46)]):=HV.out.drew
      refine wp_region_elems 10 (Nat.le_refl _) (by kernel_rfl) (by kernel_rfl) (by kernel_rfl) (by kernel_rfl) [6,7] (fun p => if p = 6 then 8 else 9) (fun p => if p = 6 then 2 else 5) (plc_of (by kernel_rfl)) (fun j x' => match j with | 0 => x' = .agg q40.toArray | 1 => x' = .agg q25.toArray | 2 => ∃ c:List Value,x' = .agg c.toArray ∧ Elm c (fM (fS (x3) (z3)) (fA (x2) (z2))) | 3 => x' = .agg q35.toArray | 4 => x' = .agg q30.toArray | 5 => ∃ c:List Value,x' = .agg c.toArray ∧ Elm c (fM (fA (x3) (z3)) (fS (x2) (z2))) | _ => True) ?_ ?_ ?_
      ·intro p hp x' hx'
       simp only [List.mem_cons,List.not_mem_nil,or_false] at hp
       rcases hp with rfl | rfl
       ·obtain ⟨c,hc,hE⟩:=hx'
        exact ⟨c,_,hc,hE⟩
       ·obtain ⟨c,hc,hE⟩:=hx'
        exact ⟨c,_,hc,hE⟩
      ·intro d v W i o AA hi hia his ho hv hdep hA hb
       have hcs:i = 0 ∨ i = 1 ∨ i = 2 ∨ i = 3 ∨ i = 4 ∨ i = 5:=by simp at hia his;omega
       rcases hcs with rfl | rfl | rfl | rfl | rfl | rfl
       ·cases ho
        exact ⟨rfl,oper_val (exec_load_row 96 _ rfl (g11) ((hA.slot 11 (by kernel_rfl)).trans rfl) 96 _ (0,0) _ ((HVd.out.later hb).cell (g11,96,q40) (by simp)) Tryz.underlying96 rfl (elm_info HQ40.out)) ⟨_,rfl,rfl,Below.refl _ _⟩⟩
       ·cases ho
        exact ⟨rfl,oper_val (exec_load_row 96 _ rfl (g8) ((hA.slot 8 (by kernel_rfl)).trans rfl) 96 _ (0,0) _ ((HVd.out.later hb).cell (g8,96,q25) (by simp)) Tryz.underlying96 rfl (elm_info HQ25.out)) ⟨_,rfl,rfl,Below.refl _ _⟩⟩
       ·cases ho
        have h0:AA.eval (.tmp 47) = .agg q40.toArray:=(hA.new 0 47 (by decide) (dep_done hdep 0 (by kernel_rfl)) rfl (of_decide_eq_true (by kernel_rfl))).trans (hv 0 (by decide) (by decide) (dep_done hdep 0 (by kernel_rfl)) (by decide))
        have h1:AA.eval (.tmp 48) = .agg q25.toArray:=(hA.new 1 48 (by decide) (dep_done hdep 1 (by kernel_rfl)) rfl (of_decide_eq_true (by kernel_rfl))).trans (hv 1 (by decide) (by decide) (dep_done hdep 1 (by kernel_rfl)) (by decide))
        refine ⟨rfl,oper_call (exec_enter2 rfl rfl h0 h1 (by go_simp)) ((fmul_any q40 q25 (fS (x3) (z3)) (fA (x2) (z2)) W HQ40.out HQ25.out).mono ?_)⟩
        rintro r W' ⟨c,rfl,he,hb'⟩
        exact ⟨_,rfl,_,rfl,⟨c,rfl,he⟩,hb'⟩
       ·cases ho
        exact ⟨rfl,oper_val (exec_load_row 96 _ rfl (g10) ((hA.slot 10 (by kernel_rfl)).trans rfl) 96 _ (0,0) _ ((HVd.out.later hb).cell (g10,96,q35) (by simp)) Tryz.underlying96 rfl (elm_info HQ35.out)) ⟨_,rfl,rfl,Below.refl _ _⟩⟩
       ·cases ho
        exact ⟨rfl,oper_val (exec_load_row 96 _ rfl (g9) ((hA.slot 9 (by kernel_rfl)).trans rfl) 96 _ (0,0) _ ((HVd.out.later hb).cell (g9,96,q30) (by simp)) Tryz.underlying96 rfl (elm_info HQ30.out)) ⟨_,rfl,rfl,Below.refl _ _⟩⟩
       ·cases ho
        have h0:AA.eval (.tmp 50) = .agg q35.toArray:=(hA.new 3 50 (by decide) (dep_done hdep 3 (by kernel_rfl)) rfl (of_decide_eq_true (by kernel_rfl))).trans (hv 3 (by decide) (by decide) (dep_done hdep 3 (by kernel_rfl)) (by decide))
        have h1:AA.eval (.tmp 51) = .agg q30.toArray:=(hA.new 4 51 (by decide) (dep_done hdep 4 (by kernel_rfl)) rfl (of_decide_eq_true (by kernel_rfl))).trans (hv 4 (by decide) (by decide) (dep_done hdep 4 (by kernel_rfl)) (by decide))
        refine ⟨rfl,oper_call (exec_enter2 rfl rfl h0 h1 (by go_simp)) ((fmul_any q35 q30 (fA (x3) (z3)) (fS (x2) (z2)) W HQ35.out HQ30.out).mono ?_)⟩
        rintro r W' ⟨c,rfl,he,hb'⟩
        exact ⟨_,rfl,_,rfl,⟨c,rfl,he⟩,hb'⟩
      ·intro v g W hs hp hd hb
       have e0:v 0 = .agg q40.toArray:=hs 0 (by decide) (by decide) (by decide)
       have e1:v 1 = .agg q25.toArray:=hs 1 (by decide) (by decide) (by decide)
       obtain ⟨q49,e2,hQ2⟩:∃ c:List Value,v 2 = .agg c.toArray ∧ Elm c (fM (fS (x3) (z3)) (fA (x2) (z2))):=hs 2 (by decide) (by decide) (by decide)
       have e3:v 3 = .agg q35.toArray:=hs 3 (by decide) (by decide) (by decide)
       have e4:v 4 = .agg q30.toArray:=hs 4 (by decide) (by decide) (by decide)
       obtain ⟨q52,e5,hQ5⟩:∃ c:List Value,v 5 = .agg c.toArray ∧ Elm c (fM (fA (x3) (z3)) (fS (x2) (z2))):=hs 5 (by decide) (by decide) (by decide)
       obtain ⟨e6,hge6,c6',n6',hc6,hE6',hC6⟩:=hp 6 (by decide)
       obtain rfl:q49 = c6':=agg_inj (e2.symm.trans hc6)
       obtain ⟨e7,hge7,c7',n7',hc7,hE7',hC7⟩:=hp 7 (by decide)
       obtain rfl:q52 = c7':=agg_inj (e5.symm.trans hc7)
       have HVn:Vw w W ([(w.heap.size,101,A),(w.heap.size + 1,101,B),(w.heap.size + 1 + 1,96,u),(w.heap.size + 1 + 1 + 1,101,zeroP),(w.heap.size + 1 + 1 + 1 + 1,101,zeroP),(g8,96,q25),(g9,96,q30),(g10,96,q35),(g11,96,q40),(g12,96,q43),(g13,96,q46)] ++ [(g 6,96,q49),(g 7,96,q52)]):=HVd.out.places hb 96 g (fun p => match p with | 6 => q49 | 7 => q52 | _ => []) [6,7] (by decide) (by
        intro p hp
        simp only [List.mem_cons,List.not_mem_nil,or_false] at hp
        rcases hp with rfl | rfl
        ·exact ⟨hge6,hC6⟩
        ·exact ⟨hge7,hC7⟩) hd
       refine wp_tail_eq (l':=[]) (a':={ tmps:=#[.agg A.toArray,.agg B.toArray,.agg u.toArray,.pointer (some ⟨w.heap.size,0,none⟩),.pointer (some ⟨w.heap.size + 1,0,none⟩),.pointer (some ⟨w.heap.size + 1 + 1,0,none⟩),.pointer (some ⟨w.heap.size + 1 + 1 + 1,0,none⟩),.pointer (some ⟨w.heap.size + 1 + 1 + 1 + 1,0,none⟩),.pointer (some ⟨g8,0,none⟩),.pointer (some ⟨g9,0,none⟩),.pointer (some ⟨g10,0,none⟩),.pointer (some ⟨g11,0,none⟩),.pointer (some ⟨g12,0,none⟩),.pointer (some ⟨g13,0,none⟩),v 6,v 7,undef,undef,undef,undef,undef,.pointer (some ⟨w.heap.size,0,none⟩),.agg aA.toArray,.pointer (some ⟨w.heap.size,5,none⟩),.agg bA.toArray,.agg q25.toArray,.pointer (some ⟨w.heap.size,0,none⟩),.agg aA.toArray,.pointer (some ⟨w.heap.size,5,none⟩),.agg bA.toArray,.agg q30.toArray,.pointer (some ⟨w.heap.size + 1,0,none⟩),.agg aB.toArray,.pointer (some ⟨w.heap.size + 1,5,none⟩),.agg bB.toArray,.agg q35.toArray,.pointer (some ⟨w.heap.size + 1,0,none⟩),.agg aB.toArray,.pointer (some ⟨w.heap.size + 1,5,none⟩),.agg bB.toArray,.agg q40.toArray,.agg q25.toArray,.agg q25.toArray,.agg q43.toArray,.agg q30.toArray,.agg q30.toArray,.agg q46.toArray,v 0,v 1,v 2,v 3,v 4,v 5,undef,undef,undef,undef,undef,undef,undef,undef,undef,undef,undef,undef,undef,undef,undef,undef,undef,undef,undef,undef,undef,undef,undef,undef,undef,undef,undef,undef,undef,undef,undef],defers:=[] }) (by kernel_rfl) (by kernel_rfl) ?_
       rw [e0,e1,e2,e3,e4,e5,e6,e7]
       exact ⟨rfl,g 6,g 7,q49,q52,rfl,hQ2,hQ5,HVn⟩
     ·rintro a W4 ⟨g14,g15,q49,q52,rfl,HQ49,HQ52,HV⟩
      (try dsimp only)
      go_wp2_with (first | (refine wpList_load_row rfl 96 _ rfl (g12) rfl 96 q43.toArray (0,0) _ ?_ Tryz.underlying96 rfl (elm_info HQ43.out) ?_;exact HV.out.cell (g12,96,q43) (by simp)) | (refine wpList_load_row rfl 96 _ rfl (g13) rfl 96 q46.toArray (0,0) _ ?_ Tryz.underlying96 rfl (elm_info HQ46.out) ?_;exact HV.out.cell (g13,96,q46) (by simp)) | fail)
      refine (fsub_any q43 q46 (fM (fA (x2) (z2)) (fA (x2) (z2))) (fM (fS (x2) (z2)) (fS (x2) (z2))) W4 HQ43.out HQ46.out (HTab.out.later HV.out.bel)).mono ?_
      rintro e V5 ⟨q55,rfl,he,hb⟩
      have Hq55:Hid (Elm q55 (fS (fM (fA (x2) (z2)) (fA (x2) (z2))) (fM (fS (x2) (z2)) (fS (x2) (z2))))):=he
      have hlen:=he.len
      have hst:=elm_store V5 he
      have hV1:=(HV.out.later hb).alloc 96 q55
      obtain ⟨W5p,hW⟩:∃ W,V5.alloc (.cells q55.toArray 96) = W:=⟨_,rfl⟩
      rw [hW] at hst hV1
      replace HV:Hid (Vw w W5p [(w.heap.size,101,A),(w.heap.size + 1,101,B),(w.heap.size + 1 + 1,96,u),(w.heap.size + 1 + 1 + 1,101,zeroP),(w.heap.size + 1 + 1 + 1 + 1,101,zeroP),(g8,96,q25),(g9,96,q30),(g10,96,q35),(g11,96,q40),(g12,96,q43),(g13,96,q46),(g14,96,q49),(g15,96,q52),(V5.heap.size,96,q55)]):=hV1
      clear he hb hV1 hW
      go_wp2
      clear hst
      generalize V5.heap.size = g16 at *
      refine wp_cut (fun a W => ∃ (g17 g18:Nat) (q58 q61:List Value),a = { tmps:=#[.agg A.toArray,.agg B.toArray,.agg u.toArray,.pointer (some ⟨w.heap.size,0,none⟩),.pointer (some ⟨w.heap.size + 1,0,none⟩),.pointer (some ⟨w.heap.size + 1 + 1,0,none⟩),.pointer (some ⟨w.heap.size + 1 + 1 + 1,0,none⟩),.pointer (some ⟨w.heap.size + 1 + 1 + 1 + 1,0,none⟩),.pointer (some ⟨g8,0,none⟩),.pointer (some ⟨g9,0,none⟩),.pointer (some ⟨g10,0,none⟩),.pointer (some ⟨g11,0,none⟩),.pointer (some ⟨g12,0,none⟩),.pointer (some ⟨g13,0,none⟩),.pointer (some ⟨g14,0,none⟩),.pointer (some ⟨g15,0,none⟩),.pointer (some ⟨g16,0,none⟩),.pointer (some ⟨g17,0,none⟩),.pointer (some ⟨g18,0,none⟩),undef,undef,.pointer (some ⟨w.heap.size,0,none⟩),.agg aA.toArray,.pointer (some ⟨w.heap.size,5,none⟩),.agg bA.toArray,.agg q25.toArray,.pointer (some ⟨w.heap.size,0,none⟩),.agg aA.toArray,.pointer (some ⟨w.heap.size,5,none⟩),.agg bA.toArray,.agg q30.toArray,.pointer (some ⟨w.heap.size + 1,0,none⟩),.agg aB.toArray,.pointer (some ⟨w.heap.size + 1,5,none⟩),.agg bB.toArray,.agg q35.toArray,.pointer (some ⟨w.heap.size + 1,0,none⟩),.agg aB.toArray,.pointer (some ⟨w.heap.size + 1,5,none⟩),.agg bB.toArray,.agg q40.toArray,.agg q25.toArray,.agg q25.toArray,.agg q43.toArray,.agg q30.toArray,.agg q30.toArray,.agg q46.toArray,.agg q40.toArray,.agg q25.toArray,.agg q49.toArray,.agg q35.toArray,.agg q30.toArray,.agg q52.toArray,.agg q43.toArray,.agg q46.toArray,.agg q55.toArray,.agg q49.toArray,.agg q52.toArray,.agg q58.toArray,.agg q49.toArray,.agg q52.toArray,.agg q61.toArray,undef,undef,undef,undef,undef,undef,undef,undef,undef,undef,undef,undef,undef,undef,undef,undef,undef,undef,undef,undef,undef,undef],defers:=[] } ∧ Hid (Elm q58 (fA (fM (fS (x3) (z3)) (fA (x2) (z2))) (fM (fA (x3) (z3)) (fS (x2) (z2))))) ∧ Hid (Elm q61 (fS (fM (fS (x3) (z3)) (fA (x2) (z2))) (fM (fA (x3) (z3)) (fS (x2) (z2))))) ∧ Hid (Vw w W [(w.heap.size,101,A),(w.heap.size + 1,101,B),(w.heap.size + 1 + 1,96,u),(w.heap.size + 1 + 1 + 1,101,zeroP),(w.heap.size + 1 + 1 + 1 + 1,101,zeroP),(g8,96,q25),(g9,96,q30),(g10,96,q35),(g11,96,q40),(g12,96,q43),(g13,96,q46),(g14,96,q49),(g15,96,q52),(g16,96,q55),(g17,96,q58),(g18,96,q61)])) ?_ ?_
      ·have HVd:Hid (Vw w W5p.drew [(w.heap.size,101,A),(w.heap.size + 1,101,B),(w.heap.size + 1 + 1,96,u),(w.heap.size + 1 + 1 + 1,101,zeroP),(w.heap.size + 1 + 1 + 1 + 1,101,zeroP),(g8,96,q25),(g9,96,q30),(g10,96,q35),(g11,96,q40),(g12,96,q43),(g13,96,q46),(g14,96,q49),(g15,96,q52),(g16,96,q55)]):=HV.out.drew
       refine wp_region_elems 10 (Nat.le_refl _) (by kernel_rfl) (by kernel_rfl) (by kernel_rfl) (by kernel_rfl) [6,7] (fun p => if p = 6 then 8 else 9) (fun p => if p = 6 then 2 else 5) (plc_of (by kernel_rfl)) (fun j x' => match j with | 0 => x' = .agg q49.toArray | 1 => x' = .agg q52.toArray | 2 => ∃ c:List Value,x' = .agg c.toArray ∧ Elm c (fA (fM (fS (x3) (z3)) (fA (x2) (z2))) (fM (fA (x3) (z3)) (fS (x2) (z2)))) | 3 => x' = .agg q49.toArray | 4 => x' = .agg q52.toArray | 5 => ∃ c:List Value,x' = .agg c.toArray ∧ Elm c (fS (fM (fS (x3) (z3)) (fA (x2) (z2))) (fM (fA (x3) (z3)) (fS (x2) (z2)))) | _ => True) ?_ ?_ ?_
       ·intro p hp x' hx'
        simp only [List.mem_cons,List.not_mem_nil,or_false] at hp
        rcases hp with rfl | rfl
        ·obtain ⟨c,hc,hE⟩:=hx'
         exact ⟨c,_,hc,hE⟩
        ·obtain ⟨c,hc,hE⟩:=hx'
         exact ⟨c,_,hc,hE⟩
       ·intro d v W i o AA hi hia his ho hv hdep hA hb
        have hcs:i = 0 ∨ i = 1 ∨ i = 2 ∨ i = 3 ∨ i = 4 ∨ i = 5:=by simp at hia his;omega
        rcases hcs with rfl | rfl | rfl | rfl | rfl | rfl
        ·cases ho
         exact ⟨rfl,oper_val (exec_load_row 96 _ rfl (g14) ((hA.slot 14 (by kernel_rfl)).trans rfl) 96 _ (0,0) _ ((HVd.out.later hb).cell (g14,96,q49) (by simp)) Tryz.underlying96 rfl (elm_info HQ49.out)) ⟨_,rfl,rfl,Below.refl _ _⟩⟩
        ·cases ho
         exact ⟨rfl,oper_val (exec_load_row 96 _ rfl (g15) ((hA.slot 15 (by kernel_rfl)).trans rfl) 96 _ (0,0) _ ((HVd.out.later hb).cell (g15,96,q52) (by simp)) Tryz.underlying96 rfl (elm_info HQ52.out)) ⟨_,rfl,rfl,Below.refl _ _⟩⟩
        ·cases ho
         have h0:AA.eval (.tmp 56) = .agg q49.toArray:=(hA.new 0 56 (by decide) (dep_done hdep 0 (by kernel_rfl)) rfl (of_decide_eq_true (by kernel_rfl))).trans (hv 0 (by decide) (by decide) (dep_done hdep 0 (by kernel_rfl)) (by decide))
         have h1:AA.eval (.tmp 57) = .agg q52.toArray:=(hA.new 1 57 (by decide) (dep_done hdep 1 (by kernel_rfl)) rfl (of_decide_eq_true (by kernel_rfl))).trans (hv 1 (by decide) (by decide) (dep_done hdep 1 (by kernel_rfl)) (by decide))
         refine ⟨rfl,oper_call (exec_enter2 rfl rfl h0 h1 (by go_simp)) ((fadd_any q49 q52 (fM (fS (x3) (z3)) (fA (x2) (z2))) (fM (fA (x3) (z3)) (fS (x2) (z2))) W HQ49.out HQ52.out).mono ?_)⟩
         rintro r W' ⟨c,rfl,he,hb'⟩
         exact ⟨_,rfl,_,rfl,⟨c,rfl,he⟩,hb'⟩
        ·cases ho
         exact ⟨rfl,oper_val (exec_load_row 96 _ rfl (g14) ((hA.slot 14 (by kernel_rfl)).trans rfl) 96 _ (0,0) _ ((HVd.out.later hb).cell (g14,96,q49) (by simp)) Tryz.underlying96 rfl (elm_info HQ49.out)) ⟨_,rfl,rfl,Below.refl _ _⟩⟩
        ·cases ho
         exact ⟨rfl,oper_val (exec_load_row 96 _ rfl (g15) ((hA.slot 15 (by kernel_rfl)).trans rfl) 96 _ (0,0) _ ((HVd.out.later hb).cell (g15,96,q52) (by simp)) Tryz.underlying96 rfl (elm_info HQ52.out)) ⟨_,rfl,rfl,Below.refl _ _⟩⟩
        ·cases ho
         have h0:AA.eval (.tmp 59) = .agg q49.toArray:=(hA.new 3 59 (by decide) (dep_done hdep 3 (by kernel_rfl)) rfl (of_decide_eq_true (by kernel_rfl))).trans (hv 3 (by decide) (by decide) (dep_done hdep 3 (by kernel_rfl)) (by decide))
         have h1:AA.eval (.tmp 60) = .agg q52.toArray:=(hA.new 4 60 (by decide) (dep_done hdep 4 (by kernel_rfl)) rfl (of_decide_eq_true (by kernel_rfl))).trans (hv 4 (by decide) (by decide) (dep_done hdep 4 (by kernel_rfl)) (by decide))
         refine ⟨rfl,oper_call (exec_enter2 rfl rfl h0 h1 (by go_simp)) ((fsub_any q49 q52 (fM (fS (x3) (z3)) (fA (x2) (z2))) (fM (fA (x3) (z3)) (fS (x2) (z2))) W HQ49.out HQ52.out (HTab.out.later (HVd.out.later hb).bel)).mono ?_)⟩
         rintro r W' ⟨c,rfl,he,hb'⟩
         exact ⟨_,rfl,_,rfl,⟨c,rfl,he⟩,hb'⟩
       ·intro v g W hs hp hd hb
        have e0:v 0 = .agg q49.toArray:=hs 0 (by decide) (by decide) (by decide)
        have e1:v 1 = .agg q52.toArray:=hs 1 (by decide) (by decide) (by decide)
        obtain ⟨q58,e2,hQ2⟩:∃ c:List Value,v 2 = .agg c.toArray ∧ Elm c (fA (fM (fS (x3) (z3)) (fA (x2) (z2))) (fM (fA (x3) (z3)) (fS (x2) (z2)))):=hs 2 (by decide) (by decide) (by decide)
        have e3:v 3 = .agg q49.toArray:=hs 3 (by decide) (by decide) (by decide)
        have e4:v 4 = .agg q52.toArray:=hs 4 (by decide) (by decide) (by decide)
        obtain ⟨q61,e5,hQ5⟩:∃ c:List Value,v 5 = .agg c.toArray ∧ Elm c (fS (fM (fS (x3) (z3)) (fA (x2) (z2))) (fM (fA (x3) (z3)) (fS (x2) (z2)))):=hs 5 (by decide) (by decide) (by decide)
        obtain ⟨e6,hge6,c6',n6',hc6,hE6',hC6⟩:=hp 6 (by decide)
        obtain rfl:q58 = c6':=agg_inj (e2.symm.trans hc6)
        obtain ⟨e7,hge7,c7',n7',hc7,hE7',hC7⟩:=hp 7 (by decide)
        obtain rfl:q61 = c7':=agg_inj (e5.symm.trans hc7)
        have HVn:Vw w W ([(w.heap.size,101,A),(w.heap.size + 1,101,B),(w.heap.size + 1 + 1,96,u),(w.heap.size + 1 + 1 + 1,101,zeroP),(w.heap.size + 1 + 1 + 1 + 1,101,zeroP),(g8,96,q25),(g9,96,q30),(g10,96,q35),(g11,96,q40),(g12,96,q43),(g13,96,q46),(g14,96,q49),(g15,96,q52),(g16,96,q55)] ++ [(g 6,96,q58),(g 7,96,q61)]):=HVd.out.places hb 96 g (fun p => match p with | 6 => q58 | 7 => q61 | _ => []) [6,7] (by decide) (by
         intro p hp
         simp only [List.mem_cons,List.not_mem_nil,or_false] at hp
         rcases hp with rfl | rfl
         ·exact ⟨hge6,hC6⟩
         ·exact ⟨hge7,hC7⟩) hd
        refine wp_tail_eq (l':=[]) (a':={ tmps:=#[.agg A.toArray,.agg B.toArray,.agg u.toArray,.pointer (some ⟨w.heap.size,0,none⟩),.pointer (some ⟨w.heap.size + 1,0,none⟩),.pointer (some ⟨w.heap.size + 1 + 1,0,none⟩),.pointer (some ⟨w.heap.size + 1 + 1 + 1,0,none⟩),.pointer (some ⟨w.heap.size + 1 + 1 + 1 + 1,0,none⟩),.pointer (some ⟨g8,0,none⟩),.pointer (some ⟨g9,0,none⟩),.pointer (some ⟨g10,0,none⟩),.pointer (some ⟨g11,0,none⟩),.pointer (some ⟨g12,0,none⟩),.pointer (some ⟨g13,0,none⟩),.pointer (some ⟨g14,0,none⟩),.pointer (some ⟨g15,0,none⟩),.pointer (some ⟨g16,0,none⟩),v 6,v 7,undef,undef,.pointer (some ⟨w.heap.size,0,none⟩),.agg aA.toArray,.pointer (some ⟨w.heap.size,5,none⟩),.agg bA.toArray,.agg q25.toArray,.pointer (some ⟨w.heap.size,0,none⟩),.agg aA.toArray,.pointer (some ⟨w.heap.size,5,none⟩),.agg bA.toArray,.agg q30.toArray,.pointer (some ⟨w.heap.size + 1,0,none⟩),.agg aB.toArray,.pointer (some ⟨w.heap.size + 1,5,none⟩),.agg bB.toArray,.agg q35.toArray,.pointer (some ⟨w.heap.size + 1,0,none⟩),.agg aB.toArray,.pointer (some ⟨w.heap.size + 1,5,none⟩),.agg bB.toArray,.agg q40.toArray,.agg q25.toArray,.agg q25.toArray,.agg q43.toArray,.agg q30.toArray,.agg q30.toArray,.agg q46.toArray,.agg q40.toArray,.agg q25.toArray,.agg q49.toArray,.agg q35.toArray,.agg q30.toArray,.agg q52.toArray,.agg q43.toArray,.agg q46.toArray,.agg q55.toArray,v 0,v 1,v 2,v 3,v 4,v 5,undef,undef,undef,undef,undef,undef,undef,undef,undef,undef,undef,undef,undef,undef,undef,undef,undef,undef,undef,undef,undef,undef],defers:=[] }) (by kernel_rfl) (by kernel_rfl) ?_
        rw [e0,e1,e2,e3,e4,e5,e6,e7]
        exact ⟨rfl,g 6,g 7,q58,q61,rfl,hQ2,hQ5,HVn⟩
      ·rintro a W5 ⟨g17,g18,q58,q61,rfl,HQ58,HQ61,HV⟩
       (try dsimp only)
       go_wp2
       refine wp_cut (fun a W => ∃ (g19:Nat) (q64 q67 q69 q70 q71 q72:List Value),a = { tmps:=#[.agg A.toArray,.agg B.toArray,.agg u.toArray,.pointer (some ⟨w.heap.size,0,none⟩),.pointer (some ⟨w.heap.size + 1,0,none⟩),.pointer (some ⟨w.heap.size + 1 + 1,0,none⟩),.pointer (some ⟨w.heap.size + 1 + 1 + 1,0,none⟩),.pointer (some ⟨w.heap.size + 1 + 1 + 1 + 1,0,none⟩),.pointer (some ⟨g8,0,none⟩),.pointer (some ⟨g9,0,none⟩),.pointer (some ⟨g10,0,none⟩),.pointer (some ⟨g11,0,none⟩),.pointer (some ⟨g12,0,none⟩),.pointer (some ⟨g13,0,none⟩),.pointer (some ⟨g14,0,none⟩),.pointer (some ⟨g15,0,none⟩),.pointer (some ⟨g16,0,none⟩),.pointer (some ⟨g17,0,none⟩),.pointer (some ⟨g18,0,none⟩),.pointer (some ⟨g19,0,none⟩),undef,.pointer (some ⟨w.heap.size,0,none⟩),.agg aA.toArray,.pointer (some ⟨w.heap.size,5,none⟩),.agg bA.toArray,.agg q25.toArray,.pointer (some ⟨w.heap.size,0,none⟩),.agg aA.toArray,.pointer (some ⟨w.heap.size,5,none⟩),.agg bA.toArray,.agg q30.toArray,.pointer (some ⟨w.heap.size + 1,0,none⟩),.agg aB.toArray,.pointer (some ⟨w.heap.size + 1,5,none⟩),.agg bB.toArray,.agg q35.toArray,.pointer (some ⟨w.heap.size + 1,0,none⟩),.agg aB.toArray,.pointer (some ⟨w.heap.size + 1,5,none⟩),.agg bB.toArray,.agg q40.toArray,.agg q25.toArray,.agg q25.toArray,.agg q43.toArray,.agg q30.toArray,.agg q30.toArray,.agg q46.toArray,.agg q40.toArray,.agg q25.toArray,.agg q49.toArray,.agg q35.toArray,.agg q30.toArray,.agg q52.toArray,.agg q43.toArray,.agg q46.toArray,.agg q55.toArray,.agg q49.toArray,.agg q52.toArray,.agg q58.toArray,.agg q49.toArray,.agg q52.toArray,.agg q61.toArray,.agg q43.toArray,.agg q46.toArray,.agg q64.toArray,.agg q55.toArray,.agg q43.toArray,.agg q67.toArray,.agg q55.toArray,.agg q69.toArray,.agg q70.toArray,.agg q71.toArray,.agg q72.toArray,undef,undef,undef,undef,undef,undef,undef,undef,undef,undef,undef],defers:=[] } ∧ Hid (Elm q64 (fM (fM (fA (x2) (z2)) (fA (x2) (z2))) (fM (fS (x2) (z2)) (fS (x2) (z2))))) ∧ Hid (Elm q67 (121665)) ∧ Hid (Elm q69 (fM (121665) (fS (fM (fA (x2) (z2)) (fA (x2) (z2))) (fM (fS (x2) (z2)) (fS (x2) (z2)))))) ∧ Hid (Elm q70 (fA (fM (fA (x2) (z2)) (fA (x2) (z2))) (fM (121665) (fS (fM (fA (x2) (z2)) (fA (x2) (z2))) (fM (fS (x2) (z2)) (fS (x2) (z2))))))) ∧ Hid (Elm q71 (fM (fS (fM (fA (x2) (z2)) (fA (x2) (z2))) (fM (fS (x2) (z2)) (fS (x2) (z2)))) (fA (fM (fA (x2) (z2)) (fA (x2) (z2))) (fM (121665) (fS (fM (fA (x2) (z2)) (fA (x2) (z2))) (fM (fS (x2) (z2)) (fS (x2) (z2)))))))) ∧ Hid (PtE q72 (fM (fM (fA (x2) (z2)) (fA (x2) (z2))) (fM (fS (x2) (z2)) (fS (x2) (z2)))) (fM (fS (fM (fA (x2) (z2)) (fA (x2) (z2))) (fM (fS (x2) (z2)) (fS (x2) (z2)))) (fA (fM (fA (x2) (z2)) (fA (x2) (z2))) (fM (121665) (fS (fM (fA (x2) (z2)) (fA (x2) (z2))) (fM (fS (x2) (z2)) (fS (x2) (z2)))))))) ∧ Hid (Vw w W [(w.heap.size,101,A),(w.heap.size + 1,101,B),(w.heap.size + 1 + 1,96,u),(w.heap.size + 1 + 1 + 1,101,zeroP),(w.heap.size + 1 + 1 + 1 + 1,101,zeroP),(g8,96,q25),(g9,96,q30),(g10,96,q35),(g11,96,q40),(g12,96,q43),(g13,96,q46),(g14,96,q49),(g15,96,q52),(g16,96,q55),(g17,96,q58),(g18,96,q61),(g19,101,q72)])) ?_ ?_
       ·have HVd:Hid (Vw w W5.drew [(w.heap.size,101,A),(w.heap.size + 1,101,B),(w.heap.size + 1 + 1,96,u),(w.heap.size + 1 + 1 + 1,101,zeroP),(w.heap.size + 1 + 1 + 1 + 1,101,zeroP),(g8,96,q25),(g9,96,q30),(g10,96,q35),(g11,96,q40),(g12,96,q43),(g13,96,q46),(g14,96,q49),(g15,96,q52),(g16,96,q55),(g17,96,q58),(g18,96,q61)]):=HV.out.drew
        refine wp_region_points 13 (Nat.le_refl _) (by kernel_rfl) (by kernel_rfl) (by kernel_rfl) (by kernel_rfl) [11] (fun p => 12) (fun p => 10) (plc_ofP (by kernel_rfl)) (fun j x' => match j with | 0 => x' = .agg q43.toArray | 1 => x' = .agg q46.toArray | 2 => ∃ c:List Value,x' = .agg c.toArray ∧ Elm c (fM (fM (fA (x2) (z2)) (fA (x2) (z2))) (fM (fS (x2) (z2)) (fS (x2) (z2)))) | 3 => x' = .agg q55.toArray | 4 => x' = .agg q43.toArray | 5 => ∃ c:List Value,x' = .agg c.toArray ∧ Elm c (121665) | 6 => x' = .agg q55.toArray | 7 => ∃ c:List Value,x' = .agg c.toArray ∧ Elm c (fM (121665) (fS (fM (fA (x2) (z2)) (fA (x2) (z2))) (fM (fS (x2) (z2)) (fS (x2) (z2))))) | 8 => ∃ c:List Value,x' = .agg c.toArray ∧ Elm c (fA (fM (fA (x2) (z2)) (fA (x2) (z2))) (fM (121665) (fS (fM (fA (x2) (z2)) (fA (x2) (z2))) (fM (fS (x2) (z2)) (fS (x2) (z2)))))) | 9 => ∃ c:List Value,x' = .agg c.toArray ∧ Elm c (fM (fS (fM (fA (x2) (z2)) (fA (x2) (z2))) (fM (fS (x2) (z2)) (fS (x2) (z2)))) (fA (fM (fA (x2) (z2)) (fA (x2) (z2))) (fM (121665) (fS (fM (fA (x2) (z2)) (fA (x2) (z2))) (fM (fS (x2) (z2)) (fS (x2) (z2))))))) | 10 => ∃ c:List Value,x' = .agg c.toArray ∧ PtE c (fM (fM (fA (x2) (z2)) (fA (x2) (z2))) (fM (fS (x2) (z2)) (fS (x2) (z2)))) (fM (fS (fM (fA (x2) (z2)) (fA (x2) (z2))) (fM (fS (x2) (z2)) (fS (x2) (z2)))) (fA (fM (fA (x2) (z2)) (fA (x2) (z2))) (fM (121665) (fS (fM (fA (x2) (z2)) (fA (x2) (z2))) (fM (fS (x2) (z2)) (fS (x2) (z2))))))) | _ => True) ?_ ?_ ?_
        ·intro p hp x' hx'
         simp only [List.mem_cons,List.not_mem_nil,or_false] at hp
         subst hp
         obtain ⟨c,hc,hE⟩:=hx'
         exact ⟨c,_,hc,hE.ptc⟩
        ·intro d v W i o AA hi hia his ho hv hdep hA hb
         have hcs:i = 0 ∨ i = 1 ∨ i = 2 ∨ i = 3 ∨ i = 4 ∨ i = 5 ∨ i = 6 ∨ i = 7 ∨ i = 8 ∨ i = 9 ∨ i = 10:=by simp at hia his;omega
         rcases hcs with rfl | rfl | rfl | rfl | rfl | rfl | rfl | rfl | rfl | rfl | rfl
         ·cases ho
          exact ⟨rfl,oper_val (exec_load_row 96 _ rfl (g12) ((hA.slot 12 (by kernel_rfl)).trans rfl) 96 _ (0,0) _ ((HVd.out.later hb).cell (g12,96,q43) (by simp)) Tryz.underlying96 rfl (elm_info HQ43.out)) ⟨_,rfl,rfl,Below.refl _ _⟩⟩
         ·cases ho
          exact ⟨rfl,oper_val (exec_load_row 96 _ rfl (g13) ((hA.slot 13 (by kernel_rfl)).trans rfl) 96 _ (0,0) _ ((HVd.out.later hb).cell (g13,96,q46) (by simp)) Tryz.underlying96 rfl (elm_info HQ46.out)) ⟨_,rfl,rfl,Below.refl _ _⟩⟩
         ·cases ho
          have h0:AA.eval (.tmp 62) = .agg q43.toArray:=(hA.new 0 62 (by decide) (dep_done hdep 0 (by kernel_rfl)) rfl (of_decide_eq_true (by kernel_rfl))).trans (hv 0 (by decide) (by decide) (dep_done hdep 0 (by kernel_rfl)) (by decide))
          have h1:AA.eval (.tmp 63) = .agg q46.toArray:=(hA.new 1 63 (by decide) (dep_done hdep 1 (by kernel_rfl)) rfl (of_decide_eq_true (by kernel_rfl))).trans (hv 1 (by decide) (by decide) (dep_done hdep 1 (by kernel_rfl)) (by decide))
          refine ⟨rfl,oper_call (exec_enter2 rfl rfl h0 h1 (by go_simp)) ((fmul_any q43 q46 (fM (fA (x2) (z2)) (fA (x2) (z2))) (fM (fS (x2) (z2)) (fS (x2) (z2))) W HQ43.out HQ46.out).mono ?_)⟩
          rintro r W' ⟨c,rfl,he,hb'⟩
          exact ⟨_,rfl,_,rfl,⟨c,rfl,he⟩,hb'⟩
         ·cases ho
          exact ⟨rfl,oper_val (exec_load_row 96 _ rfl (g16) ((hA.slot 16 (by kernel_rfl)).trans rfl) 96 _ (0,0) _ ((HVd.out.later hb).cell (g16,96,q55) (by simp)) Tryz.underlying96 rfl (elm_info Hq55.out)) ⟨_,rfl,rfl,Below.refl _ _⟩⟩
         ·cases ho
          exact ⟨rfl,oper_val (exec_load_row 96 _ rfl (g12) ((hA.slot 12 (by kernel_rfl)).trans rfl) 96 _ (0,0) _ ((HVd.out.later hb).cell (g12,96,q43) (by simp)) Tryz.underlying96 rfl (elm_info HQ43.out)) ⟨_,rfl,rfl,Below.refl _ _⟩⟩
         ·cases ho
          refine ⟨rfl,oper_call (exec_enter1 (vx:=.int .u32 ((121665:Nat):Int)) rfl rfl rfl (by go_simp)) ((fsmall_any 121665 W (by decide)).mono ?_)⟩
          rintro r W' ⟨c,rfl,he,hb'⟩
          exact ⟨_,rfl,_,rfl,⟨c,rfl,he⟩,hb'⟩
         ·cases ho
          exact ⟨rfl,oper_val (exec_load_row 96 _ rfl (g16) ((hA.slot 16 (by kernel_rfl)).trans rfl) 96 _ (0,0) _ ((HVd.out.later hb).cell (g16,96,q55) (by simp)) Tryz.underlying96 rfl (elm_info Hq55.out)) ⟨_,rfl,rfl,Below.refl _ _⟩⟩
         ·cases ho
          obtain ⟨c0,hc0,hE0⟩:∃ c:List Value,v 5 = .agg c.toArray ∧ Elm c (121665):=hv 5 (by decide) (by decide) (dep_done hdep 5 (by kernel_rfl)) (by decide)
          have h0:AA.eval (.tmp 67) = .agg c0.toArray:=(hA.new 5 67 (by decide) (dep_done hdep 5 (by kernel_rfl)) rfl (of_decide_eq_true (by kernel_rfl))).trans hc0
          have h1:AA.eval (.tmp 68) = .agg q55.toArray:=(hA.new 6 68 (by decide) (dep_done hdep 6 (by kernel_rfl)) rfl (of_decide_eq_true (by kernel_rfl))).trans (hv 6 (by decide) (by decide) (dep_done hdep 6 (by kernel_rfl)) (by decide))
          refine ⟨rfl,oper_call (exec_enter2 rfl rfl h0 h1 (by go_simp)) ((fmul_any c0 q55 (121665) (fS (fM (fA (x2) (z2)) (fA (x2) (z2))) (fM (fS (x2) (z2)) (fS (x2) (z2)))) W hE0 Hq55.out).mono ?_)⟩
          rintro r W' ⟨c,rfl,he,hb'⟩
          exact ⟨_,rfl,_,rfl,⟨c,rfl,he⟩,hb'⟩
         ·cases ho
          have h0:AA.eval (.tmp 66) = .agg q43.toArray:=(hA.new 4 66 (by decide) (dep_done hdep 4 (by kernel_rfl)) rfl (of_decide_eq_true (by kernel_rfl))).trans (hv 4 (by decide) (by decide) (dep_done hdep 4 (by kernel_rfl)) (by decide))
          obtain ⟨c1,hc1,hE1⟩:∃ c:List Value,v 7 = .agg c.toArray ∧ Elm c (fM (121665) (fS (fM (fA (x2) (z2)) (fA (x2) (z2))) (fM (fS (x2) (z2)) (fS (x2) (z2))))):=hv 7 (by decide) (by decide) (dep_done hdep 7 (by kernel_rfl)) (by decide)
          have h1:AA.eval (.tmp 69) = .agg c1.toArray:=(hA.new 7 69 (by decide) (dep_done hdep 7 (by kernel_rfl)) rfl (of_decide_eq_true (by kernel_rfl))).trans hc1
          refine ⟨rfl,oper_call (exec_enter2 rfl rfl h0 h1 (by go_simp)) ((fadd_any q43 c1 (fM (fA (x2) (z2)) (fA (x2) (z2))) (fM (121665) (fS (fM (fA (x2) (z2)) (fA (x2) (z2))) (fM (fS (x2) (z2)) (fS (x2) (z2))))) W HQ43.out hE1).mono ?_)⟩
          rintro r W' ⟨c,rfl,he,hb'⟩
          exact ⟨_,rfl,_,rfl,⟨c,rfl,he⟩,hb'⟩
         ·cases ho
          have h0:AA.eval (.tmp 65) = .agg q55.toArray:=(hA.new 3 65 (by decide) (dep_done hdep 3 (by kernel_rfl)) rfl (of_decide_eq_true (by kernel_rfl))).trans (hv 3 (by decide) (by decide) (dep_done hdep 3 (by kernel_rfl)) (by decide))
          obtain ⟨c1,hc1,hE1⟩:∃ c:List Value,v 8 = .agg c.toArray ∧ Elm c (fA (fM (fA (x2) (z2)) (fA (x2) (z2))) (fM (121665) (fS (fM (fA (x2) (z2)) (fA (x2) (z2))) (fM (fS (x2) (z2)) (fS (x2) (z2)))))):=hv 8 (by decide) (by decide) (dep_done hdep 8 (by kernel_rfl)) (by decide)
          have h1:AA.eval (.tmp 70) = .agg c1.toArray:=(hA.new 8 70 (by decide) (dep_done hdep 8 (by kernel_rfl)) rfl (of_decide_eq_true (by kernel_rfl))).trans hc1
          refine ⟨rfl,oper_call (exec_enter2 rfl rfl h0 h1 (by go_simp)) ((fmul_any q55 c1 (fS (fM (fA (x2) (z2)) (fA (x2) (z2))) (fM (fS (x2) (z2)) (fS (x2) (z2)))) (fA (fM (fA (x2) (z2)) (fA (x2) (z2))) (fM (121665) (fS (fM (fA (x2) (z2)) (fA (x2) (z2))) (fM (fS (x2) (z2)) (fS (x2) (z2)))))) W Hq55.out hE1).mono ?_)⟩
          rintro r W' ⟨c,rfl,he,hb'⟩
          exact ⟨_,rfl,_,rfl,⟨c,rfl,he⟩,hb'⟩
         ·cases ho
          obtain ⟨c0,hc0,hE0⟩:∃ c:List Value,v 2 = .agg c.toArray ∧ Elm c (fM (fM (fA (x2) (z2)) (fA (x2) (z2))) (fM (fS (x2) (z2)) (fS (x2) (z2)))):=hv 2 (by decide) (by decide) (dep_done hdep 2 (by kernel_rfl)) (by decide)
          have h0:AA.eval (.tmp 64) = .agg c0.toArray:=(hA.new 2 64 (by decide) (dep_done hdep 2 (by kernel_rfl)) rfl (of_decide_eq_true (by kernel_rfl))).trans hc0
          obtain ⟨c1,hc1,hE1⟩:∃ c:List Value,v 9 = .agg c.toArray ∧ Elm c (fM (fS (fM (fA (x2) (z2)) (fA (x2) (z2))) (fM (fS (x2) (z2)) (fS (x2) (z2)))) (fA (fM (fA (x2) (z2)) (fA (x2) (z2))) (fM (121665) (fS (fM (fA (x2) (z2)) (fA (x2) (z2))) (fM (fS (x2) (z2)) (fS (x2) (z2))))))):=hv 9 (by decide) (by decide) (dep_done hdep 9 (by kernel_rfl)) (by decide)
          have h1:AA.eval (.tmp 71) = .agg c1.toArray:=(hA.new 9 71 (by decide) (dep_done hdep 9 (by kernel_rfl)) rfl (of_decide_eq_true (by kernel_rfl))).trans hc1
          exact ⟨rfl,oper_val (exec_build2 rfl h0 h1 hE0 hE1) ⟨_,rfl,⟨_,rfl,_,_,rfl,hE0,hE1⟩,Below.refl _ _⟩⟩
        ·intro v g W hs hp hd hb
         have e0:v 0 = .agg q43.toArray:=hs 0 (by decide) (by decide) (by decide)
         have e1:v 1 = .agg q46.toArray:=hs 1 (by decide) (by decide) (by decide)
         obtain ⟨q64,e2,hQ2⟩:∃ c:List Value,v 2 = .agg c.toArray ∧ Elm c (fM (fM (fA (x2) (z2)) (fA (x2) (z2))) (fM (fS (x2) (z2)) (fS (x2) (z2)))):=hs 2 (by decide) (by decide) (by decide)
         have e3:v 3 = .agg q55.toArray:=hs 3 (by decide) (by decide) (by decide)
         have e4:v 4 = .agg q43.toArray:=hs 4 (by decide) (by decide) (by decide)
         obtain ⟨q67,e5,hQ5⟩:∃ c:List Value,v 5 = .agg c.toArray ∧ Elm c (121665):=hs 5 (by decide) (by decide) (by decide)
         have e6:v 6 = .agg q55.toArray:=hs 6 (by decide) (by decide) (by decide)
         obtain ⟨q69,e7,hQ7⟩:∃ c:List Value,v 7 = .agg c.toArray ∧ Elm c (fM (121665) (fS (fM (fA (x2) (z2)) (fA (x2) (z2))) (fM (fS (x2) (z2)) (fS (x2) (z2))))):=hs 7 (by decide) (by decide) (by decide)
         obtain ⟨q70,e8,hQ8⟩:∃ c:List Value,v 8 = .agg c.toArray ∧ Elm c (fA (fM (fA (x2) (z2)) (fA (x2) (z2))) (fM (121665) (fS (fM (fA (x2) (z2)) (fA (x2) (z2))) (fM (fS (x2) (z2)) (fS (x2) (z2)))))):=hs 8 (by decide) (by decide) (by decide)
         obtain ⟨q71,e9,hQ9⟩:∃ c:List Value,v 9 = .agg c.toArray ∧ Elm c (fM (fS (fM (fA (x2) (z2)) (fA (x2) (z2))) (fM (fS (x2) (z2)) (fS (x2) (z2)))) (fA (fM (fA (x2) (z2)) (fA (x2) (z2))) (fM (121665) (fS (fM (fA (x2) (z2)) (fA (x2) (z2))) (fM (fS (x2) (z2)) (fS (x2) (z2))))))):=hs 9 (by decide) (by decide) (by decide)
         obtain ⟨q72,e10,hQ10⟩:∃ c:List Value,v 10 = .agg c.toArray ∧ PtE c (fM (fM (fA (x2) (z2)) (fA (x2) (z2))) (fM (fS (x2) (z2)) (fS (x2) (z2)))) (fM (fS (fM (fA (x2) (z2)) (fA (x2) (z2))) (fM (fS (x2) (z2)) (fS (x2) (z2)))) (fA (fM (fA (x2) (z2)) (fA (x2) (z2))) (fM (121665) (fS (fM (fA (x2) (z2)) (fA (x2) (z2))) (fM (fS (x2) (z2)) (fS (x2) (z2))))))):=hs 10 (by decide) (by decide) (by decide)
         obtain ⟨e11,hge11,c11',n11',hc11,hE11',hC11⟩:=hp 11 (by decide)
         obtain rfl:q72 = c11':=agg_inj (e10.symm.trans hc11)
         have HVn:Vw w W ([(w.heap.size,101,A),(w.heap.size + 1,101,B),(w.heap.size + 1 + 1,96,u),(w.heap.size + 1 + 1 + 1,101,zeroP),(w.heap.size + 1 + 1 + 1 + 1,101,zeroP),(g8,96,q25),(g9,96,q30),(g10,96,q35),(g11,96,q40),(g12,96,q43),(g13,96,q46),(g14,96,q49),(g15,96,q52),(g16,96,q55),(g17,96,q58),(g18,96,q61)] ++ [(g 11,101,q72)]):=HVd.out.places hb 101 g (fun p => match p with | 11 => q72 | _ => []) [11] (by decide) (by
          intro p hp
          simp only [List.mem_cons,List.not_mem_nil,or_false] at hp
          subst hp
          exact ⟨hge11,hC11⟩) hd
         refine wp_tail_eq (l':=[]) (a':={ tmps:=#[.agg A.toArray,.agg B.toArray,.agg u.toArray,.pointer (some ⟨w.heap.size,0,none⟩),.pointer (some ⟨w.heap.size + 1,0,none⟩),.pointer (some ⟨w.heap.size + 1 + 1,0,none⟩),.pointer (some ⟨w.heap.size + 1 + 1 + 1,0,none⟩),.pointer (some ⟨w.heap.size + 1 + 1 + 1 + 1,0,none⟩),.pointer (some ⟨g8,0,none⟩),.pointer (some ⟨g9,0,none⟩),.pointer (some ⟨g10,0,none⟩),.pointer (some ⟨g11,0,none⟩),.pointer (some ⟨g12,0,none⟩),.pointer (some ⟨g13,0,none⟩),.pointer (some ⟨g14,0,none⟩),.pointer (some ⟨g15,0,none⟩),.pointer (some ⟨g16,0,none⟩),.pointer (some ⟨g17,0,none⟩),.pointer (some ⟨g18,0,none⟩),v 11,undef,.pointer (some ⟨w.heap.size,0,none⟩),.agg aA.toArray,.pointer (some ⟨w.heap.size,5,none⟩),.agg bA.toArray,.agg q25.toArray,.pointer (some ⟨w.heap.size,0,none⟩),.agg aA.toArray,.pointer (some ⟨w.heap.size,5,none⟩),.agg bA.toArray,.agg q30.toArray,.pointer (some ⟨w.heap.size + 1,0,none⟩),.agg aB.toArray,.pointer (some ⟨w.heap.size + 1,5,none⟩),.agg bB.toArray,.agg q35.toArray,.pointer (some ⟨w.heap.size + 1,0,none⟩),.agg aB.toArray,.pointer (some ⟨w.heap.size + 1,5,none⟩),.agg bB.toArray,.agg q40.toArray,.agg q25.toArray,.agg q25.toArray,.agg q43.toArray,.agg q30.toArray,.agg q30.toArray,.agg q46.toArray,.agg q40.toArray,.agg q25.toArray,.agg q49.toArray,.agg q35.toArray,.agg q30.toArray,.agg q52.toArray,.agg q43.toArray,.agg q46.toArray,.agg q55.toArray,.agg q49.toArray,.agg q52.toArray,.agg q58.toArray,.agg q49.toArray,.agg q52.toArray,.agg q61.toArray,v 0,v 1,v 2,v 3,v 4,v 5,v 6,v 7,v 8,v 9,v 10,undef,undef,undef,undef,undef,undef,undef,undef,undef,undef,undef],defers:=[] }) (by kernel_rfl) (by kernel_rfl) ?_
         rw [e0,e1,e2,e3,e4,e5,e6,e7,e8,e9,e10,e11]
         exact ⟨rfl,g 11,q64,q67,q69,q70,q71,q72,rfl,hQ2,hQ5,hQ7,hQ8,hQ9,hQ10,HVn⟩
       ·rintro a W6 ⟨g19,q64,q67,q69,q70,q71,q72,rfl,HQ64,HQ67,HQ69,HQ70,HQ71,HQ72,HV⟩
        (try dsimp only)
        go_wp2
        refine wp_cut (fun a W => ∃ (g20:Nat) (q75 q79 q80 q81:List Value),a = { tmps:=#[.agg A.toArray,.agg B.toArray,.agg u.toArray,.pointer (some ⟨w.heap.size,0,none⟩),.pointer (some ⟨w.heap.size + 1,0,none⟩),.pointer (some ⟨w.heap.size + 1 + 1,0,none⟩),.pointer (some ⟨w.heap.size + 1 + 1 + 1,0,none⟩),.pointer (some ⟨w.heap.size + 1 + 1 + 1 + 1,0,none⟩),.pointer (some ⟨g8,0,none⟩),.pointer (some ⟨g9,0,none⟩),.pointer (some ⟨g10,0,none⟩),.pointer (some ⟨g11,0,none⟩),.pointer (some ⟨g12,0,none⟩),.pointer (some ⟨g13,0,none⟩),.pointer (some ⟨g14,0,none⟩),.pointer (some ⟨g15,0,none⟩),.pointer (some ⟨g16,0,none⟩),.pointer (some ⟨g17,0,none⟩),.pointer (some ⟨g18,0,none⟩),.pointer (some ⟨g19,0,none⟩),.pointer (some ⟨g20,0,none⟩),.pointer (some ⟨w.heap.size,0,none⟩),.agg aA.toArray,.pointer (some ⟨w.heap.size,5,none⟩),.agg bA.toArray,.agg q25.toArray,.pointer (some ⟨w.heap.size,0,none⟩),.agg aA.toArray,.pointer (some ⟨w.heap.size,5,none⟩),.agg bA.toArray,.agg q30.toArray,.pointer (some ⟨w.heap.size + 1,0,none⟩),.agg aB.toArray,.pointer (some ⟨w.heap.size + 1,5,none⟩),.agg bB.toArray,.agg q35.toArray,.pointer (some ⟨w.heap.size + 1,0,none⟩),.agg aB.toArray,.pointer (some ⟨w.heap.size + 1,5,none⟩),.agg bB.toArray,.agg q40.toArray,.agg q25.toArray,.agg q25.toArray,.agg q43.toArray,.agg q30.toArray,.agg q30.toArray,.agg q46.toArray,.agg q40.toArray,.agg q25.toArray,.agg q49.toArray,.agg q35.toArray,.agg q30.toArray,.agg q52.toArray,.agg q43.toArray,.agg q46.toArray,.agg q55.toArray,.agg q49.toArray,.agg q52.toArray,.agg q58.toArray,.agg q49.toArray,.agg q52.toArray,.agg q61.toArray,.agg q43.toArray,.agg q46.toArray,.agg q64.toArray,.agg q55.toArray,.agg q43.toArray,.agg q67.toArray,.agg q55.toArray,.agg q69.toArray,.agg q70.toArray,.agg q71.toArray,.agg q72.toArray,.agg q58.toArray,.agg q58.toArray,.agg q75.toArray,.agg u.toArray,.agg q61.toArray,.agg q61.toArray,.agg q79.toArray,.agg q80.toArray,.agg q81.toArray,undef,undef],defers:=[] } ∧ Hid (Elm q75 (fM (fA (fM (fS (x3) (z3)) (fA (x2) (z2))) (fM (fA (x3) (z3)) (fS (x2) (z2)))) (fA (fM (fS (x3) (z3)) (fA (x2) (z2))) (fM (fA (x3) (z3)) (fS (x2) (z2)))))) ∧ Hid (Elm q79 (fM (fS (fM (fS (x3) (z3)) (fA (x2) (z2))) (fM (fA (x3) (z3)) (fS (x2) (z2)))) (fS (fM (fS (x3) (z3)) (fA (x2) (z2))) (fM (fA (x3) (z3)) (fS (x2) (z2)))))) ∧ Hid (Elm q80 (fM (U) (fM (fS (fM (fS (x3) (z3)) (fA (x2) (z2))) (fM (fA (x3) (z3)) (fS (x2) (z2)))) (fS (fM (fS (x3) (z3)) (fA (x2) (z2))) (fM (fA (x3) (z3)) (fS (x2) (z2))))))) ∧ Hid (PtE q81 (fM (fA (fM (fS (x3) (z3)) (fA (x2) (z2))) (fM (fA (x3) (z3)) (fS (x2) (z2)))) (fA (fM (fS (x3) (z3)) (fA (x2) (z2))) (fM (fA (x3) (z3)) (fS (x2) (z2))))) (fM (U) (fM (fS (fM (fS (x3) (z3)) (fA (x2) (z2))) (fM (fA (x3) (z3)) (fS (x2) (z2)))) (fS (fM (fS (x3) (z3)) (fA (x2) (z2))) (fM (fA (x3) (z3)) (fS (x2) (z2))))))) ∧ Hid (Vw w W [(w.heap.size,101,A),(w.heap.size + 1,101,B),(w.heap.size + 1 + 1,96,u),(w.heap.size + 1 + 1 + 1,101,zeroP),(w.heap.size + 1 + 1 + 1 + 1,101,zeroP),(g8,96,q25),(g9,96,q30),(g10,96,q35),(g11,96,q40),(g12,96,q43),(g13,96,q46),(g14,96,q49),(g15,96,q52),(g16,96,q55),(g17,96,q58),(g18,96,q61),(g19,101,q72),(g20,101,q81)])) ?_ ?_
        ·have HVd:Hid (Vw w W6.drew [(w.heap.size,101,A),(w.heap.size + 1,101,B),(w.heap.size + 1 + 1,96,u),(w.heap.size + 1 + 1 + 1,101,zeroP),(w.heap.size + 1 + 1 + 1 + 1,101,zeroP),(g8,96,q25),(g9,96,q30),(g10,96,q35),(g11,96,q40),(g12,96,q43),(g13,96,q46),(g14,96,q49),(g15,96,q52),(g16,96,q55),(g17,96,q58),(g18,96,q61),(g19,101,q72)]):=HV.out.drew
         refine wp_region_points 11 (Nat.le_refl _) (by kernel_rfl) (by kernel_rfl) (by kernel_rfl) (by kernel_rfl) [9] (fun p => 10) (fun p => 8) (plc_ofP (by kernel_rfl)) (fun j x' => match j with | 0 => x' = .agg q58.toArray | 1 => x' = .agg q58.toArray | 2 => ∃ c:List Value,x' = .agg c.toArray ∧ Elm c (fM (fA (fM (fS (x3) (z3)) (fA (x2) (z2))) (fM (fA (x3) (z3)) (fS (x2) (z2)))) (fA (fM (fS (x3) (z3)) (fA (x2) (z2))) (fM (fA (x3) (z3)) (fS (x2) (z2))))) | 3 => x' = .agg u.toArray | 4 => x' = .agg q61.toArray | 5 => x' = .agg q61.toArray | 6 => ∃ c:List Value,x' = .agg c.toArray ∧ Elm c (fM (fS (fM (fS (x3) (z3)) (fA (x2) (z2))) (fM (fA (x3) (z3)) (fS (x2) (z2)))) (fS (fM (fS (x3) (z3)) (fA (x2) (z2))) (fM (fA (x3) (z3)) (fS (x2) (z2))))) | 7 => ∃ c:List Value,x' = .agg c.toArray ∧ Elm c (fM (U) (fM (fS (fM (fS (x3) (z3)) (fA (x2) (z2))) (fM (fA (x3) (z3)) (fS (x2) (z2)))) (fS (fM (fS (x3) (z3)) (fA (x2) (z2))) (fM (fA (x3) (z3)) (fS (x2) (z2)))))) | 8 => ∃ c:List Value,x' = .agg c.toArray ∧ PtE c (fM (fA (fM (fS (x3) (z3)) (fA (x2) (z2))) (fM (fA (x3) (z3)) (fS (x2) (z2)))) (fA (fM (fS (x3) (z3)) (fA (x2) (z2))) (fM (fA (x3) (z3)) (fS (x2) (z2))))) (fM (U) (fM (fS (fM (fS (x3) (z3)) (fA (x2) (z2))) (fM (fA (x3) (z3)) (fS (x2) (z2)))) (fS (fM (fS (x3) (z3)) (fA (x2) (z2))) (fM (fA (x3) (z3)) (fS (x2) (z2)))))) | _ => True) ?_ ?_ ?_
         ·intro p hp x' hx'
          simp only [List.mem_cons,List.not_mem_nil,or_false] at hp
          subst hp
          obtain ⟨c,hc,hE⟩:=hx'
          exact ⟨c,_,hc,hE.ptc⟩
         ·intro d v W i o AA hi hia his ho hv hdep hA hb
          have hcs:i = 0 ∨ i = 1 ∨ i = 2 ∨ i = 3 ∨ i = 4 ∨ i = 5 ∨ i = 6 ∨ i = 7 ∨ i = 8:=by simp at hia his;omega
          rcases hcs with rfl | rfl | rfl | rfl | rfl | rfl | rfl | rfl | rfl
          ·cases ho
           exact ⟨rfl,oper_val (exec_load_row 96 _ rfl (g17) ((hA.slot 17 (by kernel_rfl)).trans rfl) 96 _ (0,0) _ ((HVd.out.later hb).cell (g17,96,q58) (by simp)) Tryz.underlying96 rfl (elm_info HQ58.out)) ⟨_,rfl,rfl,Below.refl _ _⟩⟩
          ·cases ho
           exact ⟨rfl,oper_val (exec_load_row 96 _ rfl (g17) ((hA.slot 17 (by kernel_rfl)).trans rfl) 96 _ (0,0) _ ((HVd.out.later hb).cell (g17,96,q58) (by simp)) Tryz.underlying96 rfl (elm_info HQ58.out)) ⟨_,rfl,rfl,Below.refl _ _⟩⟩
          ·cases ho
           have h0:AA.eval (.tmp 73) = .agg q58.toArray:=(hA.new 0 73 (by decide) (dep_done hdep 0 (by kernel_rfl)) rfl (of_decide_eq_true (by kernel_rfl))).trans (hv 0 (by decide) (by decide) (dep_done hdep 0 (by kernel_rfl)) (by decide))
           have h1:AA.eval (.tmp 74) = .agg q58.toArray:=(hA.new 1 74 (by decide) (dep_done hdep 1 (by kernel_rfl)) rfl (of_decide_eq_true (by kernel_rfl))).trans (hv 1 (by decide) (by decide) (dep_done hdep 1 (by kernel_rfl)) (by decide))
           refine ⟨rfl,oper_call (exec_enter2 rfl rfl h0 h1 (by go_simp)) ((fmul_any q58 q58 (fA (fM (fS (x3) (z3)) (fA (x2) (z2))) (fM (fA (x3) (z3)) (fS (x2) (z2)))) (fA (fM (fS (x3) (z3)) (fA (x2) (z2))) (fM (fA (x3) (z3)) (fS (x2) (z2)))) W HQ58.out HQ58.out).mono ?_)⟩
           rintro r W' ⟨c,rfl,he,hb'⟩
           exact ⟨_,rfl,_,rfl,⟨c,rfl,he⟩,hb'⟩
          ·cases ho
           exact ⟨rfl,oper_val (exec_load_row 96 _ rfl (w.heap.size + 1 + 1) ((hA.slot 5 (by kernel_rfl)).trans rfl) 96 _ (0,0) _ ((HVd.out.later hb).cell (w.heap.size + 1 + 1,96,u) (by simp)) Tryz.underlying96 rfl (elm_info HU.out)) ⟨_,rfl,rfl,Below.refl _ _⟩⟩
          ·cases ho
           exact ⟨rfl,oper_val (exec_load_row 96 _ rfl (g18) ((hA.slot 18 (by kernel_rfl)).trans rfl) 96 _ (0,0) _ ((HVd.out.later hb).cell (g18,96,q61) (by simp)) Tryz.underlying96 rfl (elm_info HQ61.out)) ⟨_,rfl,rfl,Below.refl _ _⟩⟩
          ·cases ho
           exact ⟨rfl,oper_val (exec_load_row 96 _ rfl (g18) ((hA.slot 18 (by kernel_rfl)).trans rfl) 96 _ (0,0) _ ((HVd.out.later hb).cell (g18,96,q61) (by simp)) Tryz.underlying96 rfl (elm_info HQ61.out)) ⟨_,rfl,rfl,Below.refl _ _⟩⟩
          ·cases ho
           have h0:AA.eval (.tmp 77) = .agg q61.toArray:=(hA.new 4 77 (by decide) (dep_done hdep 4 (by kernel_rfl)) rfl (of_decide_eq_true (by kernel_rfl))).trans (hv 4 (by decide) (by decide) (dep_done hdep 4 (by kernel_rfl)) (by decide))
           have h1:AA.eval (.tmp 78) = .agg q61.toArray:=(hA.new 5 78 (by decide) (dep_done hdep 5 (by kernel_rfl)) rfl (of_decide_eq_true (by kernel_rfl))).trans (hv 5 (by decide) (by decide) (dep_done hdep 5 (by kernel_rfl)) (by decide))
           refine ⟨rfl,oper_call (exec_enter2 rfl rfl h0 h1 (by go_simp)) ((fmul_any q61 q61 (fS (fM (fS (x3) (z3)) (fA (x2) (z2))) (fM (fA (x3) (z3)) (fS (x2) (z2)))) (fS (fM (fS (x3) (z3)) (fA (x2) (z2))) (fM (fA (x3) (z3)) (fS (x2) (z2)))) W HQ61.out HQ61.out).mono ?_)⟩
           rintro r W' ⟨c,rfl,he,hb'⟩
           exact ⟨_,rfl,_,rfl,⟨c,rfl,he⟩,hb'⟩
          ·cases ho
           have h0:AA.eval (.tmp 76) = .agg u.toArray:=(hA.new 3 76 (by decide) (dep_done hdep 3 (by kernel_rfl)) rfl (of_decide_eq_true (by kernel_rfl))).trans (hv 3 (by decide) (by decide) (dep_done hdep 3 (by kernel_rfl)) (by decide))
           obtain ⟨c1,hc1,hE1⟩:∃ c:List Value,v 6 = .agg c.toArray ∧ Elm c (fM (fS (fM (fS (x3) (z3)) (fA (x2) (z2))) (fM (fA (x3) (z3)) (fS (x2) (z2)))) (fS (fM (fS (x3) (z3)) (fA (x2) (z2))) (fM (fA (x3) (z3)) (fS (x2) (z2))))):=hv 6 (by decide) (by decide) (dep_done hdep 6 (by kernel_rfl)) (by decide)
           have h1:AA.eval (.tmp 79) = .agg c1.toArray:=(hA.new 6 79 (by decide) (dep_done hdep 6 (by kernel_rfl)) rfl (of_decide_eq_true (by kernel_rfl))).trans hc1
           refine ⟨rfl,oper_call (exec_enter2 rfl rfl h0 h1 (by go_simp)) ((fmul_any u c1 (U) (fM (fS (fM (fS (x3) (z3)) (fA (x2) (z2))) (fM (fA (x3) (z3)) (fS (x2) (z2)))) (fS (fM (fS (x3) (z3)) (fA (x2) (z2))) (fM (fA (x3) (z3)) (fS (x2) (z2))))) W HU.out hE1).mono ?_)⟩
           rintro r W' ⟨c,rfl,he,hb'⟩
           exact ⟨_,rfl,_,rfl,⟨c,rfl,he⟩,hb'⟩
          ·cases ho
           obtain ⟨c0,hc0,hE0⟩:∃ c:List Value,v 2 = .agg c.toArray ∧ Elm c (fM (fA (fM (fS (x3) (z3)) (fA (x2) (z2))) (fM (fA (x3) (z3)) (fS (x2) (z2)))) (fA (fM (fS (x3) (z3)) (fA (x2) (z2))) (fM (fA (x3) (z3)) (fS (x2) (z2))))):=hv 2 (by decide) (by decide) (dep_done hdep 2 (by kernel_rfl)) (by decide)
           have h0:AA.eval (.tmp 75) = .agg c0.toArray:=(hA.new 2 75 (by decide) (dep_done hdep 2 (by kernel_rfl)) rfl (of_decide_eq_true (by kernel_rfl))).trans hc0
           obtain ⟨c1,hc1,hE1⟩:∃ c:List Value,v 7 = .agg c.toArray ∧ Elm c (fM (U) (fM (fS (fM (fS (x3) (z3)) (fA (x2) (z2))) (fM (fA (x3) (z3)) (fS (x2) (z2)))) (fS (fM (fS (x3) (z3)) (fA (x2) (z2))) (fM (fA (x3) (z3)) (fS (x2) (z2)))))):=hv 7 (by decide) (by decide) (dep_done hdep 7 (by kernel_rfl)) (by decide)
           have h1:AA.eval (.tmp 80) = .agg c1.toArray:=(hA.new 7 80 (by decide) (dep_done hdep 7 (by kernel_rfl)) rfl (of_decide_eq_true (by kernel_rfl))).trans hc1
           exact ⟨rfl,oper_val (exec_build2 rfl h0 h1 hE0 hE1) ⟨_,rfl,⟨_,rfl,_,_,rfl,hE0,hE1⟩,Below.refl _ _⟩⟩
         ·intro v g W hs hp hd hb
          have e0:v 0 = .agg q58.toArray:=hs 0 (by decide) (by decide) (by decide)
          have e1:v 1 = .agg q58.toArray:=hs 1 (by decide) (by decide) (by decide)
          obtain ⟨q75,e2,hQ2⟩:∃ c:List Value,v 2 = .agg c.toArray ∧ Elm c (fM (fA (fM (fS (x3) (z3)) (fA (x2) (z2))) (fM (fA (x3) (z3)) (fS (x2) (z2)))) (fA (fM (fS (x3) (z3)) (fA (x2) (z2))) (fM (fA (x3) (z3)) (fS (x2) (z2))))):=hs 2 (by decide) (by decide) (by decide)
          have e3:v 3 = .agg u.toArray:=hs 3 (by decide) (by decide) (by decide)
          have e4:v 4 = .agg q61.toArray:=hs 4 (by decide) (by decide) (by decide)
          have e5:v 5 = .agg q61.toArray:=hs 5 (by decide) (by decide) (by decide)
          obtain ⟨q79,e6,hQ6⟩:∃ c:List Value,v 6 = .agg c.toArray ∧ Elm c (fM (fS (fM (fS (x3) (z3)) (fA (x2) (z2))) (fM (fA (x3) (z3)) (fS (x2) (z2)))) (fS (fM (fS (x3) (z3)) (fA (x2) (z2))) (fM (fA (x3) (z3)) (fS (x2) (z2))))):=hs 6 (by decide) (by decide) (by decide)
          obtain ⟨q80,e7,hQ7⟩:∃ c:List Value,v 7 = .agg c.toArray ∧ Elm c (fM (U) (fM (fS (fM (fS (x3) (z3)) (fA (x2) (z2))) (fM (fA (x3) (z3)) (fS (x2) (z2)))) (fS (fM (fS (x3) (z3)) (fA (x2) (z2))) (fM (fA (x3) (z3)) (fS (x2) (z2)))))):=hs 7 (by decide) (by decide) (by decide)
          obtain ⟨q81,e8,hQ8⟩:∃ c:List Value,v 8 = .agg c.toArray ∧ PtE c (fM (fA (fM (fS (x3) (z3)) (fA (x2) (z2))) (fM (fA (x3) (z3)) (fS (x2) (z2)))) (fA (fM (fS (x3) (z3)) (fA (x2) (z2))) (fM (fA (x3) (z3)) (fS (x2) (z2))))) (fM (U) (fM (fS (fM (fS (x3) (z3)) (fA (x2) (z2))) (fM (fA (x3) (z3)) (fS (x2) (z2)))) (fS (fM (fS (x3) (z3)) (fA (x2) (z2))) (fM (fA (x3) (z3)) (fS (x2) (z2)))))):=hs 8 (by decide) (by decide) (by decide)
          obtain ⟨e9,hge9,c9',n9',hc9,hE9',hC9⟩:=hp 9 (by decide)
          obtain rfl:q81 = c9':=agg_inj (e8.symm.trans hc9)
          have HVn:Vw w W ([(w.heap.size,101,A),(w.heap.size + 1,101,B),(w.heap.size + 1 + 1,96,u),(w.heap.size + 1 + 1 + 1,101,zeroP),(w.heap.size + 1 + 1 + 1 + 1,101,zeroP),(g8,96,q25),(g9,96,q30),(g10,96,q35),(g11,96,q40),(g12,96,q43),(g13,96,q46),(g14,96,q49),(g15,96,q52),(g16,96,q55),(g17,96,q58),(g18,96,q61),(g19,101,q72)] ++ [(g 9,101,q81)]):=HVd.out.places hb 101 g (fun p => match p with | 9 => q81 | _ => []) [9] (by decide) (by
           intro p hp
           simp only [List.mem_cons,List.not_mem_nil,or_false] at hp
           subst hp
           exact ⟨hge9,hC9⟩) hd
          refine wp_tail_eq (l':=[]) (a':={ tmps:=#[.agg A.toArray,.agg B.toArray,.agg u.toArray,.pointer (some ⟨w.heap.size,0,none⟩),.pointer (some ⟨w.heap.size + 1,0,none⟩),.pointer (some ⟨w.heap.size + 1 + 1,0,none⟩),.pointer (some ⟨w.heap.size + 1 + 1 + 1,0,none⟩),.pointer (some ⟨w.heap.size + 1 + 1 + 1 + 1,0,none⟩),.pointer (some ⟨g8,0,none⟩),.pointer (some ⟨g9,0,none⟩),.pointer (some ⟨g10,0,none⟩),.pointer (some ⟨g11,0,none⟩),.pointer (some ⟨g12,0,none⟩),.pointer (some ⟨g13,0,none⟩),.pointer (some ⟨g14,0,none⟩),.pointer (some ⟨g15,0,none⟩),.pointer (some ⟨g16,0,none⟩),.pointer (some ⟨g17,0,none⟩),.pointer (some ⟨g18,0,none⟩),.pointer (some ⟨g19,0,none⟩),v 9,.pointer (some ⟨w.heap.size,0,none⟩),.agg aA.toArray,.pointer (some ⟨w.heap.size,5,none⟩),.agg bA.toArray,.agg q25.toArray,.pointer (some ⟨w.heap.size,0,none⟩),.agg aA.toArray,.pointer (some ⟨w.heap.size,5,none⟩),.agg bA.toArray,.agg q30.toArray,.pointer (some ⟨w.heap.size + 1,0,none⟩),.agg aB.toArray,.pointer (some ⟨w.heap.size + 1,5,none⟩),.agg bB.toArray,.agg q35.toArray,.pointer (some ⟨w.heap.size + 1,0,none⟩),.agg aB.toArray,.pointer (some ⟨w.heap.size + 1,5,none⟩),.agg bB.toArray,.agg q40.toArray,.agg q25.toArray,.agg q25.toArray,.agg q43.toArray,.agg q30.toArray,.agg q30.toArray,.agg q46.toArray,.agg q40.toArray,.agg q25.toArray,.agg q49.toArray,.agg q35.toArray,.agg q30.toArray,.agg q52.toArray,.agg q43.toArray,.agg q46.toArray,.agg q55.toArray,.agg q49.toArray,.agg q52.toArray,.agg q58.toArray,.agg q49.toArray,.agg q52.toArray,.agg q61.toArray,.agg q43.toArray,.agg q46.toArray,.agg q64.toArray,.agg q55.toArray,.agg q43.toArray,.agg q67.toArray,.agg q55.toArray,.agg q69.toArray,.agg q70.toArray,.agg q71.toArray,.agg q72.toArray,v 0,v 1,v 2,v 3,v 4,v 5,v 6,v 7,v 8,undef,undef],defers:=[] }) (by kernel_rfl) (by kernel_rfl) ?_
          rw [e0,e1,e2,e3,e4,e5,e6,e7,e8,e9]
          exact ⟨rfl,g 9,q75,q79,q80,q81,rfl,hQ2,hQ6,hQ7,hQ8,HVn⟩
        ·rintro a W7 ⟨g20,q75,q79,q80,q81,rfl,HQ75,HQ79,HQ80,HQ81,HV⟩
         (try dsimp only)
         go_wp2
         have HC:Hid (PtE q72 (nX2 x2 z2) (nZ2 x2 z2)):=HQ72.out
         have HD:Hid (PtE q81 (nX3 x2 z2 x3 z3) (nZ3 U x2 z2 x3 z3)):=HQ81.out
         have hVd:=HV.out.drew
         obtain ⟨Wd,hWd⟩:∃ W,W7.drew = W:=⟨_,rfl⟩
         rw [hWd] at hVd
         have HWd:Hid (W7.drew = Wd):=hWd
         have CP:Hid (Wd.heap[g19]? = some (.cells q72.toArray 101 (0,0))):=hVd.cell (g19,101,q72) (by simp)
         have CQ:Hid (Wd.heap[g20]? = some (.cells q81.toArray 101 (0,0))):=hVd.cell (g20,101,q81) (by simp)
         have hlA:=HC.out.ptc.len
         have hlB:=HD.out.ptc.len
         have hst1:=store_row Wd (w.heap.size + 1 + 1 + 1) _ _ q72 (hVd.cell (w.heap.size + 1 + 1 + 1,101,zeroP) (by simp)) (by rw [HC.out.ptc.len];rfl) HC.out.ptc.one
         have hV1:=hVd.put 3 (w.heap.size + 1 + 1 + 1) 101 zeroP q72 rfl
         obtain ⟨X1,hX1⟩:∃ X,Wd.setRow (w.heap.size + 1 + 1 + 1) q72.toArray = X:=⟨_,rfl⟩
         rw [hX1] at hst1 hV1
         have hst2:=store_row X1 (w.heap.size + 1 + 1 + 1 + 1) _ _ q81 (hV1.cell (w.heap.size + 1 + 1 + 1 + 1,101,zeroP) (by simp)) (by rw [HD.out.ptc.len];rfl) HD.out.ptc.one
         have hV2:=hV1.put 4 (w.heap.size + 1 + 1 + 1 + 1) 101 zeroP q81 rfl
         obtain ⟨X2,hX2⟩:∃ X,X1.setRow (w.heap.size + 1 + 1 + 1 + 1) q81.toArray = X:=⟨_,rfl⟩
         rw [hX2] at hst2 hV2
         have G1:Hid (X1.heap[g19]? = Wd.heap[g19]? ∧ X1.heap[g20]? = Wd.heap[g20]?):=⟨by rw [hV1.cell (g19,101,q72) (by simp),CP.out],by rw [hV1.cell (g20,101,q81) (by simp),CQ.out]⟩
         have G2:Hid (X2.heap[g19]? = X1.heap[g19]? ∧ X2.heap[g20]? = X1.heap[g20]?):=⟨by rw [hV2.cell (g19,101,q72) (by simp),hV1.cell (g19,101,q72) (by simp)],by rw [hV2.cell (g20,101,q81) (by simp),hV1.cell (g20,101,q81) (by simp)]⟩
         have R1:Hid (X2.heap[w.heap.size + 1 + 1 + 1]? = some (.cells q72.toArray 101 (0,0))):=hV2.cell (w.heap.size + 1 + 1 + 1,101,q72) (by simp)
         have R2:Hid (X2.heap[w.heap.size + 1 + 1 + 1 + 1]? = some (.cells q81.toArray 101 (0,0))):=hV2.cell (w.heap.size + 1 + 1 + 1 + 1,101,q81) (by simp)
         have HBel:Hid (Below w.heap.size w X2):=hV2.bel
         clear hVd hV1 hV2 hX1 hX2 hWd HV
         refine wp_region_sched' (G:=fun X Y => Y.heap[g19]? = X.heap[g19]? ∧ Y.heap[g20]? = X.heap[g20]?) (by kernel_rfl) (fun _ => ⟨rfl,rfl⟩) (fun _ _ _ h k => ⟨k.1.trans h.1,k.2.trans h.2⟩) (by kernel_rfl) [(0,true),(1,true),(2,false),(3,false)] rfl (by kernel_rfl) ?_
         intro KK hKK
         rw [HWd.out]
         clear HWd
         refine sched_take rfl (by rfl) (v:=.agg q72.toArray) (fun w' hw' => exec_load_row 101 _ rfl (g19) rfl 101 _ (0,0) _ (hw'.1.trans CP.out) Tryz.underlying101 rfl (pt_info HC.out.ptc)) ?_
         go_simp
         refine sched_take rfl (by rfl) (v:=.agg q81.toArray) (fun w' hw' => exec_load_row 101 _ rfl (g20) rfl 101 _ (0,0) _ (hw'.2.trans CQ.out) Tryz.underlying101 rfl (pt_info HD.out.ptc)) ?_
         go_simp
         refine sched_put rfl (by rfl) (w':=X1) (by go_simp) G1.out ?_
         go_simp
         refine sched_put rfl (by rfl) (w':=X2) (by go_simp) G2.out ?_
         clear hst1 hst2
         go_simp
         refine sched_done hKK ?_
         clear hKK
         (try go_wp2)
         (try simp only [Exit.inBlock,Exit.then])
         refine bodyPost_ret (results_both rfl _ _ (w.heap.size + 1 + 1 + 1) (w.heap.size + 1 + 1 + 1 + 1) 101 _ _ _ rfl rfl R1.out R2.out Tryz.underlying101 rfl (pt_info HC.out.ptc) (pt_info HD.out.ptc)) rfl ?_
         exact ⟨q72,q81,rfl,HC.out,HD.out,HBel.out⟩
end Go.Proofs.YthmkhdnnljdglaaGreatDoor
