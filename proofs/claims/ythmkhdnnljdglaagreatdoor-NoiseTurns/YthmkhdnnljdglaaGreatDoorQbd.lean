import Derived.Test.YthmkhdnnljdglaaGreatDoorQba
import Derived.Test.YthmkhdnnljdglaaGreatDoorQas
namespace Go.Proofs.YthmkhdnnljdglaaGreatDoor
set_option linter.unusedVariables false
set_option maxRecDepth 100000
open Go.RowKit
theorem pw_add (x a b c:Nat) (h:a + b = c):pw x a * pw x b % P255 = pw x c:=by rw [pw_mul,h]
set_option maxHeartbeats 8000000 in
set_option maxRecDepth 100000 in
theorem finv_any (A:List Value) (x:Nat) (w:World) (hA:Elm A x) :
  Calls Tryz.prog 60 #[.agg A.toArray] w fun e w' => ∃ cs,e = .returned (.agg cs.toArray) ∧ Elm cs (finv x) ∧ Below w.heap.size w w':=by
 rw [pw_inv x _ E255_num]
 have HE1:Hid (Elm A (pw x 1)):=by rw [pw_one x hA.lt];exact hA
 clear hA
 have HV0:Hid (Vr ((w.alloc (.cells A.toArray 96)).alloc (.cells zeroE.toArray 96)) [(w.heap.size + 1,96,zeroE),(w.heap.size,96,A)]):=by
  have h1:=(Cel.new w A).later ((Below.refl _ _).alloc (Nat.le_refl _) (.cells zeroE.toArray 96))
  have h2:=Cel.new (w.alloc (.cells A.toArray 96)) zeroE
  rw [World.size_alloc] at h2
  refine ⟨fun p hp => ?_,by simp⟩
  simp only [List.mem_cons,List.not_mem_nil,or_false] at hp
  rcases hp with rfl | rfl
  ·exact h2
  ·exact h1
 have HW0:Hid (Below w.heap.size w ((w.alloc (.cells A.toArray 96)).alloc (.cells zeroE.toArray 96))):=((Below.refl _ _).alloc (Nat.le_refl _) _).alloc (by simp) _
 go_enter Tryz.func60,Tryz.ntmps60
 go_wp2
 refine from_world (P:=Code.wp Tryz.prog _ _ _) (R:=fun W => Hid (Vr W [(w.heap.size + 1,96,zeroE),(w.heap.size,96,A)]) ∧ Hid (Below w.heap.size w W)) _ ⟨HV0,HW0⟩ ?_
 rintro W0 ⟨HV,HW⟩
 clear HV0 HW0
 refine wp_cut (fun a W => ∃ (g3:Nat) (q3 c3:List Value),a = { tmps:=#[.agg A.toArray,.pointer (some ⟨w.heap.size,0,none⟩),.pointer (some ⟨w.heap.size + 1,0,none⟩),.pointer (some ⟨g3,0,none⟩),undef,undef,undef,undef,undef,undef,undef,undef,undef,.agg A.toArray,.agg q3.toArray,.agg A.toArray,.agg c3.toArray,undef,undef,undef,undef,undef,undef,undef,undef,undef,undef,undef,undef,undef,undef,undef,undef,undef,undef,undef,undef,undef,undef,undef,undef,undef,undef,undef,undef,undef,undef,undef,undef,undef,undef,undef,undef,undef,undef,undef,undef],defers:=[] } ∧ Hid (Elm c3 (pw x 9)) ∧ Hid (Vr W [(w.heap.size + 1,96,zeroE),(w.heap.size,96,A),(g3,96,c3)]) ∧ Hid (Below w.heap.size w W)) ?_ ?_
 ·have HVd:Hid (Vr W0.drew [(w.heap.size + 1,96,zeroE),(w.heap.size,96,A)]):=HV.out.later ((Below.refl _ _).drew)
  have HWd:Hid (Below w.heap.size w W0.drew):=HW.out.drew
  refine wp_region_elems 6 (Nat.le_refl _) (by kernel_rfl) (by kernel_rfl) (by kernel_rfl) (by kernel_rfl) [4] (fun _ => 5) (fun _ => 3) (plc_of (by kernel_rfl)) (fun j x' => match j with | 0 => x' = .agg A.toArray | 1 => ∃ c:List Value,x' = .agg c.toArray ∧ Elm c (pw x 8) | 2 => x' = .agg A.toArray | 3 => ∃ c:List Value,x' = .agg c.toArray ∧ Elm c (pw x 9) | _ => True) ?_ ?_ ?_
  ·intro p hp x' hx'
   obtain rfl:p = 4:=by simpa using hp
   obtain ⟨c,hc,hE⟩:=hx'
   exact ⟨c,_,hc,hE⟩
  ·intro d v W i o AA hi hia his ho hv hdep hA hb
   have hcs:i = 0 ∨ i = 1 ∨ i = 2 ∨ i = 3:=by simp at hia his;omega
   rcases hcs with rfl | rfl | rfl | rfl
   ·cases ho
    exact ⟨rfl,oper_val (exec_load_row 96 _ rfl (w.heap.size) ((hA.slot 1 (by kernel_rfl)).trans rfl) 96 _ (0,0) _ ((HVd.out.later hb).cell (w.heap.size,96,A) (by simp)) Tryz.underlying96 rfl (elm_info HE1.out)) ⟨_,rfl,rfl,Below.refl _ _⟩⟩
   ·cases ho
    have h0:AA.eval (.tmp 13) = .agg A.toArray:=(hA.new 0 13 (by decide) (dep_done hdep 0 (by kernel_rfl)) rfl (of_decide_eq_true (by kernel_rfl))).trans (hv 0 (by decide) (by decide) (dep_done hdep 0 (by kernel_rfl)) (by decide))
    refine ⟨rfl,oper_call (exec_enter2 (vy:=.int .i64 ((3:Nat):Int)) rfl rfl h0 rfl (by go_simp)) ((fsquares_any 3 x 1 8 A W (by decide) HE1.out (by decide)).mono ?_)⟩
    rintro r W' ⟨c,rfl,he,hb'⟩
    exact ⟨_,rfl,_,rfl,⟨c,rfl,he⟩,hb'⟩
   ·cases ho
    exact ⟨rfl,oper_val (exec_load_row 96 _ rfl (w.heap.size) ((hA.slot 1 (by kernel_rfl)).trans rfl) 96 _ (0,0) _ ((HVd.out.later hb).cell (w.heap.size,96,A) (by simp)) Tryz.underlying96 rfl (elm_info HE1.out)) ⟨_,rfl,rfl,Below.refl _ _⟩⟩
   ·cases ho
    obtain ⟨c1,hc1,hE1⟩:=hv 1 (by decide) (by decide) (dep_done hdep 1 (by kernel_rfl)) (by decide)
    have h1:AA.eval (.tmp 14) = .agg c1.toArray:=(hA.new 1 14 (by decide) (dep_done hdep 1 (by kernel_rfl)) rfl (of_decide_eq_true (by kernel_rfl))).trans hc1
    have h2:AA.eval (.tmp 15) = .agg A.toArray:=(hA.new 2 15 (by decide) (dep_done hdep 2 (by kernel_rfl)) rfl (of_decide_eq_true (by kernel_rfl))).trans (hv 2 (by decide) (by decide) (dep_done hdep 2 (by kernel_rfl)) (by decide))
    refine ⟨rfl,oper_call (exec_enter2 rfl rfl h1 h2 (by go_simp)) ((fmul_any c1 A (pw x 8) (pw x 1) W hE1 HE1.out).mono ?_)⟩
    rintro r W' ⟨c,rfl,he,hb'⟩
    rw [pw_add x 8 1 9 (by decide)] at he
    exact ⟨_,rfl,_,rfl,⟨c,rfl,he⟩,hb'⟩
  ·intro v g W hs hp hd hb
   have e0:v 0 = .agg A.toArray:=hs 0 (by decide) (by decide) (by decide)
   obtain ⟨cq,e1,hEq⟩:∃ c:List Value,v 1 = .agg c.toArray ∧ Elm c (pw x 8):=hs 1 (by decide) (by decide) (by decide)
   have e2:v 2 = .agg A.toArray:=hs 2 (by decide) (by decide) (by decide)
   obtain ⟨cm,e3,hEm⟩:∃ c:List Value,v 3 = .agg c.toArray ∧ Elm c (pw x 9):=hs 3 (by decide) (by decide) (by decide)
   obtain ⟨e4,hge,c,n,hc,hE,hC⟩:=hp 4 (by decide)
   obtain rfl:c = cm:=agg_inj (hc.symm.trans e3)
   refine wp_tail_eq (l':=[]) (a':={ tmps:=#[.agg A.toArray,.pointer (some ⟨w.heap.size,0,none⟩),.pointer (some ⟨w.heap.size + 1,0,none⟩),v 4,undef,undef,undef,undef,undef,undef,undef,undef,undef,v 0,v 1,v 2,v 3,undef,undef,undef,undef,undef,undef,undef,undef,undef,undef,undef,undef,undef,undef,undef,undef,undef,undef,undef,undef,undef,undef,undef,undef,undef,undef,undef,undef,undef,undef,undef,undef,undef,undef,undef,undef,undef,undef,undef,undef],defers:=[] }) (by kernel_rfl) (by kernel_rfl) ?_
   rw [e0,e1,e2,e3,e4]
   refine ⟨rfl,g 4,cq,c,rfl,hEm,?_,HWd.out.trans (hb.mono HWd.out.size)⟩
   ·exact ((HVd.out.later hb).sub (.cons_cons _ (.cons_cons _ .slnil))).add _ _ _ hC (fun p hp => by have:=HVd.out.lt p (List.Sublist.subset (.cons_cons _ (.cons_cons _ .slnil)) hp);omega)
 ·rintro a W1 ⟨g3,q3,c3,rfl,HE3,HV,HW⟩
  (try dsimp only)
  go_wp2
  refine wp_cut (fun a W => ∃ (g4:Nat) (q4 c4:List Value),a = { tmps:=#[.agg A.toArray,.pointer (some ⟨w.heap.size,0,none⟩),.pointer (some ⟨w.heap.size + 1,0,none⟩),.pointer (some ⟨g3,0,none⟩),.pointer (some ⟨g4,0,none⟩),undef,undef,undef,undef,undef,undef,undef,undef,.agg A.toArray,.agg q3.toArray,.agg A.toArray,.agg c3.toArray,.agg A.toArray,.agg q4.toArray,.agg c3.toArray,.agg c4.toArray,undef,undef,undef,undef,undef,undef,undef,undef,undef,undef,undef,undef,undef,undef,undef,undef,undef,undef,undef,undef,undef,undef,undef,undef,undef,undef,undef,undef,undef,undef,undef,undef,undef,undef,undef,undef],defers:=[] } ∧ Hid (Elm c4 (pw x 11)) ∧ Hid (Vr W [(w.heap.size + 1,96,zeroE),(g3,96,c3),(g4,96,c4)]) ∧ Hid (Below w.heap.size w W)) ?_ ?_
  ·have HVd:Hid (Vr W1.drew [(w.heap.size + 1,96,zeroE),(w.heap.size,96,A),(g3,96,c3)]):=HV.out.later ((Below.refl _ _).drew)
   have HWd:Hid (Below w.heap.size w W1.drew):=HW.out.drew
   refine wp_region_elems 6 (Nat.le_refl _) (by kernel_rfl) (by kernel_rfl) (by kernel_rfl) (by kernel_rfl) [4] (fun _ => 5) (fun _ => 3) (plc_of (by kernel_rfl)) (fun j x' => match j with | 0 => x' = .agg A.toArray | 1 => ∃ c:List Value,x' = .agg c.toArray ∧ Elm c (pw x 2) | 2 => x' = .agg c3.toArray | 3 => ∃ c:List Value,x' = .agg c.toArray ∧ Elm c (pw x 11) | _ => True) ?_ ?_ ?_
   ·intro p hp x' hx'
    obtain rfl:p = 4:=by simpa using hp
    obtain ⟨c,hc,hE⟩:=hx'
    exact ⟨c,_,hc,hE⟩
   ·intro d v W i o AA hi hia his ho hv hdep hA hb
    have hcs:i = 0 ∨ i = 1 ∨ i = 2 ∨ i = 3:=by simp at hia his;omega
    rcases hcs with rfl | rfl | rfl | rfl
    ·cases ho
     exact ⟨rfl,oper_val (exec_load_row 96 _ rfl (w.heap.size) ((hA.slot 1 (by kernel_rfl)).trans rfl) 96 _ (0,0) _ ((HVd.out.later hb).cell (w.heap.size,96,A) (by simp)) Tryz.underlying96 rfl (elm_info HE1.out)) ⟨_,rfl,rfl,Below.refl _ _⟩⟩
    ·cases ho
     have h0:AA.eval (.tmp 17) = .agg A.toArray:=(hA.new 0 17 (by decide) (dep_done hdep 0 (by kernel_rfl)) rfl (of_decide_eq_true (by kernel_rfl))).trans (hv 0 (by decide) (by decide) (dep_done hdep 0 (by kernel_rfl)) (by decide))
     refine ⟨rfl,oper_call (exec_enter2 (vy:=.int .i64 ((1:Nat):Int)) rfl rfl h0 rfl (by go_simp)) ((fsquares_any 1 x 1 2 A W (by decide) HE1.out (by decide)).mono ?_)⟩
     rintro r W' ⟨c,rfl,he,hb'⟩
     exact ⟨_,rfl,_,rfl,⟨c,rfl,he⟩,hb'⟩
    ·cases ho
     exact ⟨rfl,oper_val (exec_load_row 96 _ rfl (g3) ((hA.slot 3 (by kernel_rfl)).trans rfl) 96 _ (0,0) _ ((HVd.out.later hb).cell (g3,96,c3) (by simp)) Tryz.underlying96 rfl (elm_info HE3.out)) ⟨_,rfl,rfl,Below.refl _ _⟩⟩
    ·cases ho
     obtain ⟨c1,hc1,hE1⟩:=hv 1 (by decide) (by decide) (dep_done hdep 1 (by kernel_rfl)) (by decide)
     have h1:AA.eval (.tmp 18) = .agg c1.toArray:=(hA.new 1 18 (by decide) (dep_done hdep 1 (by kernel_rfl)) rfl (of_decide_eq_true (by kernel_rfl))).trans hc1
     have h2:AA.eval (.tmp 19) = .agg c3.toArray:=(hA.new 2 19 (by decide) (dep_done hdep 2 (by kernel_rfl)) rfl (of_decide_eq_true (by kernel_rfl))).trans (hv 2 (by decide) (by decide) (dep_done hdep 2 (by kernel_rfl)) (by decide))
     refine ⟨rfl,oper_call (exec_enter2 rfl rfl h1 h2 (by go_simp)) ((fmul_any c1 c3 (pw x 2) (pw x 9) W hE1 HE3.out).mono ?_)⟩
     rintro r W' ⟨c,rfl,he,hb'⟩
     rw [pw_add x 2 9 11 (by decide)] at he
     exact ⟨_,rfl,_,rfl,⟨c,rfl,he⟩,hb'⟩
   ·intro v g W hs hp hd hb
    have e0:v 0 = .agg A.toArray:=hs 0 (by decide) (by decide) (by decide)
    obtain ⟨cq,e1,hEq⟩:∃ c:List Value,v 1 = .agg c.toArray ∧ Elm c (pw x 2):=hs 1 (by decide) (by decide) (by decide)
    have e2:v 2 = .agg c3.toArray:=hs 2 (by decide) (by decide) (by decide)
    obtain ⟨cm,e3,hEm⟩:∃ c:List Value,v 3 = .agg c.toArray ∧ Elm c (pw x 11):=hs 3 (by decide) (by decide) (by decide)
    obtain ⟨e4,hge,c,n,hc,hE,hC⟩:=hp 4 (by decide)
    obtain rfl:c = cm:=agg_inj (hc.symm.trans e3)
    refine wp_tail_eq (l':=[]) (a':={ tmps:=#[.agg A.toArray,.pointer (some ⟨w.heap.size,0,none⟩),.pointer (some ⟨w.heap.size + 1,0,none⟩),.pointer (some ⟨g3,0,none⟩),v 4,undef,undef,undef,undef,undef,undef,undef,undef,.agg A.toArray,.agg q3.toArray,.agg A.toArray,.agg c3.toArray,v 0,v 1,v 2,v 3,undef,undef,undef,undef,undef,undef,undef,undef,undef,undef,undef,undef,undef,undef,undef,undef,undef,undef,undef,undef,undef,undef,undef,undef,undef,undef,undef,undef,undef,undef,undef,undef,undef,undef,undef,undef],defers:=[] }) (by kernel_rfl) (by kernel_rfl) ?_
    rw [e0,e1,e2,e3,e4]
    refine ⟨rfl,g 4,cq,c,rfl,hEm,?_,HWd.out.trans (hb.mono HWd.out.size)⟩
    ·exact ((HVd.out.later hb).sub (.cons_cons _ (.cons _ (.cons_cons _ .slnil)))).add _ _ _ hC (fun p hp => by have:=HVd.out.lt p (List.Sublist.subset (.cons_cons _ (.cons _ (.cons_cons _ .slnil))) hp);omega)
  ·rintro a W2 ⟨g4,q4,c4,rfl,HE4,HV,HW⟩
   (try dsimp only)
   go_wp2
   refine wp_cut (fun a W => ∃ (g5:Nat) (q5 c5:List Value),a = { tmps:=#[.agg A.toArray,.pointer (some ⟨w.heap.size,0,none⟩),.pointer (some ⟨w.heap.size + 1,0,none⟩),.pointer (some ⟨g3,0,none⟩),.pointer (some ⟨g4,0,none⟩),.pointer (some ⟨g5,0,none⟩),undef,undef,undef,undef,undef,undef,undef,.agg A.toArray,.agg q3.toArray,.agg A.toArray,.agg c3.toArray,.agg A.toArray,.agg q4.toArray,.agg c3.toArray,.agg c4.toArray,.agg c4.toArray,.agg q5.toArray,.agg c3.toArray,.agg c5.toArray,undef,undef,undef,undef,undef,undef,undef,undef,undef,undef,undef,undef,undef,undef,undef,undef,undef,undef,undef,undef,undef,undef,undef,undef,undef,undef,undef,undef,undef,undef,undef,undef],defers:=[] } ∧ Hid (Elm c5 (pw x 31)) ∧ Hid (Vr W [(w.heap.size + 1,96,zeroE),(g4,96,c4),(g5,96,c5)]) ∧ Hid (Below w.heap.size w W)) ?_ ?_
   ·have HVd:Hid (Vr W2.drew [(w.heap.size + 1,96,zeroE),(g3,96,c3),(g4,96,c4)]):=HV.out.later ((Below.refl _ _).drew)
    have HWd:Hid (Below w.heap.size w W2.drew):=HW.out.drew
    refine wp_region_elems 6 (Nat.le_refl _) (by kernel_rfl) (by kernel_rfl) (by kernel_rfl) (by kernel_rfl) [4] (fun _ => 5) (fun _ => 3) (plc_of (by kernel_rfl)) (fun j x' => match j with | 0 => x' = .agg c4.toArray | 1 => ∃ c:List Value,x' = .agg c.toArray ∧ Elm c (pw x 22) | 2 => x' = .agg c3.toArray | 3 => ∃ c:List Value,x' = .agg c.toArray ∧ Elm c (pw x 31) | _ => True) ?_ ?_ ?_
    ·intro p hp x' hx'
     obtain rfl:p = 4:=by simpa using hp
     obtain ⟨c,hc,hE⟩:=hx'
     exact ⟨c,_,hc,hE⟩
    ·intro d v W i o AA hi hia his ho hv hdep hA hb
     have hcs:i = 0 ∨ i = 1 ∨ i = 2 ∨ i = 3:=by simp at hia his;omega
     rcases hcs with rfl | rfl | rfl | rfl
     ·cases ho
      exact ⟨rfl,oper_val (exec_load_row 96 _ rfl (g4) ((hA.slot 4 (by kernel_rfl)).trans rfl) 96 _ (0,0) _ ((HVd.out.later hb).cell (g4,96,c4) (by simp)) Tryz.underlying96 rfl (elm_info HE4.out)) ⟨_,rfl,rfl,Below.refl _ _⟩⟩
     ·cases ho
      have h0:AA.eval (.tmp 21) = .agg c4.toArray:=(hA.new 0 21 (by decide) (dep_done hdep 0 (by kernel_rfl)) rfl (of_decide_eq_true (by kernel_rfl))).trans (hv 0 (by decide) (by decide) (dep_done hdep 0 (by kernel_rfl)) (by decide))
      refine ⟨rfl,oper_call (exec_enter2 (vy:=.int .i64 ((1:Nat):Int)) rfl rfl h0 rfl (by go_simp)) ((fsquares_any 1 x 11 22 c4 W (by decide) HE4.out (by decide)).mono ?_)⟩
      rintro r W' ⟨c,rfl,he,hb'⟩
      exact ⟨_,rfl,_,rfl,⟨c,rfl,he⟩,hb'⟩
     ·cases ho
      exact ⟨rfl,oper_val (exec_load_row 96 _ rfl (g3) ((hA.slot 3 (by kernel_rfl)).trans rfl) 96 _ (0,0) _ ((HVd.out.later hb).cell (g3,96,c3) (by simp)) Tryz.underlying96 rfl (elm_info HE3.out)) ⟨_,rfl,rfl,Below.refl _ _⟩⟩
     ·cases ho
      obtain ⟨c1,hc1,hE1⟩:=hv 1 (by decide) (by decide) (dep_done hdep 1 (by kernel_rfl)) (by decide)
      have h1:AA.eval (.tmp 22) = .agg c1.toArray:=(hA.new 1 22 (by decide) (dep_done hdep 1 (by kernel_rfl)) rfl (of_decide_eq_true (by kernel_rfl))).trans hc1
      have h2:AA.eval (.tmp 23) = .agg c3.toArray:=(hA.new 2 23 (by decide) (dep_done hdep 2 (by kernel_rfl)) rfl (of_decide_eq_true (by kernel_rfl))).trans (hv 2 (by decide) (by decide) (dep_done hdep 2 (by kernel_rfl)) (by decide))
      refine ⟨rfl,oper_call (exec_enter2 rfl rfl h1 h2 (by go_simp)) ((fmul_any c1 c3 (pw x 22) (pw x 9) W hE1 HE3.out).mono ?_)⟩
      rintro r W' ⟨c,rfl,he,hb'⟩
      rw [pw_add x 22 9 31 (by decide)] at he
      exact ⟨_,rfl,_,rfl,⟨c,rfl,he⟩,hb'⟩
    ·intro v g W hs hp hd hb
     have e0:v 0 = .agg c4.toArray:=hs 0 (by decide) (by decide) (by decide)
     obtain ⟨cq,e1,hEq⟩:∃ c:List Value,v 1 = .agg c.toArray ∧ Elm c (pw x 22):=hs 1 (by decide) (by decide) (by decide)
     have e2:v 2 = .agg c3.toArray:=hs 2 (by decide) (by decide) (by decide)
     obtain ⟨cm,e3,hEm⟩:∃ c:List Value,v 3 = .agg c.toArray ∧ Elm c (pw x 31):=hs 3 (by decide) (by decide) (by decide)
     obtain ⟨e4,hge,c,n,hc,hE,hC⟩:=hp 4 (by decide)
     obtain rfl:c = cm:=agg_inj (hc.symm.trans e3)
     refine wp_tail_eq (l':=[]) (a':={ tmps:=#[.agg A.toArray,.pointer (some ⟨w.heap.size,0,none⟩),.pointer (some ⟨w.heap.size + 1,0,none⟩),.pointer (some ⟨g3,0,none⟩),.pointer (some ⟨g4,0,none⟩),v 4,undef,undef,undef,undef,undef,undef,undef,.agg A.toArray,.agg q3.toArray,.agg A.toArray,.agg c3.toArray,.agg A.toArray,.agg q4.toArray,.agg c3.toArray,.agg c4.toArray,v 0,v 1,v 2,v 3,undef,undef,undef,undef,undef,undef,undef,undef,undef,undef,undef,undef,undef,undef,undef,undef,undef,undef,undef,undef,undef,undef,undef,undef,undef,undef,undef,undef,undef,undef,undef,undef],defers:=[] }) (by kernel_rfl) (by kernel_rfl) ?_
     rw [e0,e1,e2,e3,e4]
     refine ⟨rfl,g 4,cq,c,rfl,hEm,?_,HWd.out.trans (hb.mono HWd.out.size)⟩
     ·exact ((HVd.out.later hb).sub (.cons_cons _ (.cons _ (.cons_cons _ .slnil)))).add _ _ _ hC (fun p hp => by have:=HVd.out.lt p (List.Sublist.subset (.cons_cons _ (.cons _ (.cons_cons _ .slnil))) hp);omega)
   ·rintro a W3 ⟨g5,q5,c5,rfl,HE5,HV,HW⟩
    (try dsimp only)
    go_wp2
    refine wp_cut (fun a W => ∃ (g6:Nat) (q6 c6:List Value),a = { tmps:=#[.agg A.toArray,.pointer (some ⟨w.heap.size,0,none⟩),.pointer (some ⟨w.heap.size + 1,0,none⟩),.pointer (some ⟨g3,0,none⟩),.pointer (some ⟨g4,0,none⟩),.pointer (some ⟨g5,0,none⟩),.pointer (some ⟨g6,0,none⟩),undef,undef,undef,undef,undef,undef,.agg A.toArray,.agg q3.toArray,.agg A.toArray,.agg c3.toArray,.agg A.toArray,.agg q4.toArray,.agg c3.toArray,.agg c4.toArray,.agg c4.toArray,.agg q5.toArray,.agg c3.toArray,.agg c5.toArray,.agg c5.toArray,.agg q6.toArray,.agg c5.toArray,.agg c6.toArray,undef,undef,undef,undef,undef,undef,undef,undef,undef,undef,undef,undef,undef,undef,undef,undef,undef,undef,undef,undef,undef,undef,undef,undef,undef,undef,undef,undef],defers:=[] } ∧ Hid (Elm c6 (pw x 1023)) ∧ Hid (Vr W [(w.heap.size + 1,96,zeroE),(g4,96,c4),(g6,96,c6)]) ∧ Hid (Below w.heap.size w W)) ?_ ?_
    ·have HVd:Hid (Vr W3.drew [(w.heap.size + 1,96,zeroE),(g4,96,c4),(g5,96,c5)]):=HV.out.later ((Below.refl _ _).drew)
     have HWd:Hid (Below w.heap.size w W3.drew):=HW.out.drew
     refine wp_region_elems 6 (Nat.le_refl _) (by kernel_rfl) (by kernel_rfl) (by kernel_rfl) (by kernel_rfl) [4] (fun _ => 5) (fun _ => 3) (plc_of (by kernel_rfl)) (fun j x' => match j with | 0 => x' = .agg c5.toArray | 1 => ∃ c:List Value,x' = .agg c.toArray ∧ Elm c (pw x 992) | 2 => x' = .agg c5.toArray | 3 => ∃ c:List Value,x' = .agg c.toArray ∧ Elm c (pw x 1023) | _ => True) ?_ ?_ ?_
     ·intro p hp x' hx'
      obtain rfl:p = 4:=by simpa using hp
      obtain ⟨c,hc,hE⟩:=hx'
      exact ⟨c,_,hc,hE⟩
     ·intro d v W i o AA hi hia his ho hv hdep hA hb
      have hcs:i = 0 ∨ i = 1 ∨ i = 2 ∨ i = 3:=by simp at hia his;omega
      rcases hcs with rfl | rfl | rfl | rfl
      ·cases ho
       exact ⟨rfl,oper_val (exec_load_row 96 _ rfl (g5) ((hA.slot 5 (by kernel_rfl)).trans rfl) 96 _ (0,0) _ ((HVd.out.later hb).cell (g5,96,c5) (by simp)) Tryz.underlying96 rfl (elm_info HE5.out)) ⟨_,rfl,rfl,Below.refl _ _⟩⟩
      ·cases ho
       have h0:AA.eval (.tmp 25) = .agg c5.toArray:=(hA.new 0 25 (by decide) (dep_done hdep 0 (by kernel_rfl)) rfl (of_decide_eq_true (by kernel_rfl))).trans (hv 0 (by decide) (by decide) (dep_done hdep 0 (by kernel_rfl)) (by decide))
       refine ⟨rfl,oper_call (exec_enter2 (vy:=.int .i64 ((5:Nat):Int)) rfl rfl h0 rfl (by go_simp)) ((fsquares_any 5 x 31 992 c5 W (by decide) HE5.out (by decide)).mono ?_)⟩
       rintro r W' ⟨c,rfl,he,hb'⟩
       exact ⟨_,rfl,_,rfl,⟨c,rfl,he⟩,hb'⟩
      ·cases ho
       exact ⟨rfl,oper_val (exec_load_row 96 _ rfl (g5) ((hA.slot 5 (by kernel_rfl)).trans rfl) 96 _ (0,0) _ ((HVd.out.later hb).cell (g5,96,c5) (by simp)) Tryz.underlying96 rfl (elm_info HE5.out)) ⟨_,rfl,rfl,Below.refl _ _⟩⟩
      ·cases ho
       obtain ⟨c1,hc1,hE1⟩:=hv 1 (by decide) (by decide) (dep_done hdep 1 (by kernel_rfl)) (by decide)
       have h1:AA.eval (.tmp 26) = .agg c1.toArray:=(hA.new 1 26 (by decide) (dep_done hdep 1 (by kernel_rfl)) rfl (of_decide_eq_true (by kernel_rfl))).trans hc1
       have h2:AA.eval (.tmp 27) = .agg c5.toArray:=(hA.new 2 27 (by decide) (dep_done hdep 2 (by kernel_rfl)) rfl (of_decide_eq_true (by kernel_rfl))).trans (hv 2 (by decide) (by decide) (dep_done hdep 2 (by kernel_rfl)) (by decide))
       refine ⟨rfl,oper_call (exec_enter2 rfl rfl h1 h2 (by go_simp)) ((fmul_any c1 c5 (pw x 992) (pw x 31) W hE1 HE5.out).mono ?_)⟩
       rintro r W' ⟨c,rfl,he,hb'⟩
       rw [pw_add x 992 31 1023 (by decide)] at he
       exact ⟨_,rfl,_,rfl,⟨c,rfl,he⟩,hb'⟩
     ·intro v g W hs hp hd hb
      have e0:v 0 = .agg c5.toArray:=hs 0 (by decide) (by decide) (by decide)
      obtain ⟨cq,e1,hEq⟩:∃ c:List Value,v 1 = .agg c.toArray ∧ Elm c (pw x 992):=hs 1 (by decide) (by decide) (by decide)
      have e2:v 2 = .agg c5.toArray:=hs 2 (by decide) (by decide) (by decide)
      obtain ⟨cm,e3,hEm⟩:∃ c:List Value,v 3 = .agg c.toArray ∧ Elm c (pw x 1023):=hs 3 (by decide) (by decide) (by decide)
      obtain ⟨e4,hge,c,n,hc,hE,hC⟩:=hp 4 (by decide)
      obtain rfl:c = cm:=agg_inj (hc.symm.trans e3)
      refine wp_tail_eq (l':=[]) (a':={ tmps:=#[.agg A.toArray,.pointer (some ⟨w.heap.size,0,none⟩),.pointer (some ⟨w.heap.size + 1,0,none⟩),.pointer (some ⟨g3,0,none⟩),.pointer (some ⟨g4,0,none⟩),.pointer (some ⟨g5,0,none⟩),v 4,undef,undef,undef,undef,undef,undef,.agg A.toArray,.agg q3.toArray,.agg A.toArray,.agg c3.toArray,.agg A.toArray,.agg q4.toArray,.agg c3.toArray,.agg c4.toArray,.agg c4.toArray,.agg q5.toArray,.agg c3.toArray,.agg c5.toArray,v 0,v 1,v 2,v 3,undef,undef,undef,undef,undef,undef,undef,undef,undef,undef,undef,undef,undef,undef,undef,undef,undef,undef,undef,undef,undef,undef,undef,undef,undef,undef,undef,undef],defers:=[] }) (by kernel_rfl) (by kernel_rfl) ?_
      rw [e0,e1,e2,e3,e4]
      refine ⟨rfl,g 4,cq,c,rfl,hEm,?_,HWd.out.trans (hb.mono HWd.out.size)⟩
      ·exact ((HVd.out.later hb).sub (.cons_cons _ (.cons_cons _ (.cons _ .slnil)))).add _ _ _ hC (fun p hp => by have:=HVd.out.lt p (List.Sublist.subset (.cons_cons _ (.cons_cons _ (.cons _ .slnil))) hp);omega)
    ·rintro a W4 ⟨g6,q6,c6,rfl,HE6,HV,HW⟩
     (try dsimp only)
     go_wp2
     refine wp_cut (fun a W => ∃ (g7:Nat) (q7 c7:List Value),a = { tmps:=#[.agg A.toArray,.pointer (some ⟨w.heap.size,0,none⟩),.pointer (some ⟨w.heap.size + 1,0,none⟩),.pointer (some ⟨g3,0,none⟩),.pointer (some ⟨g4,0,none⟩),.pointer (some ⟨g5,0,none⟩),.pointer (some ⟨g6,0,none⟩),.pointer (some ⟨g7,0,none⟩),undef,undef,undef,undef,undef,.agg A.toArray,.agg q3.toArray,.agg A.toArray,.agg c3.toArray,.agg A.toArray,.agg q4.toArray,.agg c3.toArray,.agg c4.toArray,.agg c4.toArray,.agg q5.toArray,.agg c3.toArray,.agg c5.toArray,.agg c5.toArray,.agg q6.toArray,.agg c5.toArray,.agg c6.toArray,.agg c6.toArray,.agg q7.toArray,.agg c6.toArray,.agg c7.toArray,undef,undef,undef,undef,undef,undef,undef,undef,undef,undef,undef,undef,undef,undef,undef,undef,undef,undef,undef,undef,undef,undef,undef,undef],defers:=[] } ∧ Hid (Elm c7 (pw x 1048575)) ∧ Hid (Vr W [(w.heap.size + 1,96,zeroE),(g4,96,c4),(g6,96,c6),(g7,96,c7)]) ∧ Hid (Below w.heap.size w W)) ?_ ?_
     ·have HVd:Hid (Vr W4.drew [(w.heap.size + 1,96,zeroE),(g4,96,c4),(g6,96,c6)]):=HV.out.later ((Below.refl _ _).drew)
      have HWd:Hid (Below w.heap.size w W4.drew):=HW.out.drew
      refine wp_region_elems 6 (Nat.le_refl _) (by kernel_rfl) (by kernel_rfl) (by kernel_rfl) (by kernel_rfl) [4] (fun _ => 5) (fun _ => 3) (plc_of (by kernel_rfl)) (fun j x' => match j with | 0 => x' = .agg c6.toArray | 1 => ∃ c:List Value,x' = .agg c.toArray ∧ Elm c (pw x 1047552) | 2 => x' = .agg c6.toArray | 3 => ∃ c:List Value,x' = .agg c.toArray ∧ Elm c (pw x 1048575) | _ => True) ?_ ?_ ?_
      ·intro p hp x' hx'
       obtain rfl:p = 4:=by simpa using hp
       obtain ⟨c,hc,hE⟩:=hx'
       exact ⟨c,_,hc,hE⟩
      ·intro d v W i o AA hi hia his ho hv hdep hA hb
       have hcs:i = 0 ∨ i = 1 ∨ i = 2 ∨ i = 3:=by simp at hia his;omega
       rcases hcs with rfl | rfl | rfl | rfl
       ·cases ho
        exact ⟨rfl,oper_val (exec_load_row 96 _ rfl (g6) ((hA.slot 6 (by kernel_rfl)).trans rfl) 96 _ (0,0) _ ((HVd.out.later hb).cell (g6,96,c6) (by simp)) Tryz.underlying96 rfl (elm_info HE6.out)) ⟨_,rfl,rfl,Below.refl _ _⟩⟩
       ·cases ho
        have h0:AA.eval (.tmp 29) = .agg c6.toArray:=(hA.new 0 29 (by decide) (dep_done hdep 0 (by kernel_rfl)) rfl (of_decide_eq_true (by kernel_rfl))).trans (hv 0 (by decide) (by decide) (dep_done hdep 0 (by kernel_rfl)) (by decide))
        refine ⟨rfl,oper_call (exec_enter2 (vy:=.int .i64 ((10:Nat):Int)) rfl rfl h0 rfl (by go_simp)) ((fsquares_any 10 x 1023 1047552 c6 W (by decide) HE6.out (by decide)).mono ?_)⟩
        rintro r W' ⟨c,rfl,he,hb'⟩
        exact ⟨_,rfl,_,rfl,⟨c,rfl,he⟩,hb'⟩
       ·cases ho
        exact ⟨rfl,oper_val (exec_load_row 96 _ rfl (g6) ((hA.slot 6 (by kernel_rfl)).trans rfl) 96 _ (0,0) _ ((HVd.out.later hb).cell (g6,96,c6) (by simp)) Tryz.underlying96 rfl (elm_info HE6.out)) ⟨_,rfl,rfl,Below.refl _ _⟩⟩
       ·cases ho
        obtain ⟨c1,hc1,hE1⟩:=hv 1 (by decide) (by decide) (dep_done hdep 1 (by kernel_rfl)) (by decide)
        have h1:AA.eval (.tmp 30) = .agg c1.toArray:=(hA.new 1 30 (by decide) (dep_done hdep 1 (by kernel_rfl)) rfl (of_decide_eq_true (by kernel_rfl))).trans hc1
        have h2:AA.eval (.tmp 31) = .agg c6.toArray:=(hA.new 2 31 (by decide) (dep_done hdep 2 (by kernel_rfl)) rfl (of_decide_eq_true (by kernel_rfl))).trans (hv 2 (by decide) (by decide) (dep_done hdep 2 (by kernel_rfl)) (by decide))
        refine ⟨rfl,oper_call (exec_enter2 rfl rfl h1 h2 (by go_simp)) ((fmul_any c1 c6 (pw x 1047552) (pw x 1023) W hE1 HE6.out).mono ?_)⟩
        rintro r W' ⟨c,rfl,he,hb'⟩
        rw [pw_add x 1047552 1023 1048575 (by decide)] at he
        exact ⟨_,rfl,_,rfl,⟨c,rfl,he⟩,hb'⟩
      ·intro v g W hs hp hd hb
       have e0:v 0 = .agg c6.toArray:=hs 0 (by decide) (by decide) (by decide)
       obtain ⟨cq,e1,hEq⟩:∃ c:List Value,v 1 = .agg c.toArray ∧ Elm c (pw x 1047552):=hs 1 (by decide) (by decide) (by decide)
       have e2:v 2 = .agg c6.toArray:=hs 2 (by decide) (by decide) (by decide)
       obtain ⟨cm,e3,hEm⟩:∃ c:List Value,v 3 = .agg c.toArray ∧ Elm c (pw x 1048575):=hs 3 (by decide) (by decide) (by decide)
       obtain ⟨e4,hge,c,n,hc,hE,hC⟩:=hp 4 (by decide)
       obtain rfl:c = cm:=agg_inj (hc.symm.trans e3)
       refine wp_tail_eq (l':=[]) (a':={ tmps:=#[.agg A.toArray,.pointer (some ⟨w.heap.size,0,none⟩),.pointer (some ⟨w.heap.size + 1,0,none⟩),.pointer (some ⟨g3,0,none⟩),.pointer (some ⟨g4,0,none⟩),.pointer (some ⟨g5,0,none⟩),.pointer (some ⟨g6,0,none⟩),v 4,undef,undef,undef,undef,undef,.agg A.toArray,.agg q3.toArray,.agg A.toArray,.agg c3.toArray,.agg A.toArray,.agg q4.toArray,.agg c3.toArray,.agg c4.toArray,.agg c4.toArray,.agg q5.toArray,.agg c3.toArray,.agg c5.toArray,.agg c5.toArray,.agg q6.toArray,.agg c5.toArray,.agg c6.toArray,v 0,v 1,v 2,v 3,undef,undef,undef,undef,undef,undef,undef,undef,undef,undef,undef,undef,undef,undef,undef,undef,undef,undef,undef,undef,undef,undef,undef,undef],defers:=[] }) (by kernel_rfl) (by kernel_rfl) ?_
       rw [e0,e1,e2,e3,e4]
       refine ⟨rfl,g 4,cq,c,rfl,hEm,?_,HWd.out.trans (hb.mono HWd.out.size)⟩
       ·exact ((HVd.out.later hb).sub (.cons_cons _ (.cons_cons _ (.cons_cons _ .slnil)))).add _ _ _ hC (fun p hp => by have:=HVd.out.lt p (List.Sublist.subset (.cons_cons _ (.cons_cons _ (.cons_cons _ .slnil))) hp);omega)
     ·rintro a W5 ⟨g7,q7,c7,rfl,HE7,HV,HW⟩
      (try dsimp only)
      go_wp2
      refine wp_cut (fun a W => ∃ (g8:Nat) (q8 c8:List Value),a = { tmps:=#[.agg A.toArray,.pointer (some ⟨w.heap.size,0,none⟩),.pointer (some ⟨w.heap.size + 1,0,none⟩),.pointer (some ⟨g3,0,none⟩),.pointer (some ⟨g4,0,none⟩),.pointer (some ⟨g5,0,none⟩),.pointer (some ⟨g6,0,none⟩),.pointer (some ⟨g7,0,none⟩),.pointer (some ⟨g8,0,none⟩),undef,undef,undef,undef,.agg A.toArray,.agg q3.toArray,.agg A.toArray,.agg c3.toArray,.agg A.toArray,.agg q4.toArray,.agg c3.toArray,.agg c4.toArray,.agg c4.toArray,.agg q5.toArray,.agg c3.toArray,.agg c5.toArray,.agg c5.toArray,.agg q6.toArray,.agg c5.toArray,.agg c6.toArray,.agg c6.toArray,.agg q7.toArray,.agg c6.toArray,.agg c7.toArray,.agg c7.toArray,.agg q8.toArray,.agg c7.toArray,.agg c8.toArray,undef,undef,undef,undef,undef,undef,undef,undef,undef,undef,undef,undef,undef,undef,undef,undef,undef,undef,undef,undef],defers:=[] } ∧ Hid (Elm c8 (pw x 1099511627775)) ∧ Hid (Vr W [(w.heap.size + 1,96,zeroE),(g4,96,c4),(g6,96,c6),(g8,96,c8)]) ∧ Hid (Below w.heap.size w W)) ?_ ?_
      ·have HVd:Hid (Vr W5.drew [(w.heap.size + 1,96,zeroE),(g4,96,c4),(g6,96,c6),(g7,96,c7)]):=HV.out.later ((Below.refl _ _).drew)
       have HWd:Hid (Below w.heap.size w W5.drew):=HW.out.drew
       refine wp_region_elems 6 (Nat.le_refl _) (by kernel_rfl) (by kernel_rfl) (by kernel_rfl) (by kernel_rfl) [4] (fun _ => 5) (fun _ => 3) (plc_of (by kernel_rfl)) (fun j x' => match j with | 0 => x' = .agg c7.toArray | 1 => ∃ c:List Value,x' = .agg c.toArray ∧ Elm c (pw x 1099510579200) | 2 => x' = .agg c7.toArray | 3 => ∃ c:List Value,x' = .agg c.toArray ∧ Elm c (pw x 1099511627775) | _ => True) ?_ ?_ ?_
       ·intro p hp x' hx'
        obtain rfl:p = 4:=by simpa using hp
        obtain ⟨c,hc,hE⟩:=hx'
        exact ⟨c,_,hc,hE⟩
       ·intro d v W i o AA hi hia his ho hv hdep hA hb
        have hcs:i = 0 ∨ i = 1 ∨ i = 2 ∨ i = 3:=by simp at hia his;omega
        rcases hcs with rfl | rfl | rfl | rfl
        ·cases ho
         exact ⟨rfl,oper_val (exec_load_row 96 _ rfl (g7) ((hA.slot 7 (by kernel_rfl)).trans rfl) 96 _ (0,0) _ ((HVd.out.later hb).cell (g7,96,c7) (by simp)) Tryz.underlying96 rfl (elm_info HE7.out)) ⟨_,rfl,rfl,Below.refl _ _⟩⟩
        ·cases ho
         have h0:AA.eval (.tmp 33) = .agg c7.toArray:=(hA.new 0 33 (by decide) (dep_done hdep 0 (by kernel_rfl)) rfl (of_decide_eq_true (by kernel_rfl))).trans (hv 0 (by decide) (by decide) (dep_done hdep 0 (by kernel_rfl)) (by decide))
         refine ⟨rfl,oper_call (exec_enter2 (vy:=.int .i64 ((20:Nat):Int)) rfl rfl h0 rfl (by go_simp)) ((fsquares_any 20 x 1048575 1099510579200 c7 W (by decide) HE7.out (by decide)).mono ?_)⟩
         rintro r W' ⟨c,rfl,he,hb'⟩
         exact ⟨_,rfl,_,rfl,⟨c,rfl,he⟩,hb'⟩
        ·cases ho
         exact ⟨rfl,oper_val (exec_load_row 96 _ rfl (g7) ((hA.slot 7 (by kernel_rfl)).trans rfl) 96 _ (0,0) _ ((HVd.out.later hb).cell (g7,96,c7) (by simp)) Tryz.underlying96 rfl (elm_info HE7.out)) ⟨_,rfl,rfl,Below.refl _ _⟩⟩
        ·cases ho
         obtain ⟨c1,hc1,hE1⟩:=hv 1 (by decide) (by decide) (dep_done hdep 1 (by kernel_rfl)) (by decide)
         have h1:AA.eval (.tmp 34) = .agg c1.toArray:=(hA.new 1 34 (by decide) (dep_done hdep 1 (by kernel_rfl)) rfl (of_decide_eq_true (by kernel_rfl))).trans hc1
         have h2:AA.eval (.tmp 35) = .agg c7.toArray:=(hA.new 2 35 (by decide) (dep_done hdep 2 (by kernel_rfl)) rfl (of_decide_eq_true (by kernel_rfl))).trans (hv 2 (by decide) (by decide) (dep_done hdep 2 (by kernel_rfl)) (by decide))
         refine ⟨rfl,oper_call (exec_enter2 rfl rfl h1 h2 (by go_simp)) ((fmul_any c1 c7 (pw x 1099510579200) (pw x 1048575) W hE1 HE7.out).mono ?_)⟩
         rintro r W' ⟨c,rfl,he,hb'⟩
         rw [pw_add x 1099510579200 1048575 1099511627775 (by decide)] at he
         exact ⟨_,rfl,_,rfl,⟨c,rfl,he⟩,hb'⟩
       ·intro v g W hs hp hd hb
        have e0:v 0 = .agg c7.toArray:=hs 0 (by decide) (by decide) (by decide)
        obtain ⟨cq,e1,hEq⟩:∃ c:List Value,v 1 = .agg c.toArray ∧ Elm c (pw x 1099510579200):=hs 1 (by decide) (by decide) (by decide)
        have e2:v 2 = .agg c7.toArray:=hs 2 (by decide) (by decide) (by decide)
        obtain ⟨cm,e3,hEm⟩:∃ c:List Value,v 3 = .agg c.toArray ∧ Elm c (pw x 1099511627775):=hs 3 (by decide) (by decide) (by decide)
        obtain ⟨e4,hge,c,n,hc,hE,hC⟩:=hp 4 (by decide)
        obtain rfl:c = cm:=agg_inj (hc.symm.trans e3)
        refine wp_tail_eq (l':=[]) (a':={ tmps:=#[.agg A.toArray,.pointer (some ⟨w.heap.size,0,none⟩),.pointer (some ⟨w.heap.size + 1,0,none⟩),.pointer (some ⟨g3,0,none⟩),.pointer (some ⟨g4,0,none⟩),.pointer (some ⟨g5,0,none⟩),.pointer (some ⟨g6,0,none⟩),.pointer (some ⟨g7,0,none⟩),v 4,undef,undef,undef,undef,.agg A.toArray,.agg q3.toArray,.agg A.toArray,.agg c3.toArray,.agg A.toArray,.agg q4.toArray,.agg c3.toArray,.agg c4.toArray,.agg c4.toArray,.agg q5.toArray,.agg c3.toArray,.agg c5.toArray,.agg c5.toArray,.agg q6.toArray,.agg c5.toArray,.agg c6.toArray,.agg c6.toArray,.agg q7.toArray,.agg c6.toArray,.agg c7.toArray,v 0,v 1,v 2,v 3,undef,undef,undef,undef,undef,undef,undef,undef,undef,undef,undef,undef,undef,undef,undef,undef,undef,undef,undef,undef],defers:=[] }) (by kernel_rfl) (by kernel_rfl) ?_
        rw [e0,e1,e2,e3,e4]
        refine ⟨rfl,g 4,cq,c,rfl,hEm,?_,HWd.out.trans (hb.mono HWd.out.size)⟩
        ·exact ((HVd.out.later hb).sub (.cons_cons _ (.cons_cons _ (.cons_cons _ (.cons _ .slnil))))).add _ _ _ hC (fun p hp => by have:=HVd.out.lt p (List.Sublist.subset (.cons_cons _ (.cons_cons _ (.cons_cons _ (.cons _ .slnil)))) hp);omega)
      ·rintro a W6 ⟨g8,q8,c8,rfl,HE8,HV,HW⟩
       (try dsimp only)
       go_wp2
       refine wp_cut (fun a W => ∃ (g9:Nat) (q9 c9:List Value),a = { tmps:=#[.agg A.toArray,.pointer (some ⟨w.heap.size,0,none⟩),.pointer (some ⟨w.heap.size + 1,0,none⟩),.pointer (some ⟨g3,0,none⟩),.pointer (some ⟨g4,0,none⟩),.pointer (some ⟨g5,0,none⟩),.pointer (some ⟨g6,0,none⟩),.pointer (some ⟨g7,0,none⟩),.pointer (some ⟨g8,0,none⟩),.pointer (some ⟨g9,0,none⟩),undef,undef,undef,.agg A.toArray,.agg q3.toArray,.agg A.toArray,.agg c3.toArray,.agg A.toArray,.agg q4.toArray,.agg c3.toArray,.agg c4.toArray,.agg c4.toArray,.agg q5.toArray,.agg c3.toArray,.agg c5.toArray,.agg c5.toArray,.agg q6.toArray,.agg c5.toArray,.agg c6.toArray,.agg c6.toArray,.agg q7.toArray,.agg c6.toArray,.agg c7.toArray,.agg c7.toArray,.agg q8.toArray,.agg c7.toArray,.agg c8.toArray,.agg c8.toArray,.agg q9.toArray,.agg c6.toArray,.agg c9.toArray,undef,undef,undef,undef,undef,undef,undef,undef,undef,undef,undef,undef,undef,undef,undef,undef],defers:=[] } ∧ Hid (Elm c9 (pw x 1125899906842623)) ∧ Hid (Vr W [(w.heap.size + 1,96,zeroE),(g4,96,c4),(g9,96,c9)]) ∧ Hid (Below w.heap.size w W)) ?_ ?_
       ·have HVd:Hid (Vr W6.drew [(w.heap.size + 1,96,zeroE),(g4,96,c4),(g6,96,c6),(g8,96,c8)]):=HV.out.later ((Below.refl _ _).drew)
        have HWd:Hid (Below w.heap.size w W6.drew):=HW.out.drew
        refine wp_region_elems 6 (Nat.le_refl _) (by kernel_rfl) (by kernel_rfl) (by kernel_rfl) (by kernel_rfl) [4] (fun _ => 5) (fun _ => 3) (plc_of (by kernel_rfl)) (fun j x' => match j with | 0 => x' = .agg c8.toArray | 1 => ∃ c:List Value,x' = .agg c.toArray ∧ Elm c (pw x 1125899906841600) | 2 => x' = .agg c6.toArray | 3 => ∃ c:List Value,x' = .agg c.toArray ∧ Elm c (pw x 1125899906842623) | _ => True) ?_ ?_ ?_
        ·intro p hp x' hx'
         obtain rfl:p = 4:=by simpa using hp
         obtain ⟨c,hc,hE⟩:=hx'
         exact ⟨c,_,hc,hE⟩
        ·intro d v W i o AA hi hia his ho hv hdep hA hb
         have hcs:i = 0 ∨ i = 1 ∨ i = 2 ∨ i = 3:=by simp at hia his;omega
         rcases hcs with rfl | rfl | rfl | rfl
         ·cases ho
          exact ⟨rfl,oper_val (exec_load_row 96 _ rfl (g8) ((hA.slot 8 (by kernel_rfl)).trans rfl) 96 _ (0,0) _ ((HVd.out.later hb).cell (g8,96,c8) (by simp)) Tryz.underlying96 rfl (elm_info HE8.out)) ⟨_,rfl,rfl,Below.refl _ _⟩⟩
         ·cases ho
          have h0:AA.eval (.tmp 37) = .agg c8.toArray:=(hA.new 0 37 (by decide) (dep_done hdep 0 (by kernel_rfl)) rfl (of_decide_eq_true (by kernel_rfl))).trans (hv 0 (by decide) (by decide) (dep_done hdep 0 (by kernel_rfl)) (by decide))
          refine ⟨rfl,oper_call (exec_enter2 (vy:=.int .i64 ((10:Nat):Int)) rfl rfl h0 rfl (by go_simp)) ((fsquares_any 10 x 1099511627775 1125899906841600 c8 W (by decide) HE8.out (by decide)).mono ?_)⟩
          rintro r W' ⟨c,rfl,he,hb'⟩
          exact ⟨_,rfl,_,rfl,⟨c,rfl,he⟩,hb'⟩
         ·cases ho
          exact ⟨rfl,oper_val (exec_load_row 96 _ rfl (g6) ((hA.slot 6 (by kernel_rfl)).trans rfl) 96 _ (0,0) _ ((HVd.out.later hb).cell (g6,96,c6) (by simp)) Tryz.underlying96 rfl (elm_info HE6.out)) ⟨_,rfl,rfl,Below.refl _ _⟩⟩
         ·cases ho
          obtain ⟨c1,hc1,hE1⟩:=hv 1 (by decide) (by decide) (dep_done hdep 1 (by kernel_rfl)) (by decide)
          have h1:AA.eval (.tmp 38) = .agg c1.toArray:=(hA.new 1 38 (by decide) (dep_done hdep 1 (by kernel_rfl)) rfl (of_decide_eq_true (by kernel_rfl))).trans hc1
          have h2:AA.eval (.tmp 39) = .agg c6.toArray:=(hA.new 2 39 (by decide) (dep_done hdep 2 (by kernel_rfl)) rfl (of_decide_eq_true (by kernel_rfl))).trans (hv 2 (by decide) (by decide) (dep_done hdep 2 (by kernel_rfl)) (by decide))
          refine ⟨rfl,oper_call (exec_enter2 rfl rfl h1 h2 (by go_simp)) ((fmul_any c1 c6 (pw x 1125899906841600) (pw x 1023) W hE1 HE6.out).mono ?_)⟩
          rintro r W' ⟨c,rfl,he,hb'⟩
          rw [pw_add x 1125899906841600 1023 1125899906842623 (by decide)] at he
          exact ⟨_,rfl,_,rfl,⟨c,rfl,he⟩,hb'⟩
        ·intro v g W hs hp hd hb
         have e0:v 0 = .agg c8.toArray:=hs 0 (by decide) (by decide) (by decide)
         obtain ⟨cq,e1,hEq⟩:∃ c:List Value,v 1 = .agg c.toArray ∧ Elm c (pw x 1125899906841600):=hs 1 (by decide) (by decide) (by decide)
         have e2:v 2 = .agg c6.toArray:=hs 2 (by decide) (by decide) (by decide)
         obtain ⟨cm,e3,hEm⟩:∃ c:List Value,v 3 = .agg c.toArray ∧ Elm c (pw x 1125899906842623):=hs 3 (by decide) (by decide) (by decide)
         obtain ⟨e4,hge,c,n,hc,hE,hC⟩:=hp 4 (by decide)
         obtain rfl:c = cm:=agg_inj (hc.symm.trans e3)
         refine wp_tail_eq (l':=[]) (a':={ tmps:=#[.agg A.toArray,.pointer (some ⟨w.heap.size,0,none⟩),.pointer (some ⟨w.heap.size + 1,0,none⟩),.pointer (some ⟨g3,0,none⟩),.pointer (some ⟨g4,0,none⟩),.pointer (some ⟨g5,0,none⟩),.pointer (some ⟨g6,0,none⟩),.pointer (some ⟨g7,0,none⟩),.pointer (some ⟨g8,0,none⟩),v 4,undef,undef,undef,.agg A.toArray,.agg q3.toArray,.agg A.toArray,.agg c3.toArray,.agg A.toArray,.agg q4.toArray,.agg c3.toArray,.agg c4.toArray,.agg c4.toArray,.agg q5.toArray,.agg c3.toArray,.agg c5.toArray,.agg c5.toArray,.agg q6.toArray,.agg c5.toArray,.agg c6.toArray,.agg c6.toArray,.agg q7.toArray,.agg c6.toArray,.agg c7.toArray,.agg c7.toArray,.agg q8.toArray,.agg c7.toArray,.agg c8.toArray,v 0,v 1,v 2,v 3,undef,undef,undef,undef,undef,undef,undef,undef,undef,undef,undef,undef,undef,undef,undef,undef],defers:=[] }) (by kernel_rfl) (by kernel_rfl) ?_
         rw [e0,e1,e2,e3,e4]
         refine ⟨rfl,g 4,cq,c,rfl,hEm,?_,HWd.out.trans (hb.mono HWd.out.size)⟩
         ·exact ((HVd.out.later hb).sub (.cons_cons _ (.cons_cons _ (.cons _ (.cons _ .slnil))))).add _ _ _ hC (fun p hp => by have:=HVd.out.lt p (List.Sublist.subset (.cons_cons _ (.cons_cons _ (.cons _ (.cons _ .slnil)))) hp);omega)
       ·rintro a W7 ⟨g9,q9,c9,rfl,HE9,HV,HW⟩
        (try dsimp only)
        go_wp2
        refine wp_cut (fun a W => ∃ (g10:Nat) (q10 c10:List Value),a = { tmps:=#[.agg A.toArray,.pointer (some ⟨w.heap.size,0,none⟩),.pointer (some ⟨w.heap.size + 1,0,none⟩),.pointer (some ⟨g3,0,none⟩),.pointer (some ⟨g4,0,none⟩),.pointer (some ⟨g5,0,none⟩),.pointer (some ⟨g6,0,none⟩),.pointer (some ⟨g7,0,none⟩),.pointer (some ⟨g8,0,none⟩),.pointer (some ⟨g9,0,none⟩),.pointer (some ⟨g10,0,none⟩),undef,undef,.agg A.toArray,.agg q3.toArray,.agg A.toArray,.agg c3.toArray,.agg A.toArray,.agg q4.toArray,.agg c3.toArray,.agg c4.toArray,.agg c4.toArray,.agg q5.toArray,.agg c3.toArray,.agg c5.toArray,.agg c5.toArray,.agg q6.toArray,.agg c5.toArray,.agg c6.toArray,.agg c6.toArray,.agg q7.toArray,.agg c6.toArray,.agg c7.toArray,.agg c7.toArray,.agg q8.toArray,.agg c7.toArray,.agg c8.toArray,.agg c8.toArray,.agg q9.toArray,.agg c6.toArray,.agg c9.toArray,.agg c9.toArray,.agg q10.toArray,.agg c9.toArray,.agg c10.toArray,undef,undef,undef,undef,undef,undef,undef,undef,undef,undef,undef,undef],defers:=[] } ∧ Hid (Elm c10 (pw x 1267650600228229401496703205375)) ∧ Hid (Vr W [(w.heap.size + 1,96,zeroE),(g4,96,c4),(g9,96,c9),(g10,96,c10)]) ∧ Hid (Below w.heap.size w W)) ?_ ?_
        ·have HVd:Hid (Vr W7.drew [(w.heap.size + 1,96,zeroE),(g4,96,c4),(g9,96,c9)]):=HV.out.later ((Below.refl _ _).drew)
         have HWd:Hid (Below w.heap.size w W7.drew):=HW.out.drew
         refine wp_region_elems 6 (Nat.le_refl _) (by kernel_rfl) (by kernel_rfl) (by kernel_rfl) (by kernel_rfl) [4] (fun _ => 5) (fun _ => 3) (plc_of (by kernel_rfl)) (fun j x' => match j with | 0 => x' = .agg c9.toArray | 1 => ∃ c:List Value,x' = .agg c.toArray ∧ Elm c (pw x 1267650600228228275596796362752) | 2 => x' = .agg c9.toArray | 3 => ∃ c:List Value,x' = .agg c.toArray ∧ Elm c (pw x 1267650600228229401496703205375) | _ => True) ?_ ?_ ?_
         ·intro p hp x' hx'
          obtain rfl:p = 4:=by simpa using hp
          obtain ⟨c,hc,hE⟩:=hx'
          exact ⟨c,_,hc,hE⟩
         ·intro d v W i o AA hi hia his ho hv hdep hA hb
          have hcs:i = 0 ∨ i = 1 ∨ i = 2 ∨ i = 3:=by simp at hia his;omega
          rcases hcs with rfl | rfl | rfl | rfl
          ·cases ho
           exact ⟨rfl,oper_val (exec_load_row 96 _ rfl (g9) ((hA.slot 9 (by kernel_rfl)).trans rfl) 96 _ (0,0) _ ((HVd.out.later hb).cell (g9,96,c9) (by simp)) Tryz.underlying96 rfl (elm_info HE9.out)) ⟨_,rfl,rfl,Below.refl _ _⟩⟩
          ·cases ho
           have h0:AA.eval (.tmp 41) = .agg c9.toArray:=(hA.new 0 41 (by decide) (dep_done hdep 0 (by kernel_rfl)) rfl (of_decide_eq_true (by kernel_rfl))).trans (hv 0 (by decide) (by decide) (dep_done hdep 0 (by kernel_rfl)) (by decide))
           refine ⟨rfl,oper_call (exec_enter2 (vy:=.int .i64 ((50:Nat):Int)) rfl rfl h0 rfl (by go_simp)) ((fsquares_any 50 x 1125899906842623 1267650600228228275596796362752 c9 W (by decide) HE9.out (by decide)).mono ?_)⟩
           rintro r W' ⟨c,rfl,he,hb'⟩
           exact ⟨_,rfl,_,rfl,⟨c,rfl,he⟩,hb'⟩
          ·cases ho
           exact ⟨rfl,oper_val (exec_load_row 96 _ rfl (g9) ((hA.slot 9 (by kernel_rfl)).trans rfl) 96 _ (0,0) _ ((HVd.out.later hb).cell (g9,96,c9) (by simp)) Tryz.underlying96 rfl (elm_info HE9.out)) ⟨_,rfl,rfl,Below.refl _ _⟩⟩
          ·cases ho
           obtain ⟨c1,hc1,hE1⟩:=hv 1 (by decide) (by decide) (dep_done hdep 1 (by kernel_rfl)) (by decide)
           have h1:AA.eval (.tmp 42) = .agg c1.toArray:=(hA.new 1 42 (by decide) (dep_done hdep 1 (by kernel_rfl)) rfl (of_decide_eq_true (by kernel_rfl))).trans hc1
           have h2:AA.eval (.tmp 43) = .agg c9.toArray:=(hA.new 2 43 (by decide) (dep_done hdep 2 (by kernel_rfl)) rfl (of_decide_eq_true (by kernel_rfl))).trans (hv 2 (by decide) (by decide) (dep_done hdep 2 (by kernel_rfl)) (by decide))
           refine ⟨rfl,oper_call (exec_enter2 rfl rfl h1 h2 (by go_simp)) ((fmul_any c1 c9 (pw x 1267650600228228275596796362752) (pw x 1125899906842623) W hE1 HE9.out).mono ?_)⟩
           rintro r W' ⟨c,rfl,he,hb'⟩
           rw [pw_add x 1267650600228228275596796362752 1125899906842623 1267650600228229401496703205375 (by decide)] at he
           exact ⟨_,rfl,_,rfl,⟨c,rfl,he⟩,hb'⟩
         ·intro v g W hs hp hd hb
          have e0:v 0 = .agg c9.toArray:=hs 0 (by decide) (by decide) (by decide)
          obtain ⟨cq,e1,hEq⟩:∃ c:List Value,v 1 = .agg c.toArray ∧ Elm c (pw x 1267650600228228275596796362752):=hs 1 (by decide) (by decide) (by decide)
          have e2:v 2 = .agg c9.toArray:=hs 2 (by decide) (by decide) (by decide)
          obtain ⟨cm,e3,hEm⟩:∃ c:List Value,v 3 = .agg c.toArray ∧ Elm c (pw x 1267650600228229401496703205375):=hs 3 (by decide) (by decide) (by decide)
          obtain ⟨e4,hge,c,n,hc,hE,hC⟩:=hp 4 (by decide)
          obtain rfl:c = cm:=agg_inj (hc.symm.trans e3)
          refine wp_tail_eq (l':=[]) (a':={ tmps:=#[.agg A.toArray,.pointer (some ⟨w.heap.size,0,none⟩),.pointer (some ⟨w.heap.size + 1,0,none⟩),.pointer (some ⟨g3,0,none⟩),.pointer (some ⟨g4,0,none⟩),.pointer (some ⟨g5,0,none⟩),.pointer (some ⟨g6,0,none⟩),.pointer (some ⟨g7,0,none⟩),.pointer (some ⟨g8,0,none⟩),.pointer (some ⟨g9,0,none⟩),v 4,undef,undef,.agg A.toArray,.agg q3.toArray,.agg A.toArray,.agg c3.toArray,.agg A.toArray,.agg q4.toArray,.agg c3.toArray,.agg c4.toArray,.agg c4.toArray,.agg q5.toArray,.agg c3.toArray,.agg c5.toArray,.agg c5.toArray,.agg q6.toArray,.agg c5.toArray,.agg c6.toArray,.agg c6.toArray,.agg q7.toArray,.agg c6.toArray,.agg c7.toArray,.agg c7.toArray,.agg q8.toArray,.agg c7.toArray,.agg c8.toArray,.agg c8.toArray,.agg q9.toArray,.agg c6.toArray,.agg c9.toArray,v 0,v 1,v 2,v 3,undef,undef,undef,undef,undef,undef,undef,undef,undef,undef,undef,undef],defers:=[] }) (by kernel_rfl) (by kernel_rfl) ?_
          rw [e0,e1,e2,e3,e4]
          refine ⟨rfl,g 4,cq,c,rfl,hEm,?_,HWd.out.trans (hb.mono HWd.out.size)⟩
          ·exact ((HVd.out.later hb).sub (.cons_cons _ (.cons_cons _ (.cons_cons _ .slnil)))).add _ _ _ hC (fun p hp => by have:=HVd.out.lt p (List.Sublist.subset (.cons_cons _ (.cons_cons _ (.cons_cons _ .slnil))) hp);omega)
        ·rintro a W8 ⟨g10,q10,c10,rfl,HE10,HV,HW⟩
         (try dsimp only)
         go_wp2
         refine wp_cut (fun a W => ∃ (g11:Nat) (q11 c11:List Value),a = { tmps:=#[.agg A.toArray,.pointer (some ⟨w.heap.size,0,none⟩),.pointer (some ⟨w.heap.size + 1,0,none⟩),.pointer (some ⟨g3,0,none⟩),.pointer (some ⟨g4,0,none⟩),.pointer (some ⟨g5,0,none⟩),.pointer (some ⟨g6,0,none⟩),.pointer (some ⟨g7,0,none⟩),.pointer (some ⟨g8,0,none⟩),.pointer (some ⟨g9,0,none⟩),.pointer (some ⟨g10,0,none⟩),.pointer (some ⟨g11,0,none⟩),undef,.agg A.toArray,.agg q3.toArray,.agg A.toArray,.agg c3.toArray,.agg A.toArray,.agg q4.toArray,.agg c3.toArray,.agg c4.toArray,.agg c4.toArray,.agg q5.toArray,.agg c3.toArray,.agg c5.toArray,.agg c5.toArray,.agg q6.toArray,.agg c5.toArray,.agg c6.toArray,.agg c6.toArray,.agg q7.toArray,.agg c6.toArray,.agg c7.toArray,.agg c7.toArray,.agg q8.toArray,.agg c7.toArray,.agg c8.toArray,.agg c8.toArray,.agg q9.toArray,.agg c6.toArray,.agg c9.toArray,.agg c9.toArray,.agg q10.toArray,.agg c9.toArray,.agg c10.toArray,.agg c10.toArray,.agg q11.toArray,.agg c10.toArray,.agg c11.toArray,undef,undef,undef,undef,undef,undef,undef,undef],defers:=[] } ∧ Hid (Elm c11 (pw x 1606938044258990275541962092341162602522202993782792835301375)) ∧ Hid (Vr W [(w.heap.size + 1,96,zeroE),(g4,96,c4),(g9,96,c9),(g11,96,c11)]) ∧ Hid (Below w.heap.size w W)) ?_ ?_
         ·have HVd:Hid (Vr W8.drew [(w.heap.size + 1,96,zeroE),(g4,96,c4),(g9,96,c9),(g10,96,c10)]):=HV.out.later ((Below.refl _ _).drew)
          have HWd:Hid (Below w.heap.size w W8.drew):=HW.out.drew
          refine wp_region_elems 6 (Nat.le_refl _) (by kernel_rfl) (by kernel_rfl) (by kernel_rfl) (by kernel_rfl) [4] (fun _ => 5) (fun _ => 3) (plc_of (by kernel_rfl)) (fun j x' => match j with | 0 => x' = .agg c10.toArray | 1 => ∃ c:List Value,x' = .agg c.toArray ∧ Elm c (pw x 1606938044258990275541962092339894951921974764381296132096000) | 2 => x' = .agg c10.toArray | 3 => ∃ c:List Value,x' = .agg c.toArray ∧ Elm c (pw x 1606938044258990275541962092341162602522202993782792835301375) | _ => True) ?_ ?_ ?_
          ·intro p hp x' hx'
           obtain rfl:p = 4:=by simpa using hp
           obtain ⟨c,hc,hE⟩:=hx'
           exact ⟨c,_,hc,hE⟩
          ·intro d v W i o AA hi hia his ho hv hdep hA hb
           have hcs:i = 0 ∨ i = 1 ∨ i = 2 ∨ i = 3:=by simp at hia his;omega
           rcases hcs with rfl | rfl | rfl | rfl
           ·cases ho
            exact ⟨rfl,oper_val (exec_load_row 96 _ rfl (g10) ((hA.slot 10 (by kernel_rfl)).trans rfl) 96 _ (0,0) _ ((HVd.out.later hb).cell (g10,96,c10) (by simp)) Tryz.underlying96 rfl (elm_info HE10.out)) ⟨_,rfl,rfl,Below.refl _ _⟩⟩
           ·cases ho
            have h0:AA.eval (.tmp 45) = .agg c10.toArray:=(hA.new 0 45 (by decide) (dep_done hdep 0 (by kernel_rfl)) rfl (of_decide_eq_true (by kernel_rfl))).trans (hv 0 (by decide) (by decide) (dep_done hdep 0 (by kernel_rfl)) (by decide))
            refine ⟨rfl,oper_call (exec_enter2 (vy:=.int .i64 ((100:Nat):Int)) rfl rfl h0 rfl (by go_simp)) ((fsquares_any 100 x 1267650600228229401496703205375 1606938044258990275541962092339894951921974764381296132096000 c10 W (by decide) HE10.out (by decide)).mono ?_)⟩
            rintro r W' ⟨c,rfl,he,hb'⟩
            exact ⟨_,rfl,_,rfl,⟨c,rfl,he⟩,hb'⟩
           ·cases ho
            exact ⟨rfl,oper_val (exec_load_row 96 _ rfl (g10) ((hA.slot 10 (by kernel_rfl)).trans rfl) 96 _ (0,0) _ ((HVd.out.later hb).cell (g10,96,c10) (by simp)) Tryz.underlying96 rfl (elm_info HE10.out)) ⟨_,rfl,rfl,Below.refl _ _⟩⟩
           ·cases ho
            obtain ⟨c1,hc1,hE1⟩:=hv 1 (by decide) (by decide) (dep_done hdep 1 (by kernel_rfl)) (by decide)
            have h1:AA.eval (.tmp 46) = .agg c1.toArray:=(hA.new 1 46 (by decide) (dep_done hdep 1 (by kernel_rfl)) rfl (of_decide_eq_true (by kernel_rfl))).trans hc1
            have h2:AA.eval (.tmp 47) = .agg c10.toArray:=(hA.new 2 47 (by decide) (dep_done hdep 2 (by kernel_rfl)) rfl (of_decide_eq_true (by kernel_rfl))).trans (hv 2 (by decide) (by decide) (dep_done hdep 2 (by kernel_rfl)) (by decide))
            refine ⟨rfl,oper_call (exec_enter2 rfl rfl h1 h2 (by go_simp)) ((fmul_any c1 c10 (pw x 1606938044258990275541962092339894951921974764381296132096000) (pw x 1267650600228229401496703205375) W hE1 HE10.out).mono ?_)⟩
            rintro r W' ⟨c,rfl,he,hb'⟩
            rw [pw_add x 1606938044258990275541962092339894951921974764381296132096000 1267650600228229401496703205375 1606938044258990275541962092341162602522202993782792835301375 (by decide)] at he
            exact ⟨_,rfl,_,rfl,⟨c,rfl,he⟩,hb'⟩
          ·intro v g W hs hp hd hb
           have e0:v 0 = .agg c10.toArray:=hs 0 (by decide) (by decide) (by decide)
           obtain ⟨cq,e1,hEq⟩:∃ c:List Value,v 1 = .agg c.toArray ∧ Elm c (pw x 1606938044258990275541962092339894951921974764381296132096000):=hs 1 (by decide) (by decide) (by decide)
           have e2:v 2 = .agg c10.toArray:=hs 2 (by decide) (by decide) (by decide)
           obtain ⟨cm,e3,hEm⟩:∃ c:List Value,v 3 = .agg c.toArray ∧ Elm c (pw x 1606938044258990275541962092341162602522202993782792835301375):=hs 3 (by decide) (by decide) (by decide)
           obtain ⟨e4,hge,c,n,hc,hE,hC⟩:=hp 4 (by decide)
           obtain rfl:c = cm:=agg_inj (hc.symm.trans e3)
           refine wp_tail_eq (l':=[]) (a':={ tmps:=#[.agg A.toArray,.pointer (some ⟨w.heap.size,0,none⟩),.pointer (some ⟨w.heap.size + 1,0,none⟩),.pointer (some ⟨g3,0,none⟩),.pointer (some ⟨g4,0,none⟩),.pointer (some ⟨g5,0,none⟩),.pointer (some ⟨g6,0,none⟩),.pointer (some ⟨g7,0,none⟩),.pointer (some ⟨g8,0,none⟩),.pointer (some ⟨g9,0,none⟩),.pointer (some ⟨g10,0,none⟩),v 4,undef,.agg A.toArray,.agg q3.toArray,.agg A.toArray,.agg c3.toArray,.agg A.toArray,.agg q4.toArray,.agg c3.toArray,.agg c4.toArray,.agg c4.toArray,.agg q5.toArray,.agg c3.toArray,.agg c5.toArray,.agg c5.toArray,.agg q6.toArray,.agg c5.toArray,.agg c6.toArray,.agg c6.toArray,.agg q7.toArray,.agg c6.toArray,.agg c7.toArray,.agg c7.toArray,.agg q8.toArray,.agg c7.toArray,.agg c8.toArray,.agg c8.toArray,.agg q9.toArray,.agg c6.toArray,.agg c9.toArray,.agg c9.toArray,.agg q10.toArray,.agg c9.toArray,.agg c10.toArray,v 0,v 1,v 2,v 3,undef,undef,undef,undef,undef,undef,undef,undef],defers:=[] }) (by kernel_rfl) (by kernel_rfl) ?_
           rw [e0,e1,e2,e3,e4]
           refine ⟨rfl,g 4,cq,c,rfl,hEm,?_,HWd.out.trans (hb.mono HWd.out.size)⟩
           ·exact ((HVd.out.later hb).sub (.cons_cons _ (.cons_cons _ (.cons_cons _ (.cons _ .slnil))))).add _ _ _ hC (fun p hp => by have:=HVd.out.lt p (List.Sublist.subset (.cons_cons _ (.cons_cons _ (.cons_cons _ (.cons _ .slnil)))) hp);omega)
         ·rintro a W9 ⟨g11,q11,c11,rfl,HE11,HV,HW⟩
          (try dsimp only)
          go_wp2
          refine wp_cut (fun a W => ∃ (g12:Nat) (q12 c12:List Value),a = { tmps:=#[.agg A.toArray,.pointer (some ⟨w.heap.size,0,none⟩),.pointer (some ⟨w.heap.size + 1,0,none⟩),.pointer (some ⟨g3,0,none⟩),.pointer (some ⟨g4,0,none⟩),.pointer (some ⟨g5,0,none⟩),.pointer (some ⟨g6,0,none⟩),.pointer (some ⟨g7,0,none⟩),.pointer (some ⟨g8,0,none⟩),.pointer (some ⟨g9,0,none⟩),.pointer (some ⟨g10,0,none⟩),.pointer (some ⟨g11,0,none⟩),.pointer (some ⟨g12,0,none⟩),.agg A.toArray,.agg q3.toArray,.agg A.toArray,.agg c3.toArray,.agg A.toArray,.agg q4.toArray,.agg c3.toArray,.agg c4.toArray,.agg c4.toArray,.agg q5.toArray,.agg c3.toArray,.agg c5.toArray,.agg c5.toArray,.agg q6.toArray,.agg c5.toArray,.agg c6.toArray,.agg c6.toArray,.agg q7.toArray,.agg c6.toArray,.agg c7.toArray,.agg c7.toArray,.agg q8.toArray,.agg c7.toArray,.agg c8.toArray,.agg c8.toArray,.agg q9.toArray,.agg c6.toArray,.agg c9.toArray,.agg c9.toArray,.agg q10.toArray,.agg c9.toArray,.agg c10.toArray,.agg c10.toArray,.agg q11.toArray,.agg c10.toArray,.agg c11.toArray,.agg c11.toArray,.agg q12.toArray,.agg c9.toArray,.agg c12.toArray,undef,undef,undef,undef],defers:=[] } ∧ Hid (Elm c12 (pw x 1809251394333065553493296640760748560207343510400633813116524750123642650623)) ∧ Hid (Vr W [(w.heap.size + 1,96,zeroE),(g4,96,c4),(g12,96,c12)]) ∧ Hid (Below w.heap.size w W)) ?_ ?_
          ·have HVd:Hid (Vr W9.drew [(w.heap.size + 1,96,zeroE),(g4,96,c4),(g9,96,c9),(g11,96,c11)]):=HV.out.later ((Below.refl _ _).drew)
           have HWd:Hid (Below w.heap.size w W9.drew):=HW.out.drew
           refine wp_region_elems 6 (Nat.le_refl _) (by kernel_rfl) (by kernel_rfl) (by kernel_rfl) (by kernel_rfl) [4] (fun _ => 5) (fun _ => 3) (plc_of (by kernel_rfl)) (fun j x' => match j with | 0 => x' = .agg c11.toArray | 1 => ∃ c:List Value,x' = .agg c.toArray ∧ Elm c (pw x 1809251394333065553493296640760748560207343510400633813116523624223735808000) | 2 => x' = .agg c9.toArray | 3 => ∃ c:List Value,x' = .agg c.toArray ∧ Elm c (pw x 1809251394333065553493296640760748560207343510400633813116524750123642650623) | _ => True) ?_ ?_ ?_
           ·intro p hp x' hx'
            obtain rfl:p = 4:=by simpa using hp
            obtain ⟨c,hc,hE⟩:=hx'
            exact ⟨c,_,hc,hE⟩
           ·intro d v W i o AA hi hia his ho hv hdep hA hb
            have hcs:i = 0 ∨ i = 1 ∨ i = 2 ∨ i = 3:=by simp at hia his;omega
            rcases hcs with rfl | rfl | rfl | rfl
            ·cases ho
             exact ⟨rfl,oper_val (exec_load_row 96 _ rfl (g11) ((hA.slot 11 (by kernel_rfl)).trans rfl) 96 _ (0,0) _ ((HVd.out.later hb).cell (g11,96,c11) (by simp)) Tryz.underlying96 rfl (elm_info HE11.out)) ⟨_,rfl,rfl,Below.refl _ _⟩⟩
            ·cases ho
             have h0:AA.eval (.tmp 49) = .agg c11.toArray:=(hA.new 0 49 (by decide) (dep_done hdep 0 (by kernel_rfl)) rfl (of_decide_eq_true (by kernel_rfl))).trans (hv 0 (by decide) (by decide) (dep_done hdep 0 (by kernel_rfl)) (by decide))
             refine ⟨rfl,oper_call (exec_enter2 (vy:=.int .i64 ((50:Nat):Int)) rfl rfl h0 rfl (by go_simp)) ((fsquares_any 50 x 1606938044258990275541962092341162602522202993782792835301375 1809251394333065553493296640760748560207343510400633813116523624223735808000 c11 W (by decide) HE11.out (by decide)).mono ?_)⟩
             rintro r W' ⟨c,rfl,he,hb'⟩
             exact ⟨_,rfl,_,rfl,⟨c,rfl,he⟩,hb'⟩
            ·cases ho
             exact ⟨rfl,oper_val (exec_load_row 96 _ rfl (g9) ((hA.slot 9 (by kernel_rfl)).trans rfl) 96 _ (0,0) _ ((HVd.out.later hb).cell (g9,96,c9) (by simp)) Tryz.underlying96 rfl (elm_info HE9.out)) ⟨_,rfl,rfl,Below.refl _ _⟩⟩
            ·cases ho
             obtain ⟨c1,hc1,hE1⟩:=hv 1 (by decide) (by decide) (dep_done hdep 1 (by kernel_rfl)) (by decide)
             have h1:AA.eval (.tmp 50) = .agg c1.toArray:=(hA.new 1 50 (by decide) (dep_done hdep 1 (by kernel_rfl)) rfl (of_decide_eq_true (by kernel_rfl))).trans hc1
             have h2:AA.eval (.tmp 51) = .agg c9.toArray:=(hA.new 2 51 (by decide) (dep_done hdep 2 (by kernel_rfl)) rfl (of_decide_eq_true (by kernel_rfl))).trans (hv 2 (by decide) (by decide) (dep_done hdep 2 (by kernel_rfl)) (by decide))
             refine ⟨rfl,oper_call (exec_enter2 rfl rfl h1 h2 (by go_simp)) ((fmul_any c1 c9 (pw x 1809251394333065553493296640760748560207343510400633813116523624223735808000) (pw x 1125899906842623) W hE1 HE9.out).mono ?_)⟩
             rintro r W' ⟨c,rfl,he,hb'⟩
             rw [pw_add x 1809251394333065553493296640760748560207343510400633813116523624223735808000 1125899906842623 1809251394333065553493296640760748560207343510400633813116524750123642650623 (by decide)] at he
             exact ⟨_,rfl,_,rfl,⟨c,rfl,he⟩,hb'⟩
           ·intro v g W hs hp hd hb
            have e0:v 0 = .agg c11.toArray:=hs 0 (by decide) (by decide) (by decide)
            obtain ⟨cq,e1,hEq⟩:∃ c:List Value,v 1 = .agg c.toArray ∧ Elm c (pw x 1809251394333065553493296640760748560207343510400633813116523624223735808000):=hs 1 (by decide) (by decide) (by decide)
            have e2:v 2 = .agg c9.toArray:=hs 2 (by decide) (by decide) (by decide)
            obtain ⟨cm,e3,hEm⟩:∃ c:List Value,v 3 = .agg c.toArray ∧ Elm c (pw x 1809251394333065553493296640760748560207343510400633813116524750123642650623):=hs 3 (by decide) (by decide) (by decide)
            obtain ⟨e4,hge,c,n,hc,hE,hC⟩:=hp 4 (by decide)
            obtain rfl:c = cm:=agg_inj (hc.symm.trans e3)
            refine wp_tail_eq (l':=[]) (a':={ tmps:=#[.agg A.toArray,.pointer (some ⟨w.heap.size,0,none⟩),.pointer (some ⟨w.heap.size + 1,0,none⟩),.pointer (some ⟨g3,0,none⟩),.pointer (some ⟨g4,0,none⟩),.pointer (some ⟨g5,0,none⟩),.pointer (some ⟨g6,0,none⟩),.pointer (some ⟨g7,0,none⟩),.pointer (some ⟨g8,0,none⟩),.pointer (some ⟨g9,0,none⟩),.pointer (some ⟨g10,0,none⟩),.pointer (some ⟨g11,0,none⟩),v 4,.agg A.toArray,.agg q3.toArray,.agg A.toArray,.agg c3.toArray,.agg A.toArray,.agg q4.toArray,.agg c3.toArray,.agg c4.toArray,.agg c4.toArray,.agg q5.toArray,.agg c3.toArray,.agg c5.toArray,.agg c5.toArray,.agg q6.toArray,.agg c5.toArray,.agg c6.toArray,.agg c6.toArray,.agg q7.toArray,.agg c6.toArray,.agg c7.toArray,.agg c7.toArray,.agg q8.toArray,.agg c7.toArray,.agg c8.toArray,.agg c8.toArray,.agg q9.toArray,.agg c6.toArray,.agg c9.toArray,.agg c9.toArray,.agg q10.toArray,.agg c9.toArray,.agg c10.toArray,.agg c10.toArray,.agg q11.toArray,.agg c10.toArray,.agg c11.toArray,v 0,v 1,v 2,v 3,undef,undef,undef,undef],defers:=[] }) (by kernel_rfl) (by kernel_rfl) ?_
            rw [e0,e1,e2,e3,e4]
            refine ⟨rfl,g 4,cq,c,rfl,hEm,?_,HWd.out.trans (hb.mono HWd.out.size)⟩
            ·exact ((HVd.out.later hb).sub (.cons_cons _ (.cons_cons _ (.cons _ (.cons _ .slnil))))).add _ _ _ hC (fun p hp => by have:=HVd.out.lt p (List.Sublist.subset (.cons_cons _ (.cons_cons _ (.cons _ (.cons _ .slnil)))) hp);omega)
          ·rintro a W10 ⟨g12,q12,c12,rfl,HE12,HV,HW⟩
           (try dsimp only)
           go_wp2
           have HVd:Hid (Vr W10.drew [(w.heap.size + 1,96,zeroE),(g4,96,c4),(g12,96,c12)]):=HV.out.later ((Below.refl _ _).drew)
           have HWd:Hid (Below w.heap.size w W10.drew):=HW.out.drew
           refine wp_region_elems 4 (by decide) (by kernel_rfl) (by kernel_rfl) (by kernel_rfl) (by kernel_rfl) [] (fun _ => 0) (fun _ => 0) none_stores (fun j x' => match j with | 0 => x' = .agg c12.toArray | 1 => ∃ c:List Value,x' = .agg c.toArray ∧ Elm c (pw x 57896044618658097711785492504343953926634992332820282019728792003956564819936) | 2 => x' = .agg c4.toArray | 3 => ∃ c:List Value,x' = .agg c.toArray ∧ Elm c (pw x 57896044618658097711785492504343953926634992332820282019728792003956564819947) | _ => True) ?_ ?_ ?_
           ·intro p hp
            cases hp
           ·intro d v W i o AA hi hia his ho hv hdep hA hb
            have hcs:i = 0 ∨ i = 1 ∨ i = 2 ∨ i = 3:=by omega
            rcases hcs with rfl | rfl | rfl | rfl
            ·cases ho
             exact ⟨rfl,oper_val (exec_load_row 96 _ rfl (g12) ((hA.slot 12 (by kernel_rfl)).trans rfl) 96 _ (0,0) _ ((HVd.out.later hb).cell (g12,96,c12) (by simp)) Tryz.underlying96 rfl (elm_info HE12.out)) ⟨_,rfl,rfl,Below.refl _ _⟩⟩
            ·cases ho
             have h0:AA.eval (.tmp 53) = .agg c12.toArray:=(hA.new 0 53 (by decide) (dep_done hdep 0 (by kernel_rfl)) rfl (of_decide_eq_true (by kernel_rfl))).trans (hv 0 (by decide) (by decide) (dep_done hdep 0 (by kernel_rfl)) (by decide))
             refine ⟨rfl,oper_call (exec_enter2 (vy:=.int .i64 ((5:Nat):Int)) rfl rfl h0 rfl (by go_simp)) ((fsquares_any 5 x 1809251394333065553493296640760748560207343510400633813116524750123642650623 57896044618658097711785492504343953926634992332820282019728792003956564819936 c12 W (by decide) HE12.out (by decide)).mono ?_)⟩
             rintro r W' ⟨c,rfl,he,hb'⟩
             exact ⟨_,rfl,_,rfl,⟨c,rfl,he⟩,hb'⟩
            ·cases ho
             exact ⟨rfl,oper_val (exec_load_row 96 _ rfl (g4) ((hA.slot 4 (by kernel_rfl)).trans rfl) 96 _ (0,0) _ ((HVd.out.later hb).cell (g4,96,c4) (by simp)) Tryz.underlying96 rfl (elm_info HE4.out)) ⟨_,rfl,rfl,Below.refl _ _⟩⟩
            ·cases ho
             obtain ⟨c1,hc1,hE1⟩:=hv 1 (by decide) (by decide) (dep_done hdep 1 (by kernel_rfl)) (by decide)
             have h1:AA.eval (.tmp 54) = .agg c1.toArray:=(hA.new 1 54 (by decide) (dep_done hdep 1 (by kernel_rfl)) rfl (of_decide_eq_true (by kernel_rfl))).trans hc1
             have h2:AA.eval (.tmp 55) = .agg c4.toArray:=(hA.new 2 55 (by decide) (dep_done hdep 2 (by kernel_rfl)) rfl (of_decide_eq_true (by kernel_rfl))).trans (hv 2 (by decide) (by decide) (dep_done hdep 2 (by kernel_rfl)) (by decide))
             refine ⟨rfl,oper_call (exec_enter2 rfl rfl h1 h2 (by go_simp)) ((fmul_any c1 c4 (pw x 57896044618658097711785492504343953926634992332820282019728792003956564819936) (pw x 11) W hE1 HE4.out).mono ?_)⟩
             rintro r W' ⟨c,rfl,he,hb'⟩
             rw [pw_add x 57896044618658097711785492504343953926634992332820282019728792003956564819936 11 57896044618658097711785492504343953926634992332820282019728792003956564819947 (by decide)] at he
             exact ⟨_,rfl,_,rfl,⟨c,rfl,he⟩,hb'⟩
           ·intro v g W hs hp hd hb
            have e0:v 0 = .agg c12.toArray:=hs 0 (by decide) (by decide) (by decide)
            obtain ⟨cq,e1,hEq⟩:∃ c:List Value,v 1 = .agg c.toArray ∧ Elm c (pw x 57896044618658097711785492504343953926634992332820282019728792003956564819936):=hs 1 (by decide) (by decide) (by decide)
            have e2:v 2 = .agg c4.toArray:=hs 2 (by decide) (by decide) (by decide)
            obtain ⟨c,e3,hEm⟩:∃ c:List Value,v 3 = .agg c.toArray ∧ Elm c (pw x 57896044618658097711785492504343953926634992332820282019728792003956564819947):=hs 3 (by decide) (by decide) (by decide)
            have hR:=(HVd.out.later hb).cell (w.heap.size + 1,96,zeroE) (by simp)
            have hlen:=hEm.len
            have hst:=store_row W (w.heap.size + 1) _ _ c hR (by simp [hlen,zeroE_len]) hEm.one
            have hrow:=setRow_heap W (w.heap.size + 1) _ c.toArray _ _ hR
            have HBel:Hid (Below w.heap.size w (W.setRow (w.heap.size + 1) c.toArray)):=below_setRow (HWd.out.trans (hb.mono HWd.out.size)) (by omega) _
            obtain ⟨X,hX⟩:∃ X,W.setRow (w.heap.size + 1) c.toArray = X:=⟨_,rfl⟩
            rw [hX] at hst hrow HBel
            have HRow:Hid (X.heap[w.heap.size + 1]? = some (.cells c.toArray 96 (0,0))):=hrow
            have HEc:=hidup hEm
            clear hR hrow hX hEm
            refine wp_tail_eq (a':={ tmps:=#[.agg A.toArray,.pointer (some ⟨w.heap.size,0,none⟩),.pointer (some ⟨w.heap.size + 1,0,none⟩),.pointer (some ⟨g3,0,none⟩),.pointer (some ⟨g4,0,none⟩),.pointer (some ⟨g5,0,none⟩),.pointer (some ⟨g6,0,none⟩),.pointer (some ⟨g7,0,none⟩),.pointer (some ⟨g8,0,none⟩),.pointer (some ⟨g9,0,none⟩),.pointer (some ⟨g10,0,none⟩),.pointer (some ⟨g11,0,none⟩),.pointer (some ⟨g12,0,none⟩),.agg A.toArray,.agg q3.toArray,.agg A.toArray,.agg c3.toArray,.agg A.toArray,.agg q4.toArray,.agg c3.toArray,.agg c4.toArray,.agg c4.toArray,.agg q5.toArray,.agg c3.toArray,.agg c5.toArray,.agg c5.toArray,.agg q6.toArray,.agg c5.toArray,.agg c6.toArray,.agg c6.toArray,.agg q7.toArray,.agg c6.toArray,.agg c7.toArray,.agg c7.toArray,.agg q8.toArray,.agg c7.toArray,.agg c8.toArray,.agg c8.toArray,.agg q9.toArray,.agg c6.toArray,.agg c9.toArray,.agg c9.toArray,.agg q10.toArray,.agg c9.toArray,.agg c10.toArray,.agg c10.toArray,.agg q11.toArray,.agg c10.toArray,.agg c11.toArray,.agg c11.toArray,.agg q12.toArray,.agg c9.toArray,.agg c12.toArray,v 0,v 1,v 2,v 3],defers:=[] }) rfl (by kernel_rfl) ?_
            rw [e0,e1,e2,e3]
            clear e0 e1 e2 e3 hs hp hd
            go_wp2
            (try simp only [Exit.inBlock,Exit.then])
            refine bodyPost_ret (results_cell_row rfl _ _ (w.heap.size + 1) 96 _ (0,0) _ rfl HRow.out Tryz.underlying96 rfl (elm_info HEc.out)) rfl ?_
            exact ⟨c,rfl,HEc.out,HBel.out⟩
end Go.Proofs.YthmkhdnnljdglaaGreatDoor
