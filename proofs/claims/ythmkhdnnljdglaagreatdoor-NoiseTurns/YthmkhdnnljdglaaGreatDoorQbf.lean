import Derived.Test.YthmkhdnnljdglaaGreatDoorQbe
import Derived.Test.YthmkhdnnljdglaaGreatDoorQaz
import Derived.Test.YthmkhdnnljdglaaGreatDoorQaf
import Derived.Test.YthmkhdnnljdglaaGreatDoorQaw
import Derived.Test.YthmkhdnnljdglaaGreatDoorQba
import Derived.Recover
namespace Go.Proofs.YthmkhdnnljdglaaGreatDoor
set_option linter.unusedVariables false
set_option maxRecDepth 100000
open Go.RowKit
set_option maxHeartbeats 16000000 in
set_option maxRecDepth 100000 in
theorem mult_any (k u:List UInt8) (w:World) (hk:k.length = 32) (hu:u.length = 32) (htab:FTab w) :
  Calls Tryz.prog 28 #[.agg (k.map bv).toArray,.agg (u.map bv).toArray] w fun e w' => e = .returned (.agg ((leB 32 (mK k u)).map bv).toArray) ∧ Below w.heap.size w w':=by
 have HTab:Hid (FTab w):=htab
 have HZero:Hid (Elm zeroE 0):=elm_zero
 have hI:Hid (∀ l:List UInt8,l.length = 32 → (Tryz.prog.info? 24).map (·.size) = some (l.map bv).toArray.size):=fun l hl => info_size (n:=32) (by kernel_rfl) l hl
 obtain ⟨U,hU⟩:∃ U,modU u = U:=⟨_,rfl⟩
 obtain ⟨K,hK⟩:∃ K,clampK (leN k) = K:=⟨_,rfl⟩
 have HmK:Hid (mK k u = mX K U):=by show _ = _;rw [mK,hU,hK]
 have HK:Hid (clampK (leN k) = K):=hK
 have HU:Hid (leN u % 2 ^ 255 % P255 = U):=hU
 have HV0:Hid (Vw w (((w.alloc (.cells (k.map bv).toArray 24)).alloc (.cells (u.map bv).toArray 24)).alloc (.cells (zeroKb).toArray 24)) [(w.heap.size,24,k.map bv),(w.heap.size + 1,24,u.map bv),(w.heap.size + 1 + 1,24,zeroKb)]):=by
  have h:=(((Vw.none w).alloc 24 (k.map bv)).alloc 24 (u.map bv)).alloc 24 zeroKb
  simp only [World.size_alloc] at h
  exact h
 obtain ⟨kk,hkk⟩:∃ kk,keyB k = kk:=⟨_,rfl⟩
 have hkl:kk.length = 32:=by rw [← hkk,keyB_length,hk]
 have HKB:Hid (keyB k = kk):=hkk
 have HKk:Hid (leN kk = K):=by show _ = _;rw [← hkk,leN_keyB k hk,HK.out]
 have HKc:Hid (clampK (leN k) = leN kk):=by show _ = _;rw [HKk.out,HK.out]
 clear hU hK htab hkk HK
 go_enter Tryz.func28,Tryz.ntmps28
 refine wp_seq (wp_cut (fun a W => a = { tmps:=#[.agg (k.map bv).toArray,.agg (u.map bv).toArray,.pointer (some ⟨w.heap.size,0,none⟩),.pointer (some ⟨w.heap.size + 1,0,none⟩),.pointer (some ⟨w.heap.size + 1 + 1,0,none⟩),undef,undef,undef,undef,undef,undef,undef,undef,undef,undef,undef,undef,undef,undef,undef,undef,undef,undef,undef,undef,undef,undef,undef,undef,undef,undef,undef,undef,undef,undef,undef,undef,undef,undef,undef,undef,undef,undef,undef,undef,undef,undef,undef,undef,undef,undef,undef,undef,undef,undef,undef,undef,undef,undef,undef],defers:=[] } ∧ Hid (Vw w W [(w.heap.size,24,k.map bv),(w.heap.size + 1,24,u.map bv),(w.heap.size + 1 + 1,24,zeroKb)])) ?_ ?_)
 ·go_wp2
  first | exact HV0 | exact ⟨rfl,HV0⟩ | exact ⟨rfl,rfl,HV0⟩
 ·rintro a W0 ⟨rfl,HV⟩
  clear HV0
  simp only [Exit.then]
  go_wp2_with (first | (refine wpList_load_row rfl 24 _ rfl (w.heap.size) rfl 24 (k.map bv).toArray (0,0) _ ?_ Tryz.underlying24 rfl (hI.out k hk) ?_;exact HV.out.cell (w.heap.size,24,k.map bv) (by simp)) | fail)
  refine (number_any k W0 hk).mono ?_
  rintro e V0 ⟨rfl,hb⟩
  rw [HKB.out]
  have hV:=HV.out.later hb
  have hst:=store_row V0 (w.heap.size) _ _ (kk.map bv) (hV.cell (w.heap.size,24,k.map bv) (by simp)) (by simp [hkl,hk]) (bv_oneCell kk)
  have hV1:=hV.put 0 (w.heap.size) 24 (k.map bv) (kk.map bv) rfl
  obtain ⟨X0,hX0⟩:∃ X,V0.setRow (w.heap.size) (kk.map bv).toArray = X:=⟨_,rfl⟩
  rw [hX0] at hst hV1
  replace HV:Hid (Vw w X0 [(w.heap.size,24,kk.map bv),(w.heap.size + 1,24,u.map bv),(w.heap.size + 1 + 1,24,zeroKb)]):=hV1
  clear hb hV hV1 hX0
  go_wp2_with (first | (refine wpList_load_row rfl 24 _ rfl (w.heap.size + 1) rfl 24 (u.map bv).toArray (0,0) _ ?_ Tryz.underlying24 rfl (hI.out u hu) ?_;exact HV.out.cell (w.heap.size + 1,24,u.map bv) (by simp)) | fail)
  clear hst
  refine (ffrom_any u X0 hu).mono ?_
  rintro e V1 ⟨c5,rfl,he,hb⟩
  rw [HU.out] at he
  have HE5:Hid (Elm c5 U):=he
  have hlen5:=he.len
  have hst:=elm_store V1 he
  have hV1:=(HV.out.later hb).alloc 96 c5
  obtain ⟨W1,hW1⟩:∃ W,V1.alloc (.cells c5.toArray 96) = W:=⟨_,rfl⟩
  rw [hW1] at hst hV1
  replace HV:Hid (Vw w W1 [(w.heap.size,24,kk.map bv),(w.heap.size + 1,24,u.map bv),(w.heap.size + 1 + 1,24,zeroKb),(V1.heap.size,96,c5)]):=hV1
  clear he hb hV1 hW1
  go_wp2
  clear hst
  generalize V1.heap.size = g5 at *
  refine wp_cut (fun a W => ∃ (g6 g7:Nat) (q14 q15 q17 q18:List Value),a = { tmps:=#[.agg (k.map bv).toArray,.agg (u.map bv).toArray,.pointer (some ⟨w.heap.size,0,none⟩),.pointer (some ⟨w.heap.size + 1,0,none⟩),.pointer (some ⟨w.heap.size + 1 + 1,0,none⟩),.pointer (some ⟨g5,0,none⟩),.pointer (some ⟨g6,0,none⟩),.pointer (some ⟨g7,0,none⟩),undef,undef,.agg (k.map bv).toArray,.agg (kk.map bv).toArray,.agg (u.map bv).toArray,.agg c5.toArray,.agg q14.toArray,.agg q15.toArray,.agg c5.toArray,.agg q17.toArray,.agg q18.toArray,undef,undef,undef,undef,undef,undef,undef,undef,undef,undef,undef,undef,undef,undef,undef,undef,undef,undef,undef,undef,undef,undef,undef,undef,undef,undef,undef,undef,undef,undef,undef,undef,undef,undef,undef,undef,undef,undef,undef,undef,undef],defers:=[] } ∧ Hid (Elm q14 (1)) ∧ Hid (PtE q15 (1) (0)) ∧ Hid (Elm q17 (1)) ∧ Hid (PtE q18 (U) (1)) ∧ Hid (Vw w W [(w.heap.size,24,kk.map bv),(w.heap.size + 1,24,u.map bv),(w.heap.size + 1 + 1,24,zeroKb),(g5,96,c5),(g6,101,q15),(g7,101,q18)])) ?_ ?_
  ·have HVd:Hid (Vw w W1.drew [(w.heap.size,24,kk.map bv),(w.heap.size + 1,24,u.map bv),(w.heap.size + 1 + 1,24,zeroKb),(g5,96,c5)]):=HV.out.drew
   refine wp_region_points 9 (Nat.le_refl _) (by kernel_rfl) (by kernel_rfl) (by kernel_rfl) (by kernel_rfl) [5,6] (fun p => if p = 5 then 7 else 8) (fun p => if p = 5 then 1 else 4) (plc_ofP (by kernel_rfl)) (fun j x' => match j with | 0 => ∃ c:List Value,x' = .agg c.toArray ∧ Elm c (1) | 1 => ∃ c:List Value,x' = .agg c.toArray ∧ PtE c (1) (0) | 2 => x' = .agg c5.toArray | 3 => ∃ c:List Value,x' = .agg c.toArray ∧ Elm c (1) | 4 => ∃ c:List Value,x' = .agg c.toArray ∧ PtE c (U) (1) | _ => True) ?_ ?_ ?_
   ·intro p hp x' hx'
    simp only [List.mem_cons,List.not_mem_nil,or_false] at hp
    rcases hp with rfl | rfl
    ·obtain ⟨c,hc,hE⟩:=hx'
     exact ⟨c,_,hc,hE.ptc⟩
    ·obtain ⟨c,hc,hE⟩:=hx'
     exact ⟨c,_,hc,hE.ptc⟩
   ·intro d v W i o AA hi hia his ho hv hdep hA hb
    have hcs:i = 0 ∨ i = 1 ∨ i = 2 ∨ i = 3 ∨ i = 4:=by simp at hia his;omega
    rcases hcs with rfl | rfl | rfl | rfl | rfl
    ·cases ho
     refine ⟨rfl,oper_call (exec_enter1 (vx:=.int .u32 ((1:Nat):Int)) rfl rfl rfl (by go_simp)) ((fsmall_any 1 W (by decide)).mono ?_)⟩
     rintro r W' ⟨c,rfl,he,hb'⟩
     exact ⟨_,rfl,_,rfl,⟨c,rfl,he⟩,hb'⟩
    ·cases ho
     obtain ⟨c0,hc0,hE0⟩:∃ c:List Value,v 0 = .agg c.toArray ∧ Elm c (1):=hv 0 (by decide) (by decide) (dep_done hdep 0 (by kernel_rfl)) (by decide)
     have h0:AA.eval (.tmp 14) = .agg c0.toArray:=(hA.new 0 14 (by decide) (dep_done hdep 0 (by kernel_rfl)) rfl (of_decide_eq_true (by kernel_rfl))).trans hc0
     exact ⟨rfl,oper_val (exec_build1 rfl h0 hE0) ⟨_,rfl,⟨_,rfl,_,_,rfl,hE0,elm_zero⟩,Below.refl _ _⟩⟩
    ·cases ho
     exact ⟨rfl,oper_val (exec_load_row 96 _ rfl (g5) ((hA.slot 5 (by kernel_rfl)).trans rfl) 96 _ (0,0) _ ((HVd.out.later hb).cell (g5,96,c5) (by simp)) Tryz.underlying96 rfl (elm_info HE5.out)) ⟨_,rfl,rfl,Below.refl _ _⟩⟩
    ·cases ho
     refine ⟨rfl,oper_call (exec_enter1 (vx:=.int .u32 ((1:Nat):Int)) rfl rfl rfl (by go_simp)) ((fsmall_any 1 W (by decide)).mono ?_)⟩
     rintro r W' ⟨c,rfl,he,hb'⟩
     exact ⟨_,rfl,_,rfl,⟨c,rfl,he⟩,hb'⟩
    ·cases ho
     have h0:AA.eval (.tmp 16) = .agg c5.toArray:=(hA.new 2 16 (by decide) (dep_done hdep 2 (by kernel_rfl)) rfl (of_decide_eq_true (by kernel_rfl))).trans (hv 2 (by decide) (by decide) (dep_done hdep 2 (by kernel_rfl)) (by decide))
     obtain ⟨c1,hc1,hE1⟩:∃ c:List Value,v 3 = .agg c.toArray ∧ Elm c (1):=hv 3 (by decide) (by decide) (dep_done hdep 3 (by kernel_rfl)) (by decide)
     have h1:AA.eval (.tmp 17) = .agg c1.toArray:=(hA.new 3 17 (by decide) (dep_done hdep 3 (by kernel_rfl)) rfl (of_decide_eq_true (by kernel_rfl))).trans hc1
     exact ⟨rfl,oper_val (exec_build2 rfl h0 h1 HE5.out hE1) ⟨_,rfl,⟨_,rfl,_,_,rfl,HE5.out,hE1⟩,Below.refl _ _⟩⟩
   ·intro v g W hs hp hd hb
    obtain ⟨q14,e0,hQ0⟩:∃ c:List Value,v 0 = .agg c.toArray ∧ Elm c (1):=hs 0 (by decide) (by decide) (by decide)
    obtain ⟨q15,e1,hQ1⟩:∃ c:List Value,v 1 = .agg c.toArray ∧ PtE c (1) (0):=hs 1 (by decide) (by decide) (by decide)
    have e2:v 2 = .agg c5.toArray:=hs 2 (by decide) (by decide) (by decide)
    obtain ⟨q17,e3,hQ3⟩:∃ c:List Value,v 3 = .agg c.toArray ∧ Elm c (1):=hs 3 (by decide) (by decide) (by decide)
    obtain ⟨q18,e4,hQ4⟩:∃ c:List Value,v 4 = .agg c.toArray ∧ PtE c (U) (1):=hs 4 (by decide) (by decide) (by decide)
    obtain ⟨e5,hge5,c5',n5',hc5,hE5',hC5⟩:=hp 5 (by decide)
    obtain rfl:q15 = c5':=agg_inj (e1.symm.trans hc5)
    obtain ⟨e6,hge6,c6',n6',hc6,hE6',hC6⟩:=hp 6 (by decide)
    obtain rfl:q18 = c6':=agg_inj (e4.symm.trans hc6)
    have HVn:Vw w W ([(w.heap.size,24,kk.map bv),(w.heap.size + 1,24,u.map bv),(w.heap.size + 1 + 1,24,zeroKb),(g5,96,c5)] ++ [(g 5,101,q15),(g 6,101,q18)]):=HVd.out.places hb 101 g (fun p => match p with | 5 => q15 | 6 => q18 | _ => []) [5,6] (by decide) (by
     intro p hp
     simp only [List.mem_cons,List.not_mem_nil,or_false] at hp
     rcases hp with rfl | rfl
     ·exact ⟨hge5,hC5⟩
     ·exact ⟨hge6,hC6⟩) hd
    refine wp_tail_eq (l':=[]) (a':={ tmps:=#[.agg (k.map bv).toArray,.agg (u.map bv).toArray,.pointer (some ⟨w.heap.size,0,none⟩),.pointer (some ⟨w.heap.size + 1,0,none⟩),.pointer (some ⟨w.heap.size + 1 + 1,0,none⟩),.pointer (some ⟨g5,0,none⟩),v 5,v 6,undef,undef,.agg (k.map bv).toArray,.agg (kk.map bv).toArray,.agg (u.map bv).toArray,.agg c5.toArray,v 0,v 1,v 2,v 3,v 4,undef,undef,undef,undef,undef,undef,undef,undef,undef,undef,undef,undef,undef,undef,undef,undef,undef,undef,undef,undef,undef,undef,undef,undef,undef,undef,undef,undef,undef,undef,undef,undef,undef,undef,undef,undef,undef,undef,undef,undef,undef],defers:=[] }) (by kernel_rfl) (by kernel_rfl) ?_
    rw [e0,e1,e2,e3,e4,e5,e6]
    exact ⟨rfl,g 5,g 6,q14,q15,q17,q18,rfl,hQ0,hQ1,hQ3,hQ4,HVn⟩
  ·rintro a W1 ⟨g6,g7,q14,q15,q17,q18,rfl,HQ14,HQ15,HQ17,HQ18,HV⟩
   (try dsimp only)
   go_wp2
   have hK0:K / 2 ^ 255 = 0:=Nat.div_eq_of_lt (by rw [← HKk.out,← HKc.out];exact clampK_lt _)
   have HL0:Hid (Lad (phi U) (K / 2 ^ 255) (pt 1 0) (pt U 1)):=by
    rw [hK0]
    exact Lad.first (phi U)
   go_loopw [8] (fun i wr => ∃ (j:Nat) (c6 c7:List Value) (x2 z2 x3 z3:Nat),j ≤ 255 ∧ i = .int .i64 ((j:Int) - 1) ∧ Hid (PtE c6 x2 z2) ∧ Hid (PtE c7 x3 z3) ∧ Hid (Lad (phi U) (K / 2 ^ j) (pt x2 z2) (pt x3 z3)) ∧ Hid (Vw w wr [(w.heap.size,24,kk.map bv),(w.heap.size + 1,24,u.map bv),(w.heap.size + 1 + 1,24,zeroKb),(g5,96,c5),(g6,101,c6),(g7,101,c7)])) (fun i _ => (intOf i + 1).toNat)
   case atStart => exact ⟨255,q15,q18,1,0,U,1,by omega,rfl,HQ15,HQ18,HL0,HV⟩
   case round =>
    clear HL0 HV hK0
    obtain ⟨j,c6,c7,x2,z2,x3,z3,hj,rfl,HP6,HP7,HL,HV⟩:=hrel
    by_cases hj0:j = 0
    ·subst hj0
     have hi:((0:Nat):Int) - 1 = -1:=by omega
     rw [hi]
     go_wp2
     have hZ2:z2 < P255:=by obtain ⟨_,_,_,_,h⟩:=HP6.out;exact h.lt
     have hend:=lad_end HL.out hZ2
     have HEnd:=hidup hend
     clear hend hZ2
     obtain ⟨ac6,bc6,ec6,xc6,zc6⟩:=HP6.out
     have Ec6:=hidup ec6
     have Xc6:=hidup xc6
     have Zc6:=hidup zc6
     clear ec6 xc6 zc6
     have HVd:Hid (Vw w wr.drew [(w.heap.size,24,kk.map bv),(w.heap.size + 1,24,u.map bv),(w.heap.size + 1 + 1,24,zeroKb),(g5,96,c5),(g6,101,c6),(g7,101,c7)]):=HV.out.drew
     refine wp_region_elems 7 (by decide) (by kernel_rfl) (by kernel_rfl) (by kernel_rfl) (by kernel_rfl) [] (fun _ => 0) (fun _ => 0) none_stores (fun j x' => match j with | 0 => x' = .pointer (some ⟨g6,0,none⟩) | 1 => x' = .agg ac6.toArray | 2 => x' = .pointer (some ⟨g6,5,none⟩) | 3 => x' = .agg bc6.toArray | 4 => ∃ c:List Value,x' = .agg c.toArray ∧ Elm c (finv (z2)) | 5 => ∃ c:List Value,x' = .agg c.toArray ∧ Elm c (fM (x2) (finv (z2))) | 6 => x' = .agg ((leB 32 (fM (x2) (finv (z2)))).map bv).toArray | _ => True) ?_ ?_ ?_
     ·intro p hp x' hx'
      cases hp
     ·intro d v W i o AA hi hia his ho hv hdep hA hb
      have hcs:i = 0 ∨ i = 1 ∨ i = 2 ∨ i = 3 ∨ i = 4 ∨ i = 5 ∨ i = 6:=by omega
      rcases hcs with rfl | rfl | rfl | rfl | rfl | rfl | rfl
      ·cases ho
       exact ⟨rfl,oper_val (exec_px rfl ((hA.slot 6 (by kernel_rfl)).trans rfl)) ⟨_,rfl,rfl,Below.refl _ _⟩⟩
      ·cases ho
       have h0:AA.eval (.tmp 53) = .pointer (some ⟨g6,0,none⟩):=(hA.new 0 53 (by decide) (dep_done hdep 0 (by kernel_rfl)) rfl (of_decide_eq_true (by kernel_rfl))).trans (hv 0 (by decide) (by decide) (dep_done hdep 0 (by kernel_rfl)) (by decide))
       exact ⟨rfl,oper_val (exec_load_x rfl h0 ((HVd.out.later hb).cell (g6,101,c6) (by simp)) Ec6.out Xc6.out) ⟨_,rfl,rfl,Below.refl _ _⟩⟩
      ·cases ho
       exact ⟨rfl,oper_val (exec_pz rfl ((hA.slot 6 (by kernel_rfl)).trans rfl)) ⟨_,rfl,rfl,Below.refl _ _⟩⟩
      ·cases ho
       have h0:AA.eval (.tmp 55) = .pointer (some ⟨g6,5,none⟩):=(hA.new 2 55 (by decide) (dep_done hdep 2 (by kernel_rfl)) rfl (of_decide_eq_true (by kernel_rfl))).trans (hv 2 (by decide) (by decide) (dep_done hdep 2 (by kernel_rfl)) (by decide))
       exact ⟨rfl,oper_val (exec_load_z rfl h0 ((HVd.out.later hb).cell (g6,101,c6) (by simp)) Ec6.out Xc6.out Zc6.out) ⟨_,rfl,rfl,Below.refl _ _⟩⟩
      ·cases ho
       have h0:AA.eval (.tmp 56) = .agg bc6.toArray:=(hA.new 3 56 (by decide) (dep_done hdep 3 (by kernel_rfl)) rfl (of_decide_eq_true (by kernel_rfl))).trans (hv 3 (by decide) (by decide) (dep_done hdep 3 (by kernel_rfl)) (by decide))
       refine ⟨rfl,oper_call (exec_enter1 rfl rfl h0 (by go_simp)) ((finv_any bc6 (z2) W Zc6.out).mono ?_)⟩
       rintro r W' ⟨c,rfl,he,hb'⟩
       exact ⟨_,rfl,_,rfl,⟨c,rfl,he⟩,hb'⟩
      ·cases ho
       have h0:AA.eval (.tmp 54) = .agg ac6.toArray:=(hA.new 1 54 (by decide) (dep_done hdep 1 (by kernel_rfl)) rfl (of_decide_eq_true (by kernel_rfl))).trans (hv 1 (by decide) (by decide) (dep_done hdep 1 (by kernel_rfl)) (by decide))
       obtain ⟨c1,hc1,hE1⟩:∃ c:List Value,v 4 = .agg c.toArray ∧ Elm c (finv (z2)):=hv 4 (by decide) (by decide) (dep_done hdep 4 (by kernel_rfl)) (by decide)
       have h1:AA.eval (.tmp 57) = .agg c1.toArray:=(hA.new 4 57 (by decide) (dep_done hdep 4 (by kernel_rfl)) rfl (of_decide_eq_true (by kernel_rfl))).trans hc1
       refine ⟨rfl,oper_call (exec_enter2 rfl rfl h0 h1 (by go_simp)) ((fmul_any ac6 c1 (x2) (finv (z2)) W Xc6.out hE1).mono ?_)⟩
       rintro r W' ⟨c,rfl,he,hb'⟩
       exact ⟨_,rfl,_,rfl,⟨c,rfl,he⟩,hb'⟩
      ·cases ho
       obtain ⟨c0,hc0,hE0⟩:∃ c:List Value,v 5 = .agg c.toArray ∧ Elm c (fM (x2) (finv (z2))):=hv 5 (by decide) (by decide) (dep_done hdep 5 (by kernel_rfl)) (by decide)
       have h0:AA.eval (.tmp 58) = .agg c0.toArray:=(hA.new 5 58 (by decide) (dep_done hdep 5 (by kernel_rfl)) rfl (of_decide_eq_true (by kernel_rfl))).trans hc0
       refine ⟨rfl,oper_call (exec_enter1 rfl rfl h0 (by go_simp)) ((fbytes_any c0 (fM (x2) (finv (z2))) W hE0).mono ?_)⟩
       rintro r W' ⟨rfl,hb'⟩
       exact ⟨_,rfl,_,rfl,rfl,hb'⟩
     ·intro v g W hs hp hd hb
      have e0:v 0 = .pointer (some ⟨g6,0,none⟩):=hs 0 (by decide) (by decide) (by decide)
      have e1:v 1 = .agg ac6.toArray:=hs 1 (by decide) (by decide) (by decide)
      have e2:v 2 = .pointer (some ⟨g6,5,none⟩):=hs 2 (by decide) (by decide) (by decide)
      have e3:v 3 = .agg bc6.toArray:=hs 3 (by decide) (by decide) (by decide)
      obtain ⟨q57,e4,hQ4⟩:∃ c:List Value,v 4 = .agg c.toArray ∧ Elm c (finv (z2)):=hs 4 (by decide) (by decide) (by decide)
      obtain ⟨q58,e5,hQ5⟩:∃ c:List Value,v 5 = .agg c.toArray ∧ Elm c (fM (x2) (finv (z2))):=hs 5 (by decide) (by decide) (by decide)
      have e6:v 6 = .agg ((leB 32 (fM (x2) (finv (z2)))).map bv).toArray:=hs 6 (by decide) (by decide) (by decide)
      have HVn:Vw w W _:=HVd.out.later hb
      refine wp_tail_eq (a':={ tmps:=#[.agg (k.map bv).toArray,.agg (u.map bv).toArray,.pointer (some ⟨w.heap.size,0,none⟩),.pointer (some ⟨w.heap.size + 1,0,none⟩),.pointer (some ⟨w.heap.size + 1 + 1,0,none⟩),.pointer (some ⟨g5,0,none⟩),.pointer (some ⟨g6,0,none⟩),.pointer (some ⟨g7,0,none⟩),.int .i64 (-1),u9,.agg (k.map bv).toArray,.agg (kk.map bv).toArray,.agg (u.map bv).toArray,.agg c5.toArray,.agg q14.toArray,.agg q15.toArray,.agg c5.toArray,.agg q17.toArray,.agg q18.toArray,.int .i64 (-1),.bool false,u21,u22,u23,u24,u25,u26,u27,u28,u29,u30,u31,u32,u33,u34,u35,u36,u37,u38,u39,u40,u41,u42,u43,u44,u45,u46,u47,u48,u49,u50,u51,u52,v 0,v 1,v 2,v 3,v 4,v 5,v 6],defers:=[] }) rfl (by kernel_rfl) ?_
      rw [e0,e1,e2,e3,e4,e5,e6]
      obtain ⟨LB,hLB⟩:∃ L,leB 32 (fM (x2) (finv (z2))) = L:=⟨_,rfl⟩
      have hLl:LB.length = 32:=by rw [← hLB,leB_length]
      have HRes:Hid (leB 32 (mK k u) = LB):=by show _ = _;rw [HmK.out,← HEnd.out,hLB]
      rw [hLB]
      have hR:=HVn.cell (w.heap.size + 1 + 1,24,zeroKb) (by simp)
      have hst:=store_row W (w.heap.size + 1 + 1) _ _ (LB.map bv) hR (by simp [hLl,zeroKb]) (bv_oneCell LB)
      have hrow:=setRow_heap W (w.heap.size + 1 + 1) _ (LB.map bv).toArray _ _ hR
      have HBel:Hid (Below w.heap.size w (W.setRow (w.heap.size + 1 + 1) (LB.map bv).toArray)):=below_setRow HVn.bel (by omega) _
      obtain ⟨X,hX⟩:∃ X,W.setRow (w.heap.size + 1 + 1) (LB.map bv).toArray = X:=⟨_,rfl⟩
      rw [hX] at hst hrow HBel
      have HRow:Hid (X.heap[w.heap.size + 1 + 1]? = some (.cells (LB.map bv).toArray 24 (0,0))):=hrow
      clear hR hrow hX hLB
      go_wp2
      (try simp only [Exit.inBlock,Exit.then])
      refine bodyPost_ret (results_cell_row rfl _ _ (w.heap.size + 1 + 1) 24 _ (0,0) _ rfl HRow.out Tryz.underlying24 rfl (hI.out LB hLl)) rfl ?_
      exact ⟨by rw [HRes.out],HBel.out⟩
    ·obtain ⟨b,rfl⟩:∃ b,j = b + 1:=⟨j - 1,by omega⟩
     have hi:((b + 1:Nat):Int) - 1 = (b:Int):=by omega
     have hb0:(0:Int) ≤ (b:Int):=by omega
     obtain ⟨q,hq⟩:∃ q,b / 8 = q:=⟨_,rfl⟩
     obtain ⟨r,hr⟩:∃ r,b % 8 = r:=⟨_,rfl⟩
     have e1:(b:Int).tdiv 8 = (q:Int):=by rw [Int.tdiv_eq_ediv_of_nonneg (by omega)];omega
     have e1':(b:Int) / 8 = (q:Int):=by omega
     have e2:(b:Int).tmod 8 = (r:Int):=by rw [Int.tmod_eq_emod_of_nonneg (by omega)];omega
     have e2':(b:Int) % 8 = (r:Int):=by omega
     have hq32:(q:Int) < 32:=by omega
     have hr8:r < 8:=by omega
     have hbit:=key_bit kk b (by omega)
     rw [HKk.out,hq,hr] at hbit
     obtain ⟨t,ht⟩:∃ t,(at8 kk q).toNat = t:=⟨_,rfl⟩
     have htl:t < 256:=by rw [← ht];exact (at8 kk q).toNat_lt
     have hA:Arr wr w.heap.size 24 kk:=HV.out.cell (w.heap.size,24,kk.map bv) (by simp)
     obtain ⟨ct,ft⟩:=hA.at_ q (by omega)
     rw [ht] at ct hbit
     obtain ⟨s,hs⟩:∃ s,t / 2 ^ r = s:=⟨_,rfl⟩
     have hsl:s < 256:=by rw [← hs];exact Nat.lt_of_le_of_lt (Nat.div_le_self _ _) htl
     have E1:(t:Int) / 2 ^ r = (s:Int):=by rw [← hs];simp
     obtain ⟨bt,hbt⟩:∃ bt,s % 2 = bt:=⟨_,rfl⟩
     have E2:bits .and .u8 (s:Int) 1 = (bt:Int):=by rw [← hbt];exact andB1 ⟨s,hsl⟩
     rw [hs,hbt] at hbit
     obtain ⟨is,his⟩:∃ is,((bt:Int) == 1) = is:=⟨_,rfl⟩
     have HBit:Hid (is = decide (K / 2 ^ b % 2 = 1)):=by show _ = _;rw [← his,hbit,Bool.eq_iff_iff];simp;omega
     have HWr:Hid (∃ W,wr = W):=⟨_,rfl⟩
     clear hq hr hbit ht hA hs hbt
     rw [hi]
     go_wp2_with (first | (refine wpList_load_row rfl 101 _ rfl g6 rfl 101 c6.toArray (0,0) _ ?_ Tryz.underlying101 rfl (pt_info HP6.out.ptc) ?_;exact HV.out.cell (g6,101,c6) (by simp)) | (refine wpList_load_row rfl 101 _ rfl g7 rfl 101 c7.toArray (0,0) _ ?_ Tryz.underlying101 rfl (pt_info HP7.out.ptc) ?_;exact HV.out.cell (g7,101,c7) (by simp)) | fail)
     (try simp only [his])
     refine (cswap_any is c6 c7 x2 z2 x3 z3 wr HP6.out HP7.out).mono ?_
     rintro e Va ⟨Ca,Da,rfl,hC,hD,hb⟩
     obtain ⟨a2,hna2⟩:∃ n,(if is = true then x3 else x2) = n:=⟨_,rfl⟩
     have HNa2:Hid ((if is = true then x3 else x2) = a2):=hna2
     obtain ⟨d2,hnd2⟩:∃ n,(if is = true then z3 else z2) = n:=⟨_,rfl⟩
     have HNd2:Hid ((if is = true then z3 else z2) = d2):=hnd2
     obtain ⟨a3,hna3⟩:∃ n,(if is = true then x2 else x3) = n:=⟨_,rfl⟩
     have HNa3:Hid ((if is = true then x2 else x3) = a3):=hna3
     obtain ⟨d3,hnd3⟩:∃ n,(if is = true then z2 else z3) = n:=⟨_,rfl⟩
     have HNd3:Hid ((if is = true then z2 else z3) = d3):=hnd3
     rw [hna2,hnd2] at hC
     rw [hna3,hnd3] at hD
     clear hna2 hnd2 hna3 hnd3
     have HCa:Hid (PtE Ca (a2) (d2)):=hC
     have HDa:Hid (PtE Da (a3) (d3)):=hD
     have hlCa:=hC.ptc.len
     have hlDa:=hD.ptc.len
     have hV:=HV.out.later hb
     have hst1:=store_row Va g6 _ _ Ca (hV.cell (g6,101,c6) (by simp)) (by rw [hlCa];simp [HP6.out.ptc.len]) hC.ptc.one
     have hV1:=hV.put 4 g6 101 c6 Ca rfl
     obtain ⟨Xa,hX1⟩:∃ X,Va.setRow g6 Ca.toArray = X:=⟨_,rfl⟩
     rw [hX1] at hst1 hV1
     have hst2:=store_row Xa g7 _ _ Da (hV1.cell (g7,101,c7) (by simp)) (by rw [hlDa];simp [HP7.out.ptc.len]) hD.ptc.one
     have hV2:=hV1.put 5 g7 101 c7 Da rfl
     obtain ⟨Ya,hX2⟩:∃ X,Xa.setRow g7 Da.toArray = X:=⟨_,rfl⟩
     rw [hX2] at hst2 hV2
     replace HV:Hid (Vw w Ya [(w.heap.size,24,kk.map bv),(w.heap.size + 1,24,u.map bv),(w.heap.size + 1 + 1,24,zeroKb),(g5,96,c5),(g6,101,Ca),(g7,101,Da)]):=hV2
     clear hC hD hb hV hV1 hV2 hX1 hX2
     go_wp2_with (first | (refine wpList_load_row rfl 101 _ rfl g6 rfl 101 Ca.toArray (0,0) _ ?_ Tryz.underlying101 rfl (pt_info HCa.out.ptc) ?_;exact HV.out.cell (g6,101,Ca) (by simp)) | (refine wpList_load_row rfl 101 _ rfl g7 rfl 101 Da.toArray (0,0) _ ?_ Tryz.underlying101 rfl (pt_info HDa.out.ptc) ?_;exact HV.out.cell (g7,101,Da) (by simp)) | (refine wpList_load_row rfl 96 _ rfl g5 rfl 96 c5.toArray (0,0) _ ?_ Tryz.underlying96 rfl (elm_info HE5.out) ?_;exact HV.out.cell (g5,96,c5) (by simp)) | fail)
     clear hst1 hst2
     refine (cstep_any Ca Da c5 a2 d2 a3 d3 U Ya HCa.out HDa.out HE5.out (HTab.out.later HV.out.bel)).mono ?_
     rintro e Vb ⟨Cb,Db,rfl,hC,hD,hb⟩
     have HCb:Hid (PtE Cb (nX2 a2 d2) (nZ2 a2 d2)):=hC
     have HDb:Hid (PtE Db (nX3 a2 d2 a3 d3) (nZ3 U a2 d2 a3 d3)):=hD
     have hlCb:=hC.ptc.len
     have hlDb:=hD.ptc.len
     have hV:=HV.out.later hb
     have hst1:=store_row Vb g6 _ _ Cb (hV.cell (g6,101,Ca) (by simp)) (by rw [hlCb];simp [HCa.out.ptc.len]) hC.ptc.one
     have hV1:=hV.put 4 g6 101 Ca Cb rfl
     obtain ⟨Xb,hX1⟩:∃ X,Vb.setRow g6 Cb.toArray = X:=⟨_,rfl⟩
     rw [hX1] at hst1 hV1
     have hst2:=store_row Xb g7 _ _ Db (hV1.cell (g7,101,Da) (by simp)) (by rw [hlDb];simp [HDa.out.ptc.len]) hD.ptc.one
     have hV2:=hV1.put 5 g7 101 Da Db rfl
     obtain ⟨Yb,hX2⟩:∃ X,Xb.setRow g7 Db.toArray = X:=⟨_,rfl⟩
     rw [hX2] at hst2 hV2
     replace HV:Hid (Vw w Yb [(w.heap.size,24,kk.map bv),(w.heap.size + 1,24,u.map bv),(w.heap.size + 1 + 1,24,zeroKb),(g5,96,c5),(g6,101,Cb),(g7,101,Db)]):=hV2
     clear hC hD hb hV hV1 hV2 hX1 hX2
     go_wp2_with (first | (refine wpList_load_row rfl 101 _ rfl g6 rfl 101 Cb.toArray (0,0) _ ?_ Tryz.underlying101 rfl (pt_info HCb.out.ptc) ?_;exact HV.out.cell (g6,101,Cb) (by simp)) | (refine wpList_load_row rfl 101 _ rfl g7 rfl 101 Db.toArray (0,0) _ ?_ Tryz.underlying101 rfl (pt_info HDb.out.ptc) ?_;exact HV.out.cell (g7,101,Db) (by simp)) | fail)
     clear hst1 hst2
     have hbm:IntKind.i64.wrap ((b:Int) - 1) = (b:Int) - 1:=by rw [IntKind.wrap_i64];omega
     refine (cswap_any is Cb Db (nX2 a2 d2) (nZ2 a2 d2) (nX3 a2 d2 a3 d3) (nZ3 U a2 d2 a3 d3) Yb HCb.out HDb.out).mono ?_
     rintro e Vc ⟨Cc,Dc,rfl,hC,hD,hb⟩
     obtain ⟨f2,hnf2⟩:∃ n,(if is = true then nX3 a2 d2 a3 d3 else nX2 a2 d2) = n:=⟨_,rfl⟩
     have HNf2:Hid ((if is = true then nX3 a2 d2 a3 d3 else nX2 a2 d2) = f2):=hnf2
     obtain ⟨h2,hnh2⟩:∃ n,(if is = true then nZ3 U a2 d2 a3 d3 else nZ2 a2 d2) = n:=⟨_,rfl⟩
     have HNh2:Hid ((if is = true then nZ3 U a2 d2 a3 d3 else nZ2 a2 d2) = h2):=hnh2
     obtain ⟨f3,hnf3⟩:∃ n,(if is = true then nX2 a2 d2 else nX3 a2 d2 a3 d3) = n:=⟨_,rfl⟩
     have HNf3:Hid ((if is = true then nX2 a2 d2 else nX3 a2 d2 a3 d3) = f3):=hnf3
     obtain ⟨h3,hnh3⟩:∃ n,(if is = true then nZ2 a2 d2 else nZ3 U a2 d2 a3 d3) = n:=⟨_,rfl⟩
     have HNh3:Hid ((if is = true then nZ2 a2 d2 else nZ3 U a2 d2 a3 d3) = h3):=hnh3
     rw [hnf2,hnh2] at hC
     rw [hnf3,hnh3] at hD
     clear hnf2 hnh2 hnf3 hnh3
     have HCc:Hid (PtE Cc (f2) (h2)):=hC
     have HDc:Hid (PtE Dc (f3) (h3)):=hD
     have hlCc:=hC.ptc.len
     have hlDc:=hD.ptc.len
     have hV:=HV.out.later hb
     have hst1:=store_row Vc g6 _ _ Cc (hV.cell (g6,101,Cb) (by simp)) (by rw [hlCc];simp [HCb.out.ptc.len]) hC.ptc.one
     have hV1:=hV.put 4 g6 101 Cb Cc rfl
     obtain ⟨Xc,hX1⟩:∃ X,Vc.setRow g6 Cc.toArray = X:=⟨_,rfl⟩
     rw [hX1] at hst1 hV1
     have hst2:=store_row Xc g7 _ _ Dc (hV1.cell (g7,101,Db) (by simp)) (by rw [hlDc];simp [HDb.out.ptc.len]) hD.ptc.one
     have hV2:=hV1.put 5 g7 101 Db Dc rfl
     obtain ⟨Yc,hX2⟩:∃ X,Xc.setRow g7 Dc.toArray = X:=⟨_,rfl⟩
     rw [hX2] at hst2 hV2
     replace HV:Hid (Vw w Yc [(w.heap.size,24,kk.map bv),(w.heap.size + 1,24,u.map bv),(w.heap.size + 1 + 1,24,zeroKb),(g5,96,c5),(g6,101,Cc),(g7,101,Dc)]):=hV2
     clear hC hD hb hV hV1 hV2 hX1 hX2
     go_wp2
     clear hst1 hst2
     have HZ2:Hid (z2 < P255):=by obtain ⟨_,_,_,_,h⟩:=HP6.out;exact h.lt
     have HZ3:Hid (z3 < P255):=by obtain ⟨_,_,_,_,h⟩:=HP7.out;exact h.lt
     exact ⟨⟨b,Cc,Dc,f2,h2,f3,h3,by omega,by first | rfl | trivial | (congr 1 <;> omega),HCc,HDc,lad_step HL.out HBit.out HZ2.out HZ3.out HNa2.out HNa3.out HNd2.out HNd3.out HNf2.out HNf3.out HNh2.out HNh3.out,HV⟩,by simp [intOf] <;> omega⟩
def nineL:List UInt8:=9 :: List.replicate 31 0
theorem nineL_val:modU nineL = 9:=by decide +kernel
theorem mK_nine (k:List UInt8):mK k nineL = mX (clampK (leN k)) 9:=by rw [mK,nineL_val]
theorem held_zero (w:World) (n:Nat) (b:Bool) (hn:n < P255) (h:b = decide (n = 0)):(Op.equalIn 10000 24 (.agg ((leB 32 n).map bv).toArray) (.agg #[.int .u8 0,.int .u8 0,.int .u8 0,.int .u8 0,.int .u8 0,.int .u8 0,.int .u8 0,.int .u8 0,.int .u8 0,.int .u8 0,.int .u8 0,.int .u8 0,.int .u8 0,.int .u8 0,.int .u8 0,.int .u8 0,.int .u8 0,.int .u8 0,.int .u8 0,.int .u8 0,.int .u8 0,.int .u8 0,.int .u8 0,.int .u8 0,.int .u8 0,.int .u8 0,.int .u8 0,.int .u8 0,.int .u8 0,.int .u8 0,.int .u8 0,.int .u8 0])).run Tryz.prog w = .ok b w:=by
 have:=arr_eq w 24 32 (leB 32 n) (List.replicate 32 0) (leB_length _ _) rfl Tryz.underlying24
 have e:decide (leB 32 n = List.replicate 32 0) = b:=by
  rw [h]
  by_cases h0:n = 0
  ·rw [h0,leB_zero,decide_eq_true rfl,decide_eq_true rfl]
  ·rw [decide_eq_false h0,decide_eq_false]
   intro h1
   have h2:=congrArg leN h1
   rw [leN_leB,Nat.mod_eq_of_lt (Nat.lt_trans hn P255_lt)] at h2
   exact h0 (by rw [h2];decide)
 rw [e] at this
 exact this
def zero32C:Array Value:=(List.replicate 32 (Value.int .u8 0)).toArray
set_option maxHeartbeats 4000000 in
set_option maxRecDepth 100000 in
theorem public_any (k:List UInt8) (w:World) (hk:k.length = 32) (htab:FTab w) :
  Calls Tryz.prog 9 #[.agg (k.map bv).toArray] w fun e w' => e = .returned (.agg ((leB 32 (mX (clampK (leN k)) 9)).map bv).toArray) ∧ Below w.heap.size w w':=by
 have hI:Hid (∀ l:List UInt8,l.length = 32 → (Tryz.prog.info? 24).map (·.size) = some (l.map bv).toArray.size):=fun l hl => info_size (n:=32) (by kernel_rfl) l hl
 have HV0:Hid (Vw w ((w.alloc (.cells (k.map bv).toArray 24)).alloc (.cells zeroKb.toArray 24)) [(w.heap.size,24,k.map bv),(w.heap.size + 1,24,zeroKb)]):=by
  have h:=((Vw.none w).alloc 24 (k.map bv)).alloc 24 zeroKb
  simp only [World.size_alloc] at h
  exact h
 have HTab:Hid (FTab w):=htab
 go_enter Tryz.func9,Tryz.ntmps9
 refine wp_seq (wp_cut (fun a W => a = { tmps:=#[.agg (k.map bv).toArray,.pointer (some ⟨w.heap.size,0,none⟩),.pointer (some ⟨w.heap.size + 1,0,none⟩),undef,undef,undef],defers:=[] } ∧ Hid (Vw w W [(w.heap.size,24,k.map bv),(w.heap.size + 1,24,zeroKb)])) ?_ ?_)
 ·go_wp2
  first | exact HV0 | exact ⟨rfl,HV0⟩ | exact ⟨rfl,rfl,HV0⟩
 ·rintro a W0 ⟨rfl,HV⟩
  clear HV0
  simp only [Exit.then]
  go_wp2_with (first | (refine wpList_load_row rfl 24 _ rfl w.heap.size rfl 24 (k.map bv).toArray (0,0) _ ?_ Tryz.underlying24 rfl (hI.out k hk) ?_;exact HV.out.cell (w.heap.size,24,k.map bv) (by simp)) | fail)
  refine (mult_any k nineL W0 hk rfl (HTab.out.later HV.out.bel)).mono ?_
  rintro e V ⟨rfl,hb⟩
  obtain ⟨LB,hLB⟩:∃ L,leB 32 (mK k nineL) = L:=⟨_,rfl⟩
  have hLl:LB.length = 32:=by rw [← hLB,leB_length]
  have HRes:Hid (leB 32 (mX (clampK (leN k)) 9) = LB):=by show _ = _;rw [← mK_nine,hLB]
  rw [hLB]
  have hV:=HV.out.later hb
  have hR:=hV.cell (w.heap.size + 1,24,zeroKb) (by simp)
  have hst:=store_row V (w.heap.size + 1) _ _ (LB.map bv) hR (by simp [hLl,zeroKb]) (bv_oneCell LB)
  have hrow:=setRow_heap V (w.heap.size + 1) _ (LB.map bv).toArray _ _ hR
  have HBel:Hid (Below w.heap.size w (V.setRow (w.heap.size + 1) (LB.map bv).toArray)):=below_setRow hV.bel (by omega) _
  obtain ⟨X,hX⟩:∃ X,V.setRow (w.heap.size + 1) (LB.map bv).toArray = X:=⟨_,rfl⟩
  rw [hX] at hst hrow HBel
  have HRow:Hid (X.heap[w.heap.size + 1]? = some (.cells (LB.map bv).toArray 24 (0,0))):=hrow
  clear hR hrow hX hLB hb hV HV
  go_wp2
  (try simp only [Exit.inBlock,Exit.then])
  refine bodyPost_ret (results_cell_row rfl _ _ (w.heap.size + 1) 24 _ (0,0) _ rfl HRow.out Tryz.underlying24 rfl (hI.out LB hLl)) rfl ?_
  exact ⟨by rw [HRes.out],HBel.out⟩
set_option maxHeartbeats 4000000 in
set_option maxRecDepth 100000 in
theorem shared_any (k u:List UInt8) (w:World) (hk:k.length = 32) (hu:u.length = 32) (htab:FTab w) :
  Calls Tryz.prog 68 #[.agg (k.map bv).toArray,.agg (u.map bv).toArray] w fun e w' => e = .returned (.tuple #[.agg ((leB 32 (mK k u)).map bv).toArray,.int .i64 (if mK k u = 0 then 4 else 0)]) ∧ Below w.heap.size w w':=by
 have hI:Hid (∀ l:List UInt8,l.length = 32 → (Tryz.prog.info? 24).map (·.size) = some (l.map bv).toArray.size):=fun l hl => info_size (n:=32) (by kernel_rfl) l hl
 have HV0:Hid (Vw w (((w.alloc (.cells (k.map bv).toArray 24)).alloc (.cells (u.map bv).toArray 24)).alloc (.cells zeroKb.toArray 24)) [(w.heap.size,24,k.map bv),(w.heap.size + 1,24,u.map bv),(w.heap.size + 1 + 1,24,zeroKb)]):=by
  have h:=(((Vw.none w).alloc 24 (k.map bv)).alloc 24 (u.map bv)).alloc 24 zeroKb
  simp only [World.size_alloc] at h
  exact h
 have HTab:Hid (FTab w):=htab
 have hml:=mK_lt k u
 obtain ⟨m,hm⟩:∃ m,mK k u = m:=⟨_,rfl⟩
 rw [hm] at hml ⊢
 obtain ⟨er,her⟩:∃ er:Int,(if m = 0 then (4:Int) else 0) = er:=⟨_,rfl⟩
 rw [her]
 have HM:Hid (mK k u = m):=hm
 have HEr:Hid ((if m = 0 then (4:Int) else 0) = er):=her
 clear hm her htab
 go_enter Tryz.func68,Tryz.ntmps68
 refine wp_seq (wp_cut (fun a W => a = { tmps:=#[.agg (k.map bv).toArray,.agg (u.map bv).toArray,.pointer (some ⟨w.heap.size,0,none⟩),.pointer (some ⟨w.heap.size + 1,0,none⟩),.pointer (some ⟨w.heap.size + 1 + 1,0,none⟩),.int .i64 0,undef,undef,undef,undef,undef,undef,undef,undef,undef],defers:=[] } ∧ Hid (Vw w W [(w.heap.size,24,k.map bv),(w.heap.size + 1,24,u.map bv),(w.heap.size + 1 + 1,24,zeroKb)])) ?_ ?_)
 ·go_wp2
  first | exact HV0 | exact ⟨rfl,HV0⟩ | exact ⟨rfl,rfl,HV0⟩
 ·rintro a W0 ⟨rfl,HV⟩
  clear HV0
  simp only [Exit.then]
  go_wp2_with (first | (refine wpList_load_row rfl 24 _ rfl w.heap.size rfl 24 (k.map bv).toArray (0,0) _ ?_ Tryz.underlying24 rfl (hI.out k hk) ?_;exact HV.out.cell (w.heap.size,24,k.map bv) (by simp)) | (refine wpList_load_row rfl 24 _ rfl (w.heap.size + 1) rfl 24 (u.map bv).toArray (0,0) _ ?_ Tryz.underlying24 rfl (hI.out u hu) ?_;exact HV.out.cell (w.heap.size + 1,24,u.map bv) (by simp)) | fail)
  refine (mult_any k u W0 hk hu (HTab.out.later HV.out.bel)).mono ?_
  rintro e V ⟨rfl,hb⟩
  rw [HM.out]
  have hlen:=leB_length 32 m
  have hst:=run_store_arr V 24 (leB 32 m) 32 (leB_length _ _) (by kernel_rfl) zero32C (by kernel_rfl)
  simp only [zero32C,List.replicate] at hst
  have hV:=(HV.out.later hb).alloc 24 ((leB 32 m).map bv)
  obtain ⟨X,hX⟩:∃ X,V.alloc (.cells ((leB 32 m).map bv).toArray 24) = X:=⟨_,rfl⟩
  rw [hX] at hst hV
  have HX:Hid (Vw w X [(w.heap.size,24,k.map bv),(w.heap.size + 1,24,u.map bv),(w.heap.size + 1 + 1,24,zeroKb),(V.heap.size,24,(leB 32 m).map bv)]):=hV
  have hR:=hV.cell (w.heap.size + 1 + 1,24,zeroKb) (by simp)
  have hst2:=store_row X (w.heap.size + 1 + 1) _ _ ((leB 32 m).map bv) hR (by simp [hlen,zeroKb]) (bv_oneCell _)
  have hrow:=setRow_heap X (w.heap.size + 1 + 1) _ ((leB 32 m).map bv).toArray _ _ hR
  have HBel:Hid (Below w.heap.size w (X.setRow (w.heap.size + 1 + 1) ((leB 32 m).map bv).toArray)):=below_setRow hV.bel (by omega) _
  obtain ⟨Y,hY⟩:∃ Y,X.setRow (w.heap.size + 1 + 1) ((leB 32 m).map bv).toArray = Y:=⟨_,rfl⟩
  rw [hY] at hst2 hrow HBel
  have HRow:Hid (Y.heap[w.heap.size + 1 + 1]? = some (.cells ((leB 32 m).map bv).toArray 24 (0,0))):=hrow
  clear hR hrow hX hY hb hV HV
  by_cases h0:m = 0
  ·have hz:=held_zero X m true hml (decide_eq_true h0).symm
   have HRz:Hid (X.heap[w.heap.size + 1 + 1]? = some (.cells zeroKb.toArray 24 (0,0))):=HX.out.cell (w.heap.size + 1 + 1,24,zeroKb) (by simp)
   have hIz:Hid ((Tryz.prog.info? 24).map (·.size) = some zeroKb.toArray.size):=hI.out (List.replicate 32 0) rfl
   have hall:Hid (zeroKb.toArray.all (·.oneCell') = true):=by show _ = _;kernel_rfl
   have HRow2:Hid ((X.setRow (w.heap.size + 1 + 1) zeroKb.toArray).heap[w.heap.size + 1 + 1]? = some (.cells zeroKb.toArray 24 (0,0))):=setRow_heap X _ _ _ _ _ HRz.out
   have HBel2:Hid (Below w.heap.size w (X.setRow (w.heap.size + 1 + 1) zeroKb.toArray)):=below_setRow HX.out.bel (by omega) _
   have HZb:Hid (Value.agg zeroKb.toArray = .agg ((leB 32 m).map bv).toArray):=by show _ = _;rw [h0,leB_zero];rfl
   have HH:Hid (m = 0):=h0
   clear h0 hst2 HRow HBel
   go_wp2_with (first | (refine wpList_store_row rfl 24 _ _ rfl (w.heap.size + 1 + 1) zeroKb.toArray rfl rfl 24 _ HRz.out hIz.out rfl hall.out ?_) | (refine wpList_load_row rfl 24 _ rfl V.heap.size rfl 24 ((leB 32 m).map bv).toArray (0,0) _ ?_ Tryz.underlying24 rfl (hI.out _ (leB_length _ _)) ?_;exact HX.out.cell (V.heap.size,24,(leB 32 m).map bv) (by simp)) | fail)
   (try simp only [Exit.inBlock,Exit.then])
   refine bodyPost_ret (results_cell_slot rfl _ _ (w.heap.size + 1 + 1) 24 _ (.int .i64 4) _ rfl rfl HRow2.out Tryz.underlying24 rfl hIz.out) rfl ?_
   exact ⟨by rw [← HEr.out,if_pos HH.out,HZb.out],HBel2.out⟩
  ·have hz:=held_zero X m false hml (decide_eq_false h0).symm
   have HH:Hid (¬ m = 0):=h0
   clear h0
   go_wp2_with (first | (refine wpList_load_row rfl 24 _ rfl V.heap.size rfl 24 ((leB 32 m).map bv).toArray (0,0) _ ?_ Tryz.underlying24 rfl (hI.out _ (leB_length _ _)) ?_;exact HX.out.cell (V.heap.size,24,(leB 32 m).map bv) (by simp)) | fail)
   (try simp only [Exit.inBlock,Exit.then])
   refine bodyPost_ret (results_cell_slot rfl _ _ (w.heap.size + 1 + 1) 24 _ (.int .i64 0) _ rfl rfl HRow.out Tryz.underlying24 rfl (hI.out _ (leB_length _ _))) rfl ?_
   exact ⟨by rw [← HEr.out,if_neg HH.out],HBel.out⟩
def TT (w:World):Prop:=Tab w ∧ FTab w
def Gok (g:Nat):Prop:=(g ≠ 1 ∧ g ≠ 2) ∧ g ≠ 0
theorem TT.later {w w':World} (h:TT w) (hb:Below w.heap.size w w'):TT w':=⟨h.1.later hb,h.2.later hb⟩
theorem TT.but {w w':World} {g:Nat} (h:TT w) (hG:w.grownBy w' (some g)) (hg:Gok g):TT w':=by
 refine ⟨h.1.but hG hg.1,?_⟩
 obtain ⟨t,fr,hr⟩:=h.2
 exact ⟨t,fr,by rw [hG.block 0 (Array.getElem?_eq_some_iff.1 hr).1 (fun e => hg.2 (by cases e;rfl))];exact hr⟩
theorem TT.new {w:World} (h:TT w) {g:Nat} (hg:w.heap.size ≤ g):Gok g:=by
 have h1:=h.1.lt
 have h2:=h.2.lt
 unfold Gok
 omega
def SKy (own once other seen:List UInt8):List Value:=own.map bv ++ (once.map bv ++ (other.map bv ++ seen.map bv))
structure K4 (own once other seen:List UInt8):Prop where
 a:own.length = 32
 b:once.length = 32
 c:other.length = 32
 d:seen.length = 32
def SV (m:MS) (own once other seen:List UInt8):List Value:=MiV m.C m.H m.K m.has m.n ++ SKy own once other seen
theorem SKy_one (own once other seen:List UInt8):∀ v ∈ SKy own once other seen,v.oneCell' = true:=by
 intro v hv
 unfold SKy at hv
 rcases List.mem_append.1 hv with h | h
 ·exact bv_oneCell own v h
 rcases List.mem_append.1 h with h | h
 ·exact bv_oneCell once v h
 rcases List.mem_append.1 h with h | h
 ·exact bv_oneCell other v h
 ·exact bv_oneCell seen v h
theorem MiV_one (chain hash key:List UInt8) (has:Bool) (n:Nat):∀ v ∈ MiV chain hash key has n,v.oneCell' = true:=by
 intro v hv
 unfold MiV at hv
 rcases List.mem_append.1 hv with h | h
 ·exact bv_oneCell chain v h
 rcases List.mem_append.1 h with h | h
 ·exact bv_oneCell hash v h
 ·exact CiV_one key has n v h
theorem SV_one (m:MS) (own once other seen:List UInt8):∀ v ∈ SV m own once other seen,v.oneCell' = true:=by
 intro v hv
 rcases List.mem_append.1 hv with h | h
 ·exact MiV_one _ _ _ _ _ v h
 ·exact SKy_one _ _ _ _ v h
theorem MiV_length (chain hash key:List UInt8) (has:Bool) (n:Nat) (hc:chain.length = 32) (hh:hash.length = 32) (hk:key.length = 32):(MiV chain hash key has n).length = 98:=by simp [MiV,CiV,hc,hh,hk]
theorem SKy_length {own once other seen:List UInt8} (h:K4 own once other seen):(SKy own once other seen).length = 128:=by simp [SKy,h.a,h.b,h.c,h.d]
structure SdT (w:World) (g t:Nat) (T:List Value) (m:MS) (own once other seen:List UInt8):Prop where
 mi:KM w g t (SKy own once other seen ++ T) m.C m.H m.K m.has m.n
 k4:K4 own once other seen
section
variable {w w':World} {g t:Nat} {T:List Value} {m:MS} {own once other seen:List UInt8}
theorem SdT.lt (x:SdT w g t T m own once other seen):g < w.heap.size:=x.mi.lt
theorem SdT.later (x:SdT w g t T m own once other seen) (hb:Below w.heap.size w w'):SdT w' g t T m own once other seen:=⟨x.mi.later hb,x.k4⟩
theorem SdT.but {g':Nat} (x:SdT w g t T m own once other seen) (hG:w.grownBy w' (some g')) (hne:g ≠ g'):SdT w' g t T m own once other seen:=⟨x.mi.but hG hne,x.k4⟩
theorem SdT.len (x:SdT w g t T m own once other seen):(MiV m.C m.H m.K m.has m.n).length = 98:=MiV_length _ _ _ _ _ x.mi.c x.mi.h x.mi.k
theorem SdT.slen (x:SdT w g t T m own once other seen):(SV m own once other seen).length = 226:=by rw [SV,List.length_append,x.len,SKy_length x.k4]
theorem SdT.ownC (x:SdT w g t T m own once other seen):∀ j v,(own.map bv)[j]? = some v → w.cell? ⟨g,98 + j,none⟩ = some v:=
 part_cells (MiV m.C m.H m.K m.has m.n) (own.map bv) (once.map bv ++ (other.map bv ++ (seen.map bv ++ T))) (by have:=x.mi.row;simpa [SKy] using this) 98 x.len
theorem SdT.onceC (x:SdT w g t T m own once other seen):∀ j v,(once.map bv)[j]? = some v → w.cell? ⟨g,130 + j,none⟩ = some v:=
 part_cells (MiV m.C m.H m.K m.has m.n ++ own.map bv) (once.map bv) (other.map bv ++ (seen.map bv ++ T)) (by have:=x.mi.row;simpa [SKy] using this) 130 (by rw [List.length_append,x.len,List.length_map,x.k4.a])
theorem SdT.otherC (x:SdT w g t T m own once other seen):∀ j v,(other.map bv)[j]? = some v → w.cell? ⟨g,162 + j,none⟩ = some v:=
 part_cells (MiV m.C m.H m.K m.has m.n ++ (own.map bv ++ once.map bv)) (other.map bv) (seen.map bv ++ T) (by have:=x.mi.row;simpa [SKy] using this) 162 (by rw [List.length_append,x.len,List.length_append,List.length_map,List.length_map,x.k4.a,x.k4.b])
theorem SdT.seenC (x:SdT w g t T m own once other seen):∀ j v,(seen.map bv)[j]? = some v → w.cell? ⟨g,194 + j,none⟩ = some v:=
 part_cells (MiV m.C m.H m.K m.has m.n ++ (own.map bv ++ (once.map bv ++ other.map bv))) (seen.map bv) T (by have:=x.mi.row;simpa [SKy] using this) 194 (by rw [List.length_append,x.len,List.length_append,List.length_append,List.length_map,List.length_map,List.length_map,x.k4.a,x.k4.b,x.k4.c])
theorem SdT.allC (x:SdT w g t T m own once other seen):∀ j v,(SV m own once other seen)[j]? = some v → w.cell? ⟨g,0 + j,none⟩ = some v:=
 part_cells [] (SV m own once other seen) T (by have:=x.mi.row;simpa [SV] using this) 0 rfl
theorem SdT.hashC (x:SdT w g t T m own once other seen):∀ j v,(m.H.map bv)[j]? = some v → w.cell? ⟨g,32 + j,none⟩ = some v:=x.mi.hashB
theorem SdT.row (x:SdT w g t T m own once other seen):w.heap[g]? = some (.cells (SV m own once other seen ++ T).toArray t (0,0)):=by
 have:=x.mi.row
 rw [SV,List.append_assoc]
 exact this
theorem SdT.of (h:w.heap[g]? = some (.cells (SV m own once other seen ++ T).toArray t (0,0))) (hc:m.C.length = 32) (hh:m.H.length = 32) (hk:m.K.length = 32) (k:K4 own once other seen):SdT w g t T m own once other seen:=
 ⟨⟨by rw [SV,List.append_assoc] at h;exact h,hc,hh,hk⟩,k⟩
theorem SdT.frozen (x:SdT w g t T m own once other seen) (i:Nat):w.frozen? ⟨g,i,none⟩ = false:=frozen_of_row w g i _ _ x.row
theorem SdT.turned (x:SdT w g t T m own once other seen) {m':MS} (h:KM w' g t (SKy own once other seen ++ T) m'.C m'.H m'.K m'.has m'.n):SdT w' g t T m' own once other seen:=⟨h,x.k4⟩
theorem SdT.putSeen (x:SdT w g t T m own once other seen) (s':List UInt8) (hl:s'.length = 32) :
  ∃ w',(storeCells ⟨g,194,none⟩ (s'.map bv)).run Tryz.prog w = .ok () w' ∧ SdT w' g t T m own once other s' ∧ w.grownBy w' (some g):=by
 obtain ⟨w',h1,h2,h3⟩:=part_put (off:=194) (A:=MiV m.C m.H m.K m.has m.n ++ (own.map bv ++ (once.map bv ++ other.map bv))) (old:=seen.map bv) (B:=T) (by simpa [SKy] using x.mi.row)
  (by rw [List.length_append,x.len,List.length_append,List.length_append,List.length_map,List.length_map,List.length_map,x.k4.a,x.k4.b,x.k4.c]) (s'.map bv) (by simp [hl,x.k4.d]) (bv_oneCell s')
 exact ⟨w',h1,⟨⟨by simpa [SKy] using h2,x.mi.c,x.mi.h,x.mi.k⟩,x.k4.a,x.k4.b,x.k4.c,hl⟩,h3⟩
theorem SdT.putOther (x:SdT w g t T m own once other seen) (s':List UInt8) (hl:s'.length = 32) :
  ∃ w',(storeCells ⟨g,162,none⟩ (s'.map bv)).run Tryz.prog w = .ok () w' ∧ SdT w' g t T m own once s' seen ∧ w.grownBy w' (some g):=by
 obtain ⟨w',h1,h2,h3⟩:=part_put (off:=162) (A:=MiV m.C m.H m.K m.has m.n ++ (own.map bv ++ once.map bv)) (old:=other.map bv) (B:=seen.map bv ++ T) (by simpa [SKy] using x.mi.row)
  (by rw [List.length_append,x.len,List.length_append,List.length_map,List.length_map,x.k4.a,x.k4.b]) (s'.map bv) (by simp [hl,x.k4.c]) (bv_oneCell s')
 exact ⟨w',h1,⟨⟨by simpa [SKy] using h2,x.mi.c,x.mi.h,x.mi.k⟩,x.k4.a,x.k4.b,hl,x.k4.d⟩,h3⟩
theorem SdT.putAll (x:SdT w g t T m own once other seen) (m':MS) (own' once' other' seen':List UInt8) (hc:m'.C.length = 32) (hh:m'.H.length = 32) (hk:m'.K.length = 32) (k:K4 own' once' other' seen') :
  ∃ w',(storeCells ⟨g,0,none⟩ (SV m' own' once' other' seen')).run Tryz.prog w = .ok () w' ∧ SdT w' g t T m' own' once' other' seen' ∧ w.grownBy w' (some g):=by
 obtain ⟨w',h1,h2,h3⟩:=part_put (off:=0) (A:=[]) (old:=SV m own once other seen) (B:=T) (by simpa using x.row) rfl (SV m' own' once' other' seen')
  (by rw [x.slen,SV,List.length_append,MiV_length _ _ _ _ _ hc hh hk,SKy_length k]) (SV_one _ _ _ _ _)
 exact ⟨w',h1,SdT.of (by simpa using h2) hc hh hk k,h3⟩
end
theorem SdT.next {w:World} {g t nx:Nat} {m:MS} {own once other seen:List UInt8} (x:SdT w g t [.int .i64 (nx:Int)] m own once other seen):w.cell? ⟨g,226,none⟩ = some (.int .i64 (nx:Int)):=by
 have:=part_cells (SV m own once other seen) [.int .i64 (nx:Int)] [] (by simpa using x.row) 226 x.slen 0 (.int .i64 (nx:Int)) rfl
 simpa using this
theorem SdT.setNext {w:World} {g t nx:Nat} {m:MS} {own once other seen:List UInt8} (x:SdT w g t [.int .i64 (nx:Int)] m own once other seen) (k:Nat):SdT (w.setCell ⟨g,226,none⟩ (.int .i64 (k:Int))) g t [.int .i64 (k:Int)] m own once other seen:=by
 refine SdT.of ?_ x.mi.c x.mi.h x.mi.k x.k4
 rw [heap_setCell_same w g _ _ _ _ x.row]
 congr 2
 have hl:=x.slen
 simp only [List.setIfInBounds_toArray,Array.mk.injEq]
 rw [List.set_append_right _ _ (by omega),hl]
 simp
theorem sd_info {m:MS} {own once other seen:List UInt8} (h:(SV m own once other seen).length = 226):(Tryz.prog.info? 67).map (·.size) = some (SV m own once other seen).length:=by
 have e1:(Tryz.prog.info? 67).map (·.size) = some 226:=by kernel_rfl
 rw [e1,h]
theorem keyI {l:List UInt8} (h:l.length = 32):(Tryz.prog.info? 24).map (·.size) = some (l.map bv).length:=by
 have e1:(Tryz.prog.info? 24).map (·.size) = some 32:=by kernel_rfl
 rw [e1];simp [h]
theorem keyIA {l:List UInt8} (h:l.length = 32):(Tryz.prog.info? 24).map (·.size) = some (l.map bv).toArray.size:=by
 rw [keyI h];simp
end Go.Proofs.YthmkhdnnljdglaaGreatDoor
namespace Go.Proofs.YthmkhdnnljdglaaGreatDoor
set_option linter.unusedVariables false
set_option maxRecDepth 100000
open Go.RowKit
abbrev pan (er:Nat):Ending:=.panicked [{ v:=.iface 36 (.int .i64 (er:Int)),recovered:=false }]
theorem nmust_ok (w:World):Calls Tryz.prog 69 #[.int .i64 0] w fun e w' => (∃ v,e = .returned v) ∧ w' = w:=by
 go_enter Tryz.func69,Tryz.ntmps69
 go_wp2
 refine bodyPost_end (results_none rfl _ _ _) rfl ?_
 exact ⟨⟨_,rfl⟩,rfl⟩
theorem nmust_no (er:Nat) (h:er ≠ 0) (w:World):Calls Tryz.prog 69 #[.int .i64 (er:Int)] w fun e w' => e = pan er ∧ w' = w:=by
 have h':¬ (er:Int) = 0:=by omega
 go_enter Tryz.func69,Tryz.ntmps69
 go_wp2
 exact ⟨rfl,rfl,rfl⟩
abbrev Sd (w:World) (g:Nat) (m:MS) (own once other seen:List UInt8):Prop:=SdT w g 67 [] m own once other seen
section
variable {k u:List UInt8}
set_option maxHeartbeats 4000000 in
theorem nmix_ok (g:Nat) (m:MS) (own once other seen k u:List UInt8) (w:World) (hS:Sd w g m own once other seen) (hk:k.length = 32) (hu:u.length = 32) (hT:TT w) (hg:Gok g) (h0:mK k u ≠ 0) :
  Calls Tryz.prog 36 #[.pointer (some ⟨g,0,none⟩),.agg (k.map bv).toArray,.agg (u.map bv).toArray] w fun e w' => (∃ v,e = .returned v) ∧ w.grownBy w' (some g) ∧ Sd w' g (m.key (secB k u)) own once other seen:=by
 have hI:Hid (∀ l:List UInt8,l.length = 32 → (Tryz.prog.info? 24).map (·.size) = some (l.map bv).toArray.size):=fun l hl => keyIA hl
 have HV0:Hid (Vw w ((w.alloc (.cells (k.map bv).toArray 24)).alloc (.cells (u.map bv).toArray 24)) [(w.heap.size,24,k.map bv),(w.heap.size + 1,24,u.map bv)]):=by
  have h:=((Vw.none w).alloc 24 (k.map bv)).alloc 24 (u.map bv)
  simp only [World.size_alloc] at h
  exact h
 have HS:=ohid hS
 have HT:=ohid hT
 have HG:=ohid hg
 have HO:=ohid h0
 have hgl:=hS.lt
 clear hS hT hg h0
 go_enter Tryz.func36,Tryz.ntmps36
 refine wp_seq (wp_cut (fun a W => a = { tmps:=#[.pointer (some ⟨g,0,none⟩),.agg (k.map bv).toArray,.agg (u.map bv).toArray,undef,.pointer (some ⟨w.heap.size,0,none⟩),.pointer (some ⟨w.heap.size + 1,0,none⟩),undef,undef,undef,undef,undef,undef,undef,undef,undef,undef,undef,undef,undef,undef,undef],defers:=[] } ∧ Hid (Vw w W [(w.heap.size,24,k.map bv),(w.heap.size + 1,24,u.map bv)])) ?_ ?_)
 ·go_wp2
  all_goals first | exact HV0 | exact ⟨rfl,HV0⟩ | exact ⟨rfl,rfl,HV0⟩
 ·rintro a W0 ⟨rfl,HV⟩
  clear HV0
  simp only [Exit.then]
  go_wp2_with (first | (refine wpList_load_row rfl 24 _ rfl w.heap.size rfl 24 (k.map bv).toArray (0,0) _ ?_ Tryz.underlying24 rfl (hI.out k hk) ?_;exact HV.out.cell (w.heap.size,24,k.map bv) (by simp)) | (refine wpList_load_row rfl 24 _ rfl (w.heap.size + 1) rfl 24 (u.map bv).toArray (0,0) _ ?_ Tryz.underlying24 rfl (hI.out u hu) ?_;exact HV.out.cell (w.heap.size + 1,24,u.map bv) (by simp)) | fail)
  refine (shared_any k u W0 hk hu (HT.out.2.later HV.out.bel)).mono ?_
  rintro e V ⟨rfl,hb⟩
  rw [if_neg HO.out]
  have hlen:=secB_length k u
  obtain ⟨R,hR⟩:∃ R,secB k u = R:=⟨_,rfl⟩
  have hR':leB 32 (mK k u) = R:=hR
  rw [hR] at hlen
  rw [hR']
  have HR:=ohid hR
  have hst:=run_store_arr V 24 R 32 hlen (by kernel_rfl) zero32C (by kernel_rfl)
  simp only [zero32C,List.replicate] at hst
  have hV:=(HV.out.later hb).alloc 24 (R.map bv)
  obtain ⟨X,hX⟩:∃ X,V.alloc (.cells (R.map bv).toArray 24) = X:=⟨_,rfl⟩
  rw [hX] at hst hV
  have HX:=ohid hV
  have hVs:=HV.out.later hb
  have hvl:w.heap.size ≤ V.heap.size:=hVs.bel.size
  clear hX hb hV HV hR hR' hVs
  go_wp2_with fail
  refine (nmust_ok X).mono ?_
  rintro e w2 ⟨⟨v2,rfl⟩,rfl⟩
  obtain ⟨Y,hY⟩:∃ Y,w2.drew = Y:=⟨_,rfl⟩
  have HY:=ohid (hY ▸ HX.out.drew)
  have HYe:=ohid hY
  obtain ⟨p,hp⟩:∃ p,V.heap.size = p:=⟨_,rfl⟩
  rw [hp] at HY hvl
  rw [hp]
  clear HX hst hY hp
  go_wp2_with fail
  refine wp_region_sched' (G:=But g) (by kernel_rfl) (But.refl g) (But.trans g) (by kernel_rfl) [(0,true),(1,true),(2,true),(3,true),(4,false)] rfl (by kernel_rfl) ?_
  intro KK hKK
  rw [HYe.out]
  iterate 4 (refine sched_take rfl (by rfl) (v:=?_) ?_ ?_;rotate_left;(intro w' hw';clear hw';go_simp;with_reducible rfl);go_simp)
  refine sched_call (f:=70) (args:=#[.pointer (some ⟨g,0,none⟩),.slice (some ⟨p,0,none⟩) 32 32]) rfl (by rfl) (by go_simp) ?_
  have hSY:=HS.out.later HY.out.bel
  refine (kmixkey_any g 67 (SKy own once other seen ++ []) m.C m.H m.K m.has m.n (some ⟨p,0,none⟩) 32 32 R Y hSY.mi (byt_row 32 hlen (HY.out.cell (p,24,R.map bv) (by simp))) (fun e => by cases e) (by omega) (by omega) (by unfold maxLen;omega) (HT.out.1.later HY.out.bel) HG.out.1).mono ?_
  rintro e w5 ⟨⟨v5,rfl⟩,hG5,hM5⟩
  refine ⟨_,rfl,hG5,?_⟩
  have HG5:Hid (w.grownBy w5 (some g)):=World.grownBy.trans (But.below g HY.out.bel) hG5
  have HM5:Hid (Sd w5 g (m.key R) own once other seen):=SdT.turned (m':=m.key R) hSY hM5
  clear hG5 hM5 hSY
  go_simp
  refine sched_done hKK ?_
  clear hKK
  (try go_wp2)
  refine bodyPost_end (results_none rfl _ _ _) rfl ?_
  exact ⟨⟨_,rfl⟩,HG5.out,by rw [HR.out];exact HM5.out⟩
set_option maxHeartbeats 4000000 in
theorem nmix_no (g:Nat) (m:MS) (own once other seen k u:List UInt8) (w:World) (hk:k.length = 32) (hu:u.length = 32) (hT:TT w) (h0:mK k u = 0) :
  Calls Tryz.prog 36 #[.pointer (some ⟨g,0,none⟩),.agg (k.map bv).toArray,.agg (u.map bv).toArray] w fun e w' => e = pan 4 ∧ Below w.heap.size w w':=by
 have hI:Hid (∀ l:List UInt8,l.length = 32 → (Tryz.prog.info? 24).map (·.size) = some (l.map bv).toArray.size):=fun l hl => keyIA hl
 have HV0:Hid (Vw w ((w.alloc (.cells (k.map bv).toArray 24)).alloc (.cells (u.map bv).toArray 24)) [(w.heap.size,24,k.map bv),(w.heap.size + 1,24,u.map bv)]):=by
  have h:=((Vw.none w).alloc 24 (k.map bv)).alloc 24 (u.map bv)
  simp only [World.size_alloc] at h
  exact h
 have HT:=ohid hT
 have HO:=ohid h0
 clear hT h0
 go_enter Tryz.func36,Tryz.ntmps36
 refine wp_seq (wp_cut (fun a W => a = { tmps:=#[.pointer (some ⟨g,0,none⟩),.agg (k.map bv).toArray,.agg (u.map bv).toArray,undef,.pointer (some ⟨w.heap.size,0,none⟩),.pointer (some ⟨w.heap.size + 1,0,none⟩),undef,undef,undef,undef,undef,undef,undef,undef,undef,undef,undef,undef,undef,undef,undef],defers:=[] } ∧ Hid (Vw w W [(w.heap.size,24,k.map bv),(w.heap.size + 1,24,u.map bv)])) ?_ ?_)
 ·go_wp2
  all_goals first | exact HV0 | exact ⟨rfl,HV0⟩ | exact ⟨rfl,rfl,HV0⟩
 ·rintro a W0 ⟨rfl,HV⟩
  clear HV0
  simp only [Exit.then]
  go_wp2_with (first | (refine wpList_load_row rfl 24 _ rfl w.heap.size rfl 24 (k.map bv).toArray (0,0) _ ?_ Tryz.underlying24 rfl (hI.out k hk) ?_;exact HV.out.cell (w.heap.size,24,k.map bv) (by simp)) | (refine wpList_load_row rfl 24 _ rfl (w.heap.size + 1) rfl 24 (u.map bv).toArray (0,0) _ ?_ Tryz.underlying24 rfl (hI.out u hu) ?_;exact HV.out.cell (w.heap.size + 1,24,u.map bv) (by simp)) | fail)
  refine (shared_any k u W0 hk hu (HT.out.2.later HV.out.bel)).mono ?_
  rintro e V ⟨rfl,hb⟩
  rw [if_pos HO.out]
  have hlen:=leB_length 32 (mK k u)
  obtain ⟨R,hR⟩:∃ R,leB 32 (mK k u) = R:=⟨_,rfl⟩
  rw [hR] at hlen
  rw [hR]
  have hst:=run_store_arr V 24 R 32 hlen (by kernel_rfl) zero32C (by kernel_rfl)
  simp only [zero32C,List.replicate] at hst
  have hV:=(HV.out.later hb).alloc 24 (R.map bv)
  obtain ⟨X,hX⟩:∃ X,V.alloc (.cells (R.map bv).toArray 24) = X:=⟨_,rfl⟩
  rw [hX] at hst hV
  have HX:=ohid hV.bel
  clear hX hb hV HV hR
  go_wp2_with fail
  refine (nmust_no 4 (by omega) X).mono ?_
  rintro e w2 ⟨rfl,rfl⟩
  go_wp2_with fail
  first | exact ⟨rfl,HX.out⟩ | exact ⟨rfl,rfl,HX.out⟩
end
end Go.Proofs.YthmkhdnnljdglaaGreatDoor
