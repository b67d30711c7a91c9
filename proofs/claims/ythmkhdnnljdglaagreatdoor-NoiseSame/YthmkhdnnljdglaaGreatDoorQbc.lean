import Derived.Test.YthmkhdnnljdglaaGreatDoorQaf
import Derived.Test.YthmkhdnnljdglaaGreatDoorQbb
import Derived.Test.YthmkhdnnljdglaaGreatDoorQah
namespace Go.Proofs.YthmkhdnnljdglaaGreatDoor
set_option linter.unusedVariables false
set_option maxRecDepth 100000
open Go.RowKit
theorem and248:∀ n:Fin 256,bits .and .u8 ((n.val:Nat):Int) 248 = ((n.val / 8 * 8:Nat):Int):=by decide +kernel
theorem and127:∀ n:Fin 256,bits .and .u8 ((n.val:Nat):Int) 127 = ((n.val % 128:Nat):Int):=by decide +kernel
theorem ofNat_small (n:Nat) (h:n < 256):(UInt8.ofNat n).toNat = n:=by simp;omega
theorem set64:∀ n:Fin 256,bits .or .u8 (bits .and .u8 ((n.val:Nat):Int) 127) 64 = ((n.val % 64 + 64:Nat):Int):=by decide +kernel
theorem andB1:∀ n:Fin 256,bits .and .u8 ((n.val:Nat):Int) 1 = ((n.val % 2:Nat):Int):=by decide +kernel
def keyB (k:List UInt8):List UInt8:=(k.set 0 (UInt8.ofNat ((at8 k 0).toNat / 8 * 8))).set 31 (UInt8.ofNat ((at8 k 31).toNat % 64 + 64))
theorem keyB_length (k:List UInt8):(keyB k).length = k.length:=by simp [keyB]
theorem ends_of:∀ (k:List UInt8),k.length = 32 → ∃ a m z,k = a :: (m ++ [z]) ∧ m.length = 30:=by
 intro k hk
 match k,hk with
 | a :: r,hk =>
  have hr:r.length = 31:=by simpa using hk
  have hne:r ≠ []:=fun e => by rw [e] at hr;cases hr
  exact ⟨a,r.dropLast,r.getLast hne,by rw [List.dropLast_concat_getLast],by simp [hr]⟩
theorem leN_keyB (k:List UInt8) (hk:k.length = 32):leN (keyB k) = clampK (leN k):=by
 obtain ⟨a,m,z,rfl,hm⟩:=ends_of k hk
 have h0:at8 (a :: (m ++ [z])) 0 = a:=by simp [at8]
 have h31:at8 (a :: (m ++ [z])) 31 = z:=by simp [at8,hm]
 have e:keyB (a :: (m ++ [z])) = UInt8.ofNat (a.toNat / 8 * 8) :: (m ++ [UInt8.ofNat (z.toNat % 64 + 64)]):=by
  rw [keyB,h0,h31,List.set_cons_zero,List.set_cons_succ,List.set_append_right _ _ (by omega),hm]
  rfl
 have ha:=a.toNat_lt
 have hz:=z.toNat_lt
 have hml:=leN_lt m
 rw [hm] at hml
 have ea:(UInt8.ofNat (a.toNat / 8 * 8)).toNat = a.toNat / 8 * 8:=by simp;omega
 have ez:(UInt8.ofNat (z.toNat % 64 + 64)).toNat = z.toNat % 64 + 64:=by simp;omega
 rw [e]
 simp only [leN,leN_append,ea,ez,hm,clampK]
 generalize leN m = M at hml ⊢
 generalize a.toNat = x at ha ⊢
 generalize z.toNat = y at hz ⊢
 simp only [show (256:Nat) ^ 30 = 1766847064778384329583297500742918515827483896875618958121606201292619776 from rfl,show (2:Nat) ^ 254 = 28948022309329048855892746252171976963317496166410141009864396001978282409984 from rfl] at hml ⊢
 omega
theorem lad_step {U K b:Nat} {is:Bool} {x2 z2 x3 z3 a2 d2 a3 d3 f2 e2 f3 e3:Nat} (hL:Lad (phi U) (K / 2 ^ (b + 1)) (pt x2 z2) (pt x3 z3)) (hb:is = decide (K / 2 ^ b % 2 = 1)) (h2:z2 < P255) (h3:z3 < P255)
  (ha2:(if is = true then x3 else x2) = a2) (ha3:(if is = true then x2 else x3) = a3) (hd2:(if is = true then z3 else z2) = d2) (hd3:(if is = true then z2 else z3) = d3)
  (hf2:(if is = true then nX3 a2 d2 a3 d3 else nX2 a2 d2) = f2) (hf3:(if is = true then nX2 a2 d2 else nX3 a2 d2 a3 d3) = f3) (he2:(if is = true then nZ3 U a2 d2 a3 d3 else nZ2 a2 d2) = e2) (he3:(if is = true then nZ2 a2 d2 else nZ3 U a2 d2 a3 d3) = e3) :
  Lad (phi U) (K / 2 ^ b) (pt f2 e2) (pt f3 e3):=by
 have hs:=half_step K b
 cases is with
 | false =>
  have hb0:K / 2 ^ b % 2 = 0:=by
   have h:¬ K / 2 ^ b % 2 = 1:=of_decide_eq_false hb.symm
   omega
  simp only [Bool.false_eq_true,if_false] at ha2 ha3 hd2 hd3 hf2 hf3 he2 he3
  subst ha2 ha3 hd2 hd3 hf2 hf3 he2 he3
  rw [hs,hb0,Nat.add_zero,step_one U x2 z2 x3 z3 h2 h3,step_two U x2 z2 x3 z3 h2 h3]
  exact hL.zero
 | true =>
  have hb1:K / 2 ^ b % 2 = 1:=of_decide_eq_true hb.symm
  simp only [if_true] at ha2 ha3 hd2 hd3 hf2 hf3 he2 he3
  subst ha2 ha3 hd2 hd3 hf2 hf3 he2 he3
  rw [hs,hb1,step_one U x3 z3 x2 z2 h3 h2,step_two U x3 z3 x2 z2 h3 h2]
  exact hL.one
theorem lad_end {U K x2 z2 x3 z3:Nat} (hL:Lad (phi U) (K / 2 ^ 0) (pt x2 z2) (pt x3 z3)) (hz:z2 < P255):fM x2 (finv z2) = mX K U:=by
 rw [Nat.pow_zero,Nat.div_one] at hL
 exact mX_eq (fM_lt _ _) (hL.done (isX_pt hz))
def zeroKb:List Value:=(List.replicate 32 (0:UInt8)).map bv
set_option maxHeartbeats 4000000 in
set_option maxRecDepth 100000 in
theorem number_any (k:List UInt8) (w:World) (hk:k.length = 32) :
  Calls Tryz.prog 54 #[.agg (k.map bv).toArray] w fun e w' => e = .returned (.agg ((keyB k).map bv).toArray) ∧ Below w.heap.size w w':=by
 have hI:Hid (∀ l:List UInt8,l.length = 32 → (Tryz.prog.info? 24).map (·.size) = some (l.map bv).toArray.size):=fun l hl => info_size (n:=32) (by kernel_rfl) l hl
 have HV0:Hid (Vw w ((w.alloc (.cells (k.map bv).toArray 24)).alloc (.cells zeroKb.toArray 24)) [(w.heap.size,24,k.map bv),(w.heap.size + 1,24,zeroKb)]):=by
  have h:=((Vw.none w).alloc 24 (k.map bv)).alloc 24 zeroKb
  simp only [World.size_alloc] at h
  exact h
 obtain ⟨k0,hk0⟩:∃ k0,(at8 k 0).toNat = k0:=⟨_,rfl⟩
 obtain ⟨k31,hk31⟩:∃ k31,(at8 k 31).toNat = k31:=⟨_,rfl⟩
 have hk0l:k0 < 256:=by rw [← hk0];exact (at8 k 0).toNat_lt
 have hk31l:k31 < 256:=by rw [← hk31];exact (at8 k 31).toNat_lt
 obtain ⟨m0,hm0⟩:∃ m0,k0 / 8 * 8 = m0:=⟨_,rfl⟩
 obtain ⟨t31,ht31⟩:∃ t31,k31 % 128 = t31:=⟨_,rfl⟩
 obtain ⟨m31,hm31⟩:∃ m31,k31 % 64 + 64 = m31:=⟨_,rfl⟩
 have E0:bits .and .u8 (k0:Int) 248 = (m0:Int):=by rw [← hm0];exact and248 ⟨k0,hk0l⟩
 have E31a:bits .and .u8 (k31:Int) 127 = (t31:Int):=by rw [← ht31];exact and127 ⟨k31,hk31l⟩
 have E31b:bits .or .u8 (t31:Int) 64 = (m31:Int):=by rw [← E31a,← hm31];exact set64 ⟨k31,hk31l⟩
 obtain ⟨kk,hkk⟩:∃ kk,keyB k = kk:=⟨_,rfl⟩
 have hkl:kk.length = 32:=by rw [← hkk,keyB_length,hk]
 have hkb:kk.map bv = ((k.map bv).set 0 (.int .u8 (m0:Int))).set 31 (.int .u8 (m31:Int)):=by
  have h1:bv (UInt8.ofNat ((at8 k 0).toNat / 8 * 8)) = .int .u8 (m0:Int):=by rw [bv,ofNat_small _ (by omega),hk0,hm0]
  have h2:bv (UInt8.ofNat ((at8 k 31).toNat % 64 + 64)) = .int .u8 (m31:Int):=by rw [bv,ofNat_small _ (by omega),hk31,hm31]
  rw [← hkk,keyB,List.map_set,List.map_set,h1,h2]
 rw [hkk]
 clear hkk hm0 ht31 hm31
 go_enter Tryz.func54,Tryz.ntmps54
 refine wp_seq (wp_cut (fun a W => a = { tmps:=#[.agg (k.map bv).toArray,.pointer (some ⟨w.heap.size,0,none⟩),.pointer (some ⟨w.heap.size + 1,0,none⟩),undef,undef,undef,undef,undef,undef,undef,undef,undef,undef,undef,undef,undef],defers:=[] } ∧ Hid (Vw w W [(w.heap.size,24,k.map bv),(w.heap.size + 1,24,zeroKb)])) ?_ ?_)
 ·go_wp2
  first | exact HV0 | exact ⟨rfl,HV0⟩ | exact ⟨rfl,rfl,HV0⟩
 ·rintro a W0 ⟨rfl,HV1⟩
  clear HV0
  simp only [Exit.then]
  have hA:Arr W0 (w.heap.size) 24 k:=HV1.out.cell (w.heap.size,24,k.map bv) (by simp)
  obtain ⟨c0,f0⟩:=hA.at_ 0 (by omega)
  rw [hk0] at c0
  have hV2:=HV1.out.setCell 0 (w.heap.size) 24 (k.map bv) 0 (.int .u8 (m0:Int)) rfl
  have c31:(W0.setCell ⟨w.heap.size,0,none⟩ (.int .u8 (m0:Int))).cell? ⟨w.heap.size,31,none⟩ = some (.int .u8 (k31:Int)):=by
   have:=hV2.cell (w.heap.size,24,(k.map bv).set 0 (.int .u8 (m0:Int))) (by simp)
   rw [cell_of_row _ _ 31 _ _ (0,0) this]
   simp only [List.getElem?_toArray,List.getElem?_set_ne (show (0:Nat) ≠ 31 by decide)]
   rw [← hk31,at8_get k 31 (by omega)]
   simp [bv,hk]
  have f31:(W0.setCell ⟨w.heap.size,0,none⟩ (.int .u8 (m0:Int))).frozen? ⟨w.heap.size,31,none⟩ = false:=frozen_of_row _ _ 31 _ _ (hV2.cell (w.heap.size,24,(k.map bv).set 0 (.int .u8 (m0:Int))) (by simp))
  have hV3:=hV2.setCell 0 (w.heap.size) 24 ((k.map bv).set 0 (.int .u8 (m0:Int))) 31 (.int .u8 (m31:Int)) rfl
  have HV2:Hid (Vw w ((W0.setCell ⟨w.heap.size,0,none⟩ (.int .u8 (m0:Int))).setCell ⟨w.heap.size,31,none⟩ (.int .u8 (m31:Int))) [(w.heap.size,24,kk.map bv),(w.heap.size + 1,24,zeroKb)]):=by
   rw [hkb]
   exact hV3
  have hR:=HV2.out.cell (w.heap.size + 1,24,zeroKb) (by simp)
  have hst:=store_row _ (w.heap.size + 1) _ _ (kk.map bv) hR (by simp [hkl,zeroKb]) (bv_oneCell kk)
  have HX:=hidup (HV2.out.put 1 (w.heap.size + 1) 24 zeroKb (kk.map bv) rfl)
  clear hA hV2 hV3 HV1 hkb hk0 hk31 hR
  go_wp2_with (first | (refine wpList_load_row rfl 24 _ rfl (w.heap.size) rfl 24 (kk.map bv).toArray (0,0) _ ?_ Tryz.underlying24 rfl (hI.out kk hkl) ?_;exact HV2.out.cell (w.heap.size,24,kk.map bv) (by simp)) | fail)
  (try simp only [Exit.inBlock,Exit.then])
  refine bodyPost_ret (results_cell_row rfl _ _ (w.heap.size + 1) 24 _ (0,0) _ rfl (HX.out.cell (w.heap.size + 1,24,kk.map bv) (by simp)) Tryz.underlying24 rfl (hI.out kk hkl)) rfl ?_
  exact ⟨rfl,HX.out.bel⟩
set_option maxHeartbeats 4000000 in
set_option maxRecDepth 100000 in
theorem cswap_any (is:Bool) (A B:List Value) (x1 z1 x2 z2:Nat) (w:World) (hA:PtE A x1 z1) (hB:PtE B x2 z2) :
  Calls Tryz.prog 57 #[.bool is,.agg A.toArray,.agg B.toArray] w fun e w' => ∃ C D,e = .returned (.tuple #[.agg C.toArray,.agg D.toArray]) ∧ PtE C (if is = true then x2 else x1) (if is = true then z2 else z1) ∧ PtE D (if is = true then x1 else x2) (if is = true then z1 else z2) ∧ Below w.heap.size w w':=by
 obtain ⟨mx1,hmx1⟩:∃ n,(if is = true then x2 else x1) = n:=⟨_,rfl⟩
 obtain ⟨mz1,hmz1⟩:∃ n,(if is = true then z2 else z1) = n:=⟨_,rfl⟩
 obtain ⟨mx2,hmx2⟩:∃ n,(if is = true then x1 else x2) = n:=⟨_,rfl⟩
 obtain ⟨mz2,hmz2⟩:∃ n,(if is = true then z1 else z2) = n:=⟨_,rfl⟩
 rw [hmx1,hmz1,hmx2,hmz2]
 have HX1:=hidup hmx1
 have HZ1:=hidup hmz1
 have HX2:=hidup hmx2
 have HZ2:=hidup hmz2
 clear hmx1 hmz1 hmx2 hmz2
 obtain ⟨a1,a2,eA,ha1,ha2⟩:=hA
 obtain ⟨b1,b2,eB,hb1,hb2⟩:=hB
 have EA:=hidup eA
 have EB:=hidup eB
 have HA1:=hidup ha1
 have HA2:=hidup ha2
 have HB1:=hidup hb1
 have HB2:=hidup hb2
 clear eA eB ha1 ha2 hb1 hb2
 have HV0:Hid (Vw w ((((w.alloc (.cells A.toArray 101)).alloc (.cells B.toArray 101)).alloc (.cells zeroP.toArray 101)).alloc (.cells zeroP.toArray 101)) [(w.heap.size,101,A),(w.heap.size + 1,101,B),(w.heap.size + 1 + 1,101,zeroP),(w.heap.size + 1 + 1 + 1,101,zeroP)]):=by
  have h:=((((Vw.none w).alloc 101 A).alloc 101 B).alloc 101 zeroP).alloc 101 zeroP
  simp only [World.size_alloc] at h
  exact h
 go_enter Tryz.func57,Tryz.ntmps57
 refine wp_seq (wp_cut (fun a W => a = { tmps:=#[.bool is,.agg A.toArray,.agg B.toArray,undef,.pointer (some ⟨w.heap.size,0,none⟩),.pointer (some ⟨w.heap.size + 1,0,none⟩),.pointer (some ⟨w.heap.size + 1 + 1,0,none⟩),.pointer (some ⟨w.heap.size + 1 + 1 + 1,0,none⟩),undef,undef,undef,undef,undef,undef,undef,undef,undef,undef,undef,undef,undef,undef,undef,undef,undef,undef,undef,undef,undef,undef,undef,undef],defers:=[] } ∧ Hid (Vw w W [(w.heap.size,101,A),(w.heap.size + 1,101,B),(w.heap.size + 1 + 1,101,zeroP),(w.heap.size + 1 + 1 + 1,101,zeroP)])) ?_ ?_)
 ·go_wp2
  first | exact HV0 | exact ⟨rfl,HV0⟩ | exact ⟨rfl,rfl,HV0⟩
 ·rintro a W0 ⟨rfl,HV⟩
  clear HV0
  simp only [Exit.then]
  go_wp2_with (first | (refine wpList_load_part rfl 96 _ rfl (w.heap.size) 0 rfl a1 _ (px_cells (HV.out.cell (w.heap.size,101,A) (by simp)) EA.out) Tryz.underlying96 rfl (elm_size HA1.out) ?_) | (refine wpList_load_part rfl 96 _ rfl (w.heap.size + 1) 0 rfl b1 _ (px_cells (HV.out.cell (w.heap.size + 1,101,B) (by simp)) EB.out) Tryz.underlying96 rfl (elm_size HB1.out) ?_) | fail)
  refine (fswap_any is a1 b1 x1 x2 W0 HA1.out HB1.out).mono ?_
  rintro e V1 ⟨c1,d1,rfl,hc,hd,hb⟩
  rw [HX1.out] at hc
  rw [HX2.out] at hd
  have HC1:=hidup hc
  have HD1:=hidup hd
  have hlc:=hc.len
  have hld:=hd.len
  have hV:=HV.out.later hb
  have hst1:=store_x V1 (w.heap.size) A a1 a2 c1 (hV.cell (w.heap.size,101,A) (by simp)) EA.out HA1.out hc
  have hV1:=hV.put 0 (w.heap.size) 101 A (c1 ++ a2) rfl
  obtain ⟨A',hA'⟩:∃ X,c1 ++ a2 = X:=⟨_,rfl⟩
  obtain ⟨Y1,hY1⟩:∃ X,V1.setRow (w.heap.size) (c1 ++ a2).toArray = X:=⟨_,rfl⟩
  rw [hY1] at hst1 hV1
  rw [hA'] at hV1
  have hst2:=store_x Y1 (w.heap.size + 1) B b1 b2 d1 (hV1.cell (w.heap.size + 1,101,B) (by simp)) EB.out HB1.out hd
  have hV2:=hV1.put 1 (w.heap.size + 1) 101 B (d1 ++ b2) rfl
  obtain ⟨B',hB'⟩:∃ X,d1 ++ b2 = X:=⟨_,rfl⟩
  obtain ⟨Y2,hY2⟩:∃ X,Y1.setRow (w.heap.size + 1) (d1 ++ b2).toArray = X:=⟨_,rfl⟩
  rw [hY2] at hst2 hV2
  rw [hB'] at hV2
  have EA':=hidup hA'.symm
  have EB':=hidup hB'.symm
  replace HV:Hid (Vw w Y2 [(w.heap.size,101,A'),(w.heap.size + 1,101,B'),(w.heap.size + 1 + 1,101,zeroP),(w.heap.size + 1 + 1 + 1,101,zeroP)]):=hV2
  clear hc hd hb hV hV1 hV2 hA' hB' hY1 hY2
  go_wp2_with (first | (refine wpList_load_part rfl 96 _ rfl (w.heap.size) 5 rfl a2 _ (pz_cells (HV.out.cell (w.heap.size,101,A') (by simp)) EA'.out HC1.out) Tryz.underlying96 rfl (elm_size HA2.out) ?_) | (refine wpList_load_part rfl 96 _ rfl (w.heap.size + 1) 5 rfl b2 _ (pz_cells (HV.out.cell (w.heap.size + 1,101,B') (by simp)) EB'.out HD1.out) Tryz.underlying96 rfl (elm_size HB2.out) ?_) | fail)
  clear hst1 hst2
  refine (fswap_any is a2 b2 z1 z2 Y2 HA2.out HB2.out).mono ?_
  rintro e V2 ⟨c2,d2,rfl,hc,hd,hb⟩
  rw [HZ1.out] at hc
  rw [HZ2.out] at hd
  have HC2:=hidup hc
  have HD2:=hidup hd
  have hlc2:=hc.len
  have hld2:=hd.len
  have hV:=HV.out.later hb
  have hst1:=store_z V2 (w.heap.size) A' c1 a2 c2 (hV.cell (w.heap.size,101,A') (by simp)) EA'.out HC1.out HA2.out hc
  have hV1:=hV.put 0 (w.heap.size) 101 A' (c1 ++ c2) rfl
  obtain ⟨C,hC⟩:∃ X,c1 ++ c2 = X:=⟨_,rfl⟩
  obtain ⟨Y3,hY3⟩:∃ X,V2.setRow (w.heap.size) (c1 ++ c2).toArray = X:=⟨_,rfl⟩
  rw [hY3] at hst1 hV1
  rw [hC] at hV1
  have hst2:=store_z Y3 (w.heap.size + 1) B' d1 b2 d2 (hV1.cell (w.heap.size + 1,101,B') (by simp)) EB'.out HD1.out HB2.out hd
  have hV2:=hV1.put 1 (w.heap.size + 1) 101 B' (d1 ++ d2) rfl
  obtain ⟨D,hD⟩:∃ X,d1 ++ d2 = X:=⟨_,rfl⟩
  obtain ⟨Y4,hY4⟩:∃ X,Y3.setRow (w.heap.size + 1) (d1 ++ d2).toArray = X:=⟨_,rfl⟩
  rw [hY4] at hst2 hV2
  rw [hD] at hV2
  have HPC:Hid (PtE C mx1 mz1):=⟨c1,c2,hC.symm,HC1.out,HC2.out⟩
  have HPD:Hid (PtE D mx2 mz2):=⟨d1,d2,hD.symm,HD1.out,HD2.out⟩
  replace HV:Hid (Vw w Y4 [(w.heap.size,101,C),(w.heap.size + 1,101,D),(w.heap.size + 1 + 1,101,zeroP),(w.heap.size + 1 + 1 + 1,101,zeroP)]):=hV2
  clear hc hd hb hV hV1 hV2 hC hD hY3 hY4
  go_wp2
  clear hst1 hst2
  have hVd:=HV.out.drew
  obtain ⟨Wd,hWd⟩:∃ W,Y4.drew = W:=⟨_,rfl⟩
  rw [hWd] at hVd
  have HWd:Hid (Y4.drew = Wd):=hWd
  have CP:Hid (Wd.heap[w.heap.size]? = some (.cells C.toArray 101 (0,0))):=hVd.cell (w.heap.size,101,C) (by simp)
  have CQ:Hid (Wd.heap[w.heap.size + 1]? = some (.cells D.toArray 101 (0,0))):=hVd.cell (w.heap.size + 1,101,D) (by simp)
  have hlA:=HPC.out.ptc.len
  have hlB:=HPD.out.ptc.len
  have hst1:=store_row Wd (w.heap.size + 1 + 1) _ _ C (hVd.cell (w.heap.size + 1 + 1,101,zeroP) (by simp)) (by rw [HPC.out.ptc.len];rfl) HPC.out.ptc.one
  have hV1:=hVd.put 2 (w.heap.size + 1 + 1) 101 zeroP C rfl
  obtain ⟨X1,hX1⟩:∃ X,Wd.setRow (w.heap.size + 1 + 1) C.toArray = X:=⟨_,rfl⟩
  rw [hX1] at hst1 hV1
  have hst2:=store_row X1 (w.heap.size + 1 + 1 + 1) _ _ D (hV1.cell (w.heap.size + 1 + 1 + 1,101,zeroP) (by simp)) (by rw [HPD.out.ptc.len];rfl) HPD.out.ptc.one
  have hV2:=hV1.put 3 (w.heap.size + 1 + 1 + 1) 101 zeroP D rfl
  obtain ⟨X2,hX2⟩:∃ X,X1.setRow (w.heap.size + 1 + 1 + 1) D.toArray = X:=⟨_,rfl⟩
  rw [hX2] at hst2 hV2
  have G1:Hid (X1.heap[w.heap.size]? = Wd.heap[w.heap.size]? ∧ X1.heap[w.heap.size + 1]? = Wd.heap[w.heap.size + 1]?):=⟨by rw [hV1.cell (w.heap.size,101,C) (by simp),CP.out],by rw [hV1.cell (w.heap.size + 1,101,D) (by simp),CQ.out]⟩
  have G2:Hid (X2.heap[w.heap.size]? = X1.heap[w.heap.size]? ∧ X2.heap[w.heap.size + 1]? = X1.heap[w.heap.size + 1]?):=⟨by rw [hV2.cell (w.heap.size,101,C) (by simp),hV1.cell (w.heap.size,101,C) (by simp)],by rw [hV2.cell (w.heap.size + 1,101,D) (by simp),hV1.cell (w.heap.size + 1,101,D) (by simp)]⟩
  have R1:Hid (X2.heap[w.heap.size + 1 + 1]? = some (.cells C.toArray 101 (0,0))):=hV2.cell (w.heap.size + 1 + 1,101,C) (by simp)
  have R2:Hid (X2.heap[w.heap.size + 1 + 1 + 1]? = some (.cells D.toArray 101 (0,0))):=hV2.cell (w.heap.size + 1 + 1 + 1,101,D) (by simp)
  have HBel:Hid (Below w.heap.size w X2):=hV2.bel
  clear hVd hV1 hV2 hX1 hX2 hWd HV
  refine wp_region_sched' (G:=fun X Y => Y.heap[w.heap.size]? = X.heap[w.heap.size]? ∧ Y.heap[w.heap.size + 1]? = X.heap[w.heap.size + 1]?) (by kernel_rfl) (fun _ => ⟨rfl,rfl⟩) (fun _ _ _ h k => ⟨k.1.trans h.1,k.2.trans h.2⟩) (by kernel_rfl) [(0,true),(1,true),(2,false),(3,false)] rfl (by kernel_rfl) ?_
  intro KK hKK
  rw [HWd.out]
  clear HWd
  refine sched_take rfl (by rfl) (v:=.agg C.toArray) (fun w' hw' => exec_load_row 101 _ rfl (w.heap.size) rfl 101 _ (0,0) _ (hw'.1.trans CP.out) Tryz.underlying101 rfl (pt_info HPC.out.ptc)) ?_
  go_simp
  refine sched_take rfl (by rfl) (v:=.agg D.toArray) (fun w' hw' => exec_load_row 101 _ rfl (w.heap.size + 1) rfl 101 _ (0,0) _ (hw'.2.trans CQ.out) Tryz.underlying101 rfl (pt_info HPD.out.ptc)) ?_
  go_simp
  refine sched_put rfl (by rfl) (w':=X1) (by go_simp) G1.out ?_
  go_simp
  refine sched_put rfl (by rfl) (w':=X2) (by go_simp) G2.out ?_
  clear hst1 hst2
  go_simp
  refine sched_done hKK ?_
  clear hKK
  (try go_wp2)
  (try simp only [Exit.inBlock,Exit.then])
  refine bodyPost_ret (results_both rfl _ _ (w.heap.size + 1 + 1) (w.heap.size + 1 + 1 + 1) 101 _ _ _ rfl rfl R1.out R2.out Tryz.underlying101 rfl (pt_info HPC.out.ptc) (pt_info HPD.out.ptc)) rfl ?_
  exact ⟨C,D,rfl,HPC.out,HPD.out,HBel.out⟩
end Go.Proofs.YthmkhdnnljdglaaGreatDoor
