import Derived.Test.YthmkhdnnljdglaaGreatDoorQaq
import Derived.Test.YthmkhdnnljdglaaGreatDoorQav
import Derived.Test.YthmkhdnnljdglaaGreatDoorQah
import Derived.Lib.BufferWrite
import Derived.Lib.ConvBytes
namespace Go.Proofs.YthmkhdnnljdglaaGreatDoor
set_option linter.unusedVariables false
set_option maxRecDepth 100000
open Go.RowKit
theorem part_put {w:World} {g t off:Nat} {A old B:List Value} (h:w.heap[g]? = some (.cells (A ++ (old ++ B)).toArray t (0,0))) (ha:A.length = off) (vs:List Value) (hl:vs.length = old.length) (h1:∀ v ∈ vs,v.oneCell' = true) :
  ∃ w',(storeCells ⟨g,off,none⟩ vs).run Tryz.prog w = .ok () w' ∧ w'.heap[g]? = some (.cells (A ++ (vs ++ B)).toArray t (0,0)) ∧ w.grownBy w' (some g):=by
 have hs:=run_storeCells_part (P:=Tryz.prog) g off t vs 0 _ w h (by simp [ha,hl]) h1
 refine ⟨_,hs,?_,⟨rfl,rfl,rfl,by simp,fun k hk hne => setRow_other w g k _ (fun e => hne (by rw [e]))⟩⟩
 have hr:=setRow_heap w g _ ((A ++ (old ++ B)).toArray.toList.take (off + 0) ++ vs ++ (A ++ (old ++ B)).toArray.toList.drop (off + 0 + vs.length)).toArray t (0,0) h
 have e2:(A ++ (old ++ B)).toArray.toList = A ++ (old ++ B):=rfl
 rw [hr,e2]
 have x1:A.length = off + 0:=ha
 have x2:(A ++ old).length = off + 0 + vs.length:=by simp [ha,hl]
 rw [List.take_left' x1,← List.append_assoc A old B,List.drop_left' x2,List.append_assoc]
section
variable {w:World} {g t:Nat} {B:List Value} {chain hash key:List UInt8} {has:Bool} {n:Nat}
theorem KM.putHash (x:KM w g t B chain hash key has n) (h':List UInt8) (hl:h'.length = 32) :
  ∃ w',(storeCells ⟨g,32,none⟩ (h'.map bv)).run Tryz.prog w = .ok () w' ∧ KM w' g t B chain h' key has n ∧ w.grownBy w' (some g):=by
 obtain ⟨w',h1,h2,h3⟩:=part_put (off:=32) (A:=chain.map bv) (old:=hash.map bv) (B:=CiV key has n ++ B) (by simpa [MiV] using x.row) (by simp [x.c]) (h'.map bv) (by simp [hl,x.h]) (bv_oneCell h')
 exact ⟨w',h1,⟨by simpa [MiV] using h2,x.c,hl,x.k⟩,h3⟩
theorem KM.putChain (x:KM w g t B chain hash key has n) (c':List UInt8) (hl:c'.length = 32) :
  ∃ w',(storeCells ⟨g,0,none⟩ (c'.map bv)).run Tryz.prog w = .ok () w' ∧ KM w' g t B c' hash key has n ∧ w.grownBy w' (some g):=by
 obtain ⟨w',h1,h2,h3⟩:=part_put (A:=[]) (old:=chain.map bv) (B:=hash.map bv ++ (CiV key has n ++ B)) (by simpa [MiV] using x.row) rfl (c'.map bv) (by simp [hl,x.c]) (bv_oneCell c')
 exact ⟨w',h1,⟨by simpa [MiV] using h2,hl,x.h,x.k⟩,h3⟩
theorem KM.putCi (x:KM w g t B chain hash key has n) (k':List UInt8) (has':Bool) (n':Nat) (hl:k'.length = 32) :
  ∃ w',(storeCells ⟨g,64,none⟩ (CiV k' has' n')).run Tryz.prog w = .ok () w' ∧ KM w' g t B chain hash k' has' n' ∧ w.grownBy w' (some g):=by
 obtain ⟨w',h1,h2,h3⟩:=part_put (off:=64) (A:=chain.map bv ++ hash.map bv) (old:=CiV key has n) (B:=B) (by simpa [MiV] using x.row) (by simp [x.c,x.h]) (CiV k' has' n') (by simp [CiV,hl,x.k]) (CiV_one k' has' n')
 exact ⟨w',h1,⟨by simpa [MiV] using h2,x.c,x.h,hl⟩,h3⟩
end
set_option maxHeartbeats 2000000 in
theorem kmixhash_any (g t:Nat) (BB:List Value) (chain hash key:List UInt8) (has:Bool) (n:Nat) (c:Option Addr) (lc cc:Nat) (b:List UInt8) (w:World) (hM:KM w g t BB chain hash key has n) (hB:Byt w c lc b) (hBn:c = none → cc = 0) (hlc:lc ≤ 2000) (hcc:lc ≤ cc) (hccm:cc ≤ maxLen) (htab:Tab w) (hg:g ≠ 1 ∧ g ≠ 2) :
  Calls Tryz.prog 63 #[.pointer (some ⟨g,0,none⟩),.slice c lc cc] w fun e w' => (∃ v,e = .returned v) ∧ w.grownBy w' (some g) ∧ KM w' g t BB chain (mixH hash b) key has n:=by
 have hbl:=hB.1
 have hgl:=hM.lt
 have hlt0:=htab.lt
 have hhl:=hM.h
 have HM:=ohid hM
 have HB:=ohid hB
 have HTab:=ohid htab
 have HA:Hid (∀ g',w.heap.size ≤ g' → 0 < lc → ∀ b o f,c = some ⟨b,o,f⟩ → b ≠ g'):=fun g' hg' => hB.apart hg'
 clear hM hB htab
 go_enter Tryz.func63,Tryz.ntmps63
 go_wp2_with fail
 refine (bnew_any w HTab.out).mono ?_
 rintro e w1 ⟨g1,rfl,hg1,hH1,hb1⟩
 have hgg:g ≠ g1:=by omega
 have hgt:g1 ≠ 1 ∧ g1 ≠ 2:=by omega
 have HT1:=ohid (HTab.out.later hb1)
 have HH1:=ohid hH1
 have HM1:=ohid (HM.out.later hb1)
 have HB1:=ohid (HB.out.later hb1)
 have HW1:=ohid hb1
 have HP1:Hid (Byt w1 (some ⟨g,32,none⟩) 32 hash):=byt_of_cells hhl HM1.out.hashB
 clear hH1 hb1
 go_wp2_with fail
 refine (bwrite_any g1 [] (some ⟨g,32,none⟩) 32 32 hash w1 HH1.out HP1.out (fun e => by cases e) (fun _ b o f e => by cases e;exact hgg) (Nat.le_refl _) (by unfold maxLen;omega) (by simp) HT1.out hgt).mono ?_
 rintro e w2 ⟨⟨v,rfl⟩,hH2,hG2⟩
 have HH2:Hid (HashIs w2 g1 hash):=hH2
 have HT2:=ohid (HT1.out.but hG2 hgt)
 have HM2:=ohid (HM1.out.but hG2 hgg)
 have HB2:=ohid (HB1.out.but_any hG2 (HA.out g1 hg1))
 have HW2:=ohid (below_but HW1.out hG2 hg1)
 clear hH2 hG2 HH1 HT1 HM1 HB1 HP1 HW1
 go_wp2_with fail
 refine (bwrite_any g1 hash c lc cc b w2 HH2.out HB2.out hBn (HA.out g1 hg1) hcc hccm (by omega) HT2.out hgt).mono ?_
 rintro e w3 ⟨⟨v3,rfl⟩,hH3,hG3⟩
 have HH3:Hid (HashIs w3 g1 (hash ++ b)):=hH3
 have HT3:=ohid (HT2.out.but hG3 hgt)
 have HM3:=ohid (HM2.out.but hG3 hgg)
 have HW3:=ohid (below_but HW2.out hG3 hg1)
 clear hH3 hG3 HH2 HT2 HM2 HB2 HW2
 go_wp2_with fail
 refine (bhsum_any g1 (hash ++ b) w3 HH3.out (by simp;omega) HT3.out).mono ?_
 rintro e w4 ⟨rfl,hb4⟩
 have hRl:=mixH_length hash b
 obtain ⟨R,hR⟩:∃ R,mixH hash b = R:=⟨_,rfl⟩
 have hR':blakeB (hash ++ b) = R:=hR
 rw [hR] at hRl
 rw [hR']
 obtain ⟨X,hst,hMX,hGX⟩:=(HM3.out.later hb4).putHash R hRl
 have HR:=ohid hR
 have HMX:=ohid hMX
 have HGX:Hid (w.grownBy X (some g)):=World.grownBy.trans (But.below g (HW3.out.trans (hb4.mono HW3.out.size))) hGX
 clear hMX hGX hb4 HH3 HT3 HM3 HW3 hR hR'
 go_wp2_with fail
 refine bodyPost_end (results_none rfl _ _ _) rfl ?_
 exact ⟨⟨_,rfl⟩,HGX.out,by rw [HR.out];exact HMX.out⟩
theorem key_place3 (w:World) (K1 K2 K3:List UInt8) (h1:K1.length = 32) (h2:K2.length = 32) (h3:K3.length = 32) :
  ∃ X1 X2 X3,(storeCells ⟨w.heap.size,0,none⟩ (K1.map bv)).run Tryz.prog (((w.alloc (.cells zero32B 24)).alloc (.cells zero32B 24)).alloc (.cells zero32B 24)) = .ok () X1 ∧
   (storeCells ⟨w.heap.size + 1,0,none⟩ (K2.map bv)).run Tryz.prog X1 = .ok () X2 ∧ (storeCells ⟨w.heap.size + 1 + 1,0,none⟩ (K3.map bv)).run Tryz.prog X2 = .ok () X3 ∧
   Arr X3 w.heap.size 24 K1 ∧ Arr X3 (w.heap.size + 1) 24 K2 ∧ Below w.heap.size w X3:=by
 obtain ⟨W,hW⟩:∃ W,((w.alloc (.cells zero32B 24)).alloc (.cells zero32B 24)).alloc (.cells zero32B 24) = W:=⟨_,rfl⟩
 have e1:=heap_alloc_new w (.cells zero32B 24)
 have e2:=heap_alloc_new (w.alloc (.cells zero32B 24)) (.cells zero32B 24)
 have e3:=heap_alloc_new ((w.alloc (.cells zero32B 24)).alloc (.cells zero32B 24)) (.cells zero32B 24)
 simp only [World.size_alloc] at e2 e3
 have r1:W.heap[w.heap.size]? = some (.cells zero32B 24 (0,0)):=by
  rw [← hW,Below.heap_alloc _ _ _ (by simp <;> omega),Below.heap_alloc _ _ _ (by simp)];exact e1
 have r2:W.heap[w.heap.size + 1]? = some (.cells zero32B 24 (0,0)):=by
  rw [← hW,Below.heap_alloc _ _ _ (by simp)];exact e2
 have r3:W.heap[w.heap.size + 1 + 1]? = some (.cells zero32B 24 (0,0)):=by rw [← hW];exact e3
 have hb:Below w.heap.size w W:=by rw [← hW];exact (((Below.refl _ _).alloc (Nat.le_refl _) _).alloc (by simp) _).alloc (by simp <;> omega) _
 rw [hW]
 have s1:=store_row W w.heap.size _ _ (K1.map bv) r1 (by simp [h1,zero32B]) (bv_oneCell K1)
 have q1:=setRow_heap W w.heap.size _ (K1.map bv).toArray _ _ r1
 have q2:=(setRow_other W w.heap.size (w.heap.size + 1) (K1.map bv).toArray (by omega)).trans r2
 have q3:=(setRow_other W w.heap.size (w.heap.size + 1 + 1) (K1.map bv).toArray (by omega)).trans r3
 have b1:=below_setRow hb (Nat.le_refl _) (K1.map bv).toArray
 obtain ⟨X1,hX1⟩:∃ X,W.setRow w.heap.size (K1.map bv).toArray = X:=⟨_,rfl⟩
 rw [hX1] at s1 q1 q2 q3 b1
 have s2:=store_row X1 (w.heap.size + 1) _ _ (K2.map bv) q2 (by simp [h2,zero32B]) (bv_oneCell K2)
 have t1:=(setRow_other X1 (w.heap.size + 1) w.heap.size (K2.map bv).toArray (by omega)).trans q1
 have t2:=setRow_heap X1 (w.heap.size + 1) _ (K2.map bv).toArray _ _ q2
 have t3:=(setRow_other X1 (w.heap.size + 1) (w.heap.size + 1 + 1) (K2.map bv).toArray (by omega)).trans q3
 have b2:=below_setRow b1 (show w.heap.size ≤ w.heap.size + 1 by omega) (K2.map bv).toArray
 obtain ⟨X2,hX2⟩:∃ X,X1.setRow (w.heap.size + 1) (K2.map bv).toArray = X:=⟨_,rfl⟩
 rw [hX2] at s2 t1 t2 t3 b2
 have s3:=store_row X2 (w.heap.size + 1 + 1) _ _ (K3.map bv) t3 (by simp [h3,zero32B]) (bv_oneCell K3)
 have u1:=(setRow_other X2 (w.heap.size + 1 + 1) w.heap.size (K3.map bv).toArray (by omega)).trans t1
 have u2:=(setRow_other X2 (w.heap.size + 1 + 1) (w.heap.size + 1) (K3.map bv).toArray (by omega)).trans t2
 have b3:=below_setRow b2 (show w.heap.size ≤ w.heap.size + 1 + 1 by omega) (K3.map bv).toArray
 exact ⟨X1,X2,_,s1,s2,s3,u1,u2,b3⟩
set_option maxHeartbeats 4000000 in
theorem kmixkey_any (g t:Nat) (BB:List Value) (chain hash key:List UInt8) (has:Bool) (n:Nat) (c:Option Addr) (lc cc:Nat) (b:List UInt8) (w:World) (hM:KM w g t BB chain hash key has n) (hB:Byt w c lc b) (hBn:c = none → cc = 0) (hlc:lc ≤ 2000) (hcc:lc ≤ cc) (hccm:cc ≤ maxLen) (htab:Tab w) (hg:g ≠ 1 ∧ g ≠ 2) :
  Calls Tryz.prog 70 #[.pointer (some ⟨g,0,none⟩),.slice c lc cc] w fun e w' => (∃ v,e = .returned v) ∧ w.grownBy w' (some g) ∧ KM w' g t BB (der1 chain b) hash (der2 chain b) true 0:=by
 have hgl:=hM.lt
 have hcl:=hM.c
 have HM:=ohid hM
 have HB:=ohid hB
 have HTab:=ohid htab
 have HI:Hid ((Tryz.prog.info? 24).map (·.size) = some (chain.map bv).length):=by
  have e1:(Tryz.prog.info? 24).map (·.size) = some 32:=by kernel_rfl
  show _ = _
  rw [e1];simp [hcl]
 clear hM hB htab
 go_enter Tryz.func70,Tryz.ntmps70
 go_wp2_with (first | refine wpList_load_part rfl 24 _ rfl g 0 rfl (chain.map bv) _ HM.out.chainB Tryz.underlying24 rfl HI.out ?_ | fail)
 refine (derive_any chain c lc cc b w hcl HB.out hBn (by omega) hcc hccm HTab.out).mono ?_
 rintro e w1 ⟨rfl,hb1⟩
 obtain ⟨D1,hD1⟩:∃ D,der1 chain b = D:=⟨_,rfl⟩
 obtain ⟨D2,hD2⟩:∃ D,der2 chain b = D:=⟨_,rfl⟩
 obtain ⟨D3,hD3⟩:∃ D,der3 chain b = D:=⟨_,rfl⟩
 have l1:D1.length = 32:=by rw [← hD1];exact macB_length _ _
 have l2:D2.length = 32:=by rw [← hD2];exact macB_length _ _
 have l3:D3.length = 32:=by rw [← hD3];exact macB_length _ _
 rw [hD1,hD2,hD3]
 obtain ⟨X1,X2,X3,s1,s2,s3,u1,u2,hb3⟩:=key_place3 w1 D1 D2 D3 l1 l2 l3
 simp only [zero32B,List.replicate] at s1
 have hb13:Below w.heap.size w X3:=hb1.trans (hb3.mono hb1.size)
 have I1:Hid ((Tryz.prog.info? 24).map (·.size) = some (D1.map bv).toArray.size):=info_size (n:=32) (by kernel_rfl) D1 l1
 have I2:Hid ((Tryz.prog.info? 24).map (·.size) = some (D2.map bv).toArray.size):=info_size (n:=32) (by kernel_rfl) D2 l2
 have HX1:=ohid u1
 have HX2:=ohid u2
 have HD:=ohid (And.intro hD1 hD2)
 have hps:=hb1.size
 obtain ⟨p,hp⟩:∃ p,w1.heap.size = p:=⟨_,rfl⟩
 have HBX:=ohid hb13
 rw [hp] at s1 s2 s3 HX1 HX2 hps
 clear hb3 hb13 u1 u2 hD1 hD2 hD3 hb1
 go_wp2_with fail
 clear s1 s2 s3 hp
 obtain ⟨W,hW⟩:∃ W,X3.drew = W:=⟨_,rfl⟩
 have hgr:Below X3.heap.size X3 W:=by rw [← hW];exact (Below.refl _ _).drew
 have HA1:=ohid (HX1.out.later hgr)
 have HA2:=ohid (HX2.out.later hgr)
 have HBW:=ohid (HBX.out.trans (hgr.mono HBX.out.size))
 have HMW:=ohid (HM.out.later HBW.out)
 have HWe:=ohid hW
 have HL1:Hid (∀ w',But g W w' → w'.heap[p]? = some (.cells (D1.map bv).toArray 24 (0,0))):=fun w' hw' => by
  rw [hw'.block p HA1.out.lt (fun e => by cases e;omega)];exact HA1.out
 have HL2:Hid (∀ w',But g W w' → w'.heap[p + 1]? = some (.cells (D2.map bv).toArray 24 (0,0))):=fun w' hw' => by
  rw [hw'.block (p + 1) HA2.out.lt (fun e => by cases e;omega)];exact HA2.out
 clear hW hgr HX1 HX2 HBX
 refine wp_region_sched' (G:=But g) (by kernel_rfl) (But.refl g) (But.trans g) (by kernel_rfl) [(0,true),(1,true),(2,true),(3,true),(4,false),(5,true),(6,true),(7,false),(8,true),(9,true),(10,false)] rfl (by kernel_rfl) ?_
 intro KK hKK
 rw [HWe.out]
 iterate 2 (refine sched_take rfl (by rfl) (v:=?_) ?_ ?_;rotate_left;(intro w' hw';clear hw';go_simp;with_reducible rfl);go_simp)
 refine sched_take rfl (by rfl) (v:=.agg (D1.map bv).toArray) (fun w' hw' => exec_load_row 24 _ rfl p rfl 24 _ (0,0) _ (HL1.out w' hw') Tryz.underlying24 rfl I1.out) ?_
 go_simp
 refine sched_take rfl (by rfl) (v:=.agg (D2.map bv).toArray) (fun w' hw' => exec_load_row 24 _ rfl (p + 1) rfl 24 _ (0,0) _ (HL2.out w' hw') Tryz.underlying24 rfl I2.out) ?_
 go_simp
 refine sched_call (f:=77) (args:=#[.agg (D2.map bv).toArray]) rfl (by rfl) (by go_simp) ?_
 refine (ckeyed_any D2 W l2).mono ?_
 rintro e w5 ⟨rfl,hb5⟩
 refine ⟨_,rfl,But.below g hb5,?_⟩
 obtain ⟨Y1,t1,hM1,hG1⟩:=(HMW.out.later hb5).putChain D1 l1
 obtain ⟨Y2,t2,hM2,hG2⟩:=hM1.putCi D2 true 0 l2
 have HM2:=ohid hM2
 have HG:Hid (w.grownBy Y2 (some g)):=World.grownBy.trans (World.grownBy.trans (But.below g (HBW.out.trans (hb5.mono HBW.out.size))) hG1) hG2
 have HG1:=ohid hG1
 have HG2:=ohid hG2
 have hlen:(CiV D2 true 0).length = 34:=by rw [CiV_length,l2]
 clear hM1 hM2 hG1 hG2 hb5 HL1 HL2 HA1 HA2 HMW HBW HWe
 go_simp
 iterate 2 (refine sched_take rfl (by rfl) (v:=?_) ?_ ?_;rotate_left;(intro w' hw';clear hw';go_simp;with_reducible rfl);go_simp)
 refine sched_put rfl (by rfl) (w':=Y1) (by go_simp) HG1.out ?_
 clear t1
 go_simp
 iterate 2 (refine sched_take rfl (by rfl) (v:=?_) ?_ ?_;rotate_left;(intro w' hw';clear hw';go_simp;with_reducible rfl);go_simp)
 refine sched_put rfl (by rfl) (w':=Y2) (by go_simp) HG2.out ?_
 clear t2
 go_simp
 refine sched_done hKK ?_
 clear hKK
 (try go_wp2)
 refine bodyPost_end (results_none rfl _ _ _) rfl ?_
 exact ⟨⟨_,rfl⟩,HG.out,by rw [HD.out.1,HD.out.2];exact HM2.out⟩
end Go.Proofs.YthmkhdnnljdglaaGreatDoor
namespace Go.Proofs.YthmkhdnnljdglaaGreatDoor
set_option linter.unusedVariables false
set_option maxRecDepth 100000
open Go.RowKit
theorem own_new {w:World} {base n c:Nat} {e:TypeId} {a:Option Addr} {xs:List Value} (h:w.ownsRow base e 1 (.slice a n c) n xs):∀ j,blockOf a = some j → base ≤ j:=by
 intro j hj
 rcases h.2 with ⟨e',_⟩ | ⟨g,cap,cur,e',hb,_⟩
 ·cases e';cases hj
 ·cases e'
  have:g = j:=by simpa [blockOf] using hj
  omega
theorem sErr_cases (has:Bool) (n:Nat):sErr has n = 0 ∨ (has = true ∧ n = lastN):=by
 cases has with
 | false => exact .inl rfl
 | true =>
  by_cases h:n = lastN
  ·exact .inr ⟨rfl,h⟩
  ·exact .inl (by simp [sErr,h])
set_option maxHeartbeats 2000000 in
theorem ksealmixed_any (g t:Nat) (BB:List Value) (chain hash key:List UInt8) (has:Bool) (n:Nat) (c:Option Addr) (lc cc:Nat) (b:List UInt8) (w:World) (hM:KM w g t BB chain hash key has n) (hn:n ≤ 18446744073709551615) (hB:Byt w c lc b) (hBn:c = none → cc = 0) (hlc:lc ≤ 900) (hcc:lc ≤ cc) (hccm:cc ≤ maxLen) (htab:Tab w) (hg:g ≠ 1 ∧ g ≠ 2) :
  Calls Tryz.prog 71 #[.pointer (some ⟨g,0,none⟩),.slice c lc cc] w fun e w' => ∃ v,e = .returned (.tuple #[v,.int .i64 ((sErr has n:Nat):Int)]) ∧ w.grownBy w' (some g) ∧ KM w' g t BB chain (sHash hash key has n b) key has (sNum has n) ∧ w'.ownsRow w.heap.size 5 1 v (sOut key has n hash b).length ((sOut key has n hash b).map bv):=by
 have hgl:=hM.lt
 have hbl:=hB.1
 have hXl:=sOut_le key has n hash b
 obtain ⟨W,hW⟩:∃ W,w.drew = W:=⟨_,rfl⟩
 have hgr:Below w.heap.size w W:=by rw [← hW];exact (Below.refl _ _).drew
 have hcl:=hM.c
 have hhl:=hM.h
 have HMW:=ohid (hM.later hgr)
 have HBW:=ohid (hB.later hgr)
 have HT:=ohid (htab.later hgr)
 have HWW:=ohid hgr
 have HWe:=ohid hW
 clear hM hB hW hgr htab
 go_enter Tryz.func71,Tryz.ntmps71
 go_wp2
 refine wp_region_sched' (G:=But g) (by kernel_rfl) (But.refl g) (But.trans g) (by kernel_rfl) [(0,true),(1,true),(2,true),(3,true),(4,true),(5,true),(6,true),(7,true),(8,false),(9,true),(10,true),(11,true),(12,true),(13,true)] rfl (by kernel_rfl) ?_
 intro KK hKK
 rw [HWe.out]
 iterate 8 (refine sched_take rfl (by rfl) (v:=?_) ?_ ?_;rotate_left;(intro w' hw';clear hw';go_simp;with_reducible rfl);go_simp)
 refine sched_call (f:=26) (args:=#[.pointer (some ⟨g,64,none⟩),.slice (some ⟨g,32,none⟩) 32 32,.slice c lc cc]) rfl (by rfl) (by go_simp) ?_
 refine (kseal_any g t 64 (chain.map bv ++ hash.map bv) BB key has n (some ⟨g,32,none⟩) 32 32 hash c lc cc b W (KM.toKC HMW.out) hn (byt_of_cells hhl HMW.out.hashB) (fun e => by cases e) (by omega) (by omega) (by unfold maxLen;omega) HBW.out hBn (by omega) hcc hccm).mono ?_
 rintro e w3 ⟨v3,rfl,hG3,hK3,own3⟩
 refine ⟨_,rfl,hG3,?_⟩
 have HM3:=ohid (KM.ofKC hcl hhl hK3)
 have HG3:Hid (w.grownBy w3 (some g)):=World.grownBy.trans (But.below g HWW.out) hG3
 have HT3:=ohid (HT.out.but hG3 hg)
 have hown:=own_lower own3 HWW.out.size
 rcases sErr_cases has n with hse | ⟨rfl,rfl⟩
 ·have hsh:sHash hash key has n b = mixH hash (sOut key has n hash b):=by rw [sHash,if_pos hse]
  obtain ⟨X,hX⟩:∃ X,sOut key has n hash b = X:=⟨_,rfl⟩
  obtain ⟨lx,hlx⟩:∃ lx,X.length = lx:=⟨_,rfl⟩
  obtain ⟨n',hn'⟩:∃ n',sNum has n = n':=⟨_,rfl⟩
  rw [hX,hlx] at hXl
  rw [hX,hlx] at hown
  rw [hn'] at HM3
  rw [hse]
  have HE:=ohid (And.intro hse (And.intro hsh (And.intro hX (And.intro hlx hn'))))
  obtain ⟨a3,c3,rfl,hB3,hc3,hm3,hn3⟩:=own_parts hown
  have HO3:=ohid hown
  have HB3:=ohid hB3
  have Hn3:=ohid hn3
  clear hse hsh hX hlx hn' hown own3 hB3 hn3 hK3 hG3 HWe HT HBW HMW HWW
  go_simp
  iterate 5 (refine sched_take rfl (by rfl) (v:=?_) ?_ ?_;rotate_left;(intro w' hw';clear hw';go_simp;with_reducible rfl);go_simp)
  refine sched_done hKK ?_
  clear hKK
  go_wp2_with fail
  refine (kmixhash_any g t BB chain hash key has n' a3 lx c3 X w3 HM3.out HB3.out Hn3.out (by omega) hc3 hm3 HT3.out hg).mono ?_
  rintro e w5 ⟨⟨v5,rfl⟩,hG5,hM5⟩
  have HG5:Hid (w.grownBy w5 (some g)):=World.grownBy.trans HG3.out hG5
  have HO5:=ohid (own_but HO3.out hG5 (fun b' hb' e => by
   have:=(own_base HO3.out b' hb').1
   cases e
   omega))
  have HM5:=ohid hM5
  clear hG5 hM5 HO3 HM3 HB3 HT3 HG3
  go_wp2_with fail
  go_ret2
  obtain ⟨e1,e2,e3,e4,e5⟩:=HE.out
  rw [e1,e2,e3,e4,e5]
  exact ⟨_,rfl,HG5.out,HM5.out,HO5.out⟩
 ·have e1:sErr true lastN = 5:=rfl
  have e2:sNum true lastN = lastN:=rfl
  have e3:sOut key true lastN hash b = []:=rfl
  have e4:sHash hash key true lastN b = hash:=rfl
  rw [e1]
  rw [e2] at HM3
  obtain ⟨a3,c3,rfl,_,_,_,_⟩:=own_parts hown
  clear hown own3 hK3 hG3 HWe HT HBW HMW HWW e1 e2 e3 e4
  go_simp
  iterate 5 (refine sched_take rfl (by rfl) (v:=?_) ?_ ?_;rotate_left;(intro w' hw';clear hw';go_simp;with_reducible rfl);go_simp)
  refine sched_done hKK ?_
  clear hKK
  go_wp2_with fail
  go_ret2
  exact ⟨_,rfl,HG3.out,HM3.out,⟨rfl,.inl ⟨rfl,rfl⟩⟩⟩
set_option maxHeartbeats 2000000 in
theorem kopenmixed_own (g t:Nat) (BB:List Value) (chain hash key:List UInt8) (has:Bool) (n:Nat) (c:Option Addr) (lc cc:Nat) (b:List UInt8) (w:World) (hM:KM w g t BB chain hash key has n) (hn:n ≤ 18446744073709551615) (hB:Byt w c lc b) (hBn:c = none → cc = 0) (hlc:lc ≤ 1000) (hcc:lc ≤ cc) (hccm:cc ≤ maxLen) (hcg:∀ x o f,c = some ⟨x,o,f⟩ → x ≠ g) (htab:Tab w) (hg:g ≠ 1 ∧ g ≠ 2) :
  Calls Tryz.prog 74 #[.pointer (some ⟨g,0,none⟩),.slice c lc cc] w fun e w' => ∃ v,e = .returned (.tuple #[v,.int .i64 ((oErr key has n hash b:Nat):Int)]) ∧ w.grownBy w' (some g) ∧ KM w' g t BB chain (oHash hash key has n b) key has (oNum key has n hash b) ∧ w'.ownsRow w.heap.size 5 1 v (oOut key has n hash b).length ((oOut key has n hash b).map bv):=by
 have hgl:=hM.lt
 have hbl:=hB.1
 obtain ⟨W,hW⟩:∃ W,w.drew = W:=⟨_,rfl⟩
 have hgr:Below w.heap.size w W:=by rw [← hW];exact (Below.refl _ _).drew
 have hcl:=hM.c
 have hhl:=hM.h
 have HMW:=ohid (hM.later hgr)
 have HBW:=ohid (hB.later hgr)
 have HT:=ohid (htab.later hgr)
 have HWW:=ohid hgr
 have HWe:=ohid hW
 have HCg:=ohid hcg
 clear hM hB hW hgr htab hcg
 go_enter Tryz.func74,Tryz.ntmps74
 go_wp2
 refine wp_region_sched' (G:=But g) (by kernel_rfl) (But.refl g) (But.trans g) (by kernel_rfl) [(0,true),(1,true),(2,true),(3,true),(4,true),(5,true),(6,true),(7,true),(8,false),(9,true),(10,true),(11,true),(12,true),(13,true)] rfl (by kernel_rfl) ?_
 intro KK hKK
 rw [HWe.out]
 iterate 8 (refine sched_take rfl (by rfl) (v:=?_) ?_ ?_;rotate_left;(intro w' hw';clear hw';go_simp;with_reducible rfl);go_simp)
 refine sched_call (f:=27) (args:=#[.pointer (some ⟨g,64,none⟩),.slice (some ⟨g,32,none⟩) 32 32,.slice c lc cc]) rfl (by rfl) (by go_simp) ?_
 refine (kopen_any g t 64 (chain.map bv ++ hash.map bv) BB key has n (some ⟨g,32,none⟩) 32 32 hash c lc cc b W (KM.toKC HMW.out) hn (byt_of_cells hhl HMW.out.hashB) (fun e => by cases e) (by omega) (by omega) (by unfold maxLen;omega) HBW.out hBn (by omega) hcc hccm).mono ?_
 rintro e w3 ⟨v3,rfl,hG3,hK3,own3⟩
 refine ⟨_,rfl,hG3,?_⟩
 have HM3:=ohid (KM.ofKC hcl hhl hK3)
 have HG3:Hid (w.grownBy w3 (some g)):=World.grownBy.trans (But.below g HWW.out) hG3
 have HT3:=ohid (HT.out.but hG3 hg)
 have HB3:=ohid (byt_but HBW.out hG3 HCg.out)
 have hown:=own_lower own3 HWW.out.size
 by_cases hse:oErr key has n hash b = 0
 ·have hsh:oHash hash key has n b = mixH hash b:=by rw [oHash,if_pos hse]
  obtain ⟨X,hX⟩:∃ X,oOut key has n hash b = X:=⟨_,rfl⟩
  obtain ⟨lx,hlx⟩:∃ lx,X.length = lx:=⟨_,rfl⟩
  obtain ⟨n',hn'⟩:∃ n',oNum key has n hash b = n':=⟨_,rfl⟩
  rw [hX,hlx] at hown
  rw [hn'] at HM3
  rw [hse]
  have HE:=ohid (And.intro hse (And.intro hsh (And.intro hX (And.intro hlx hn'))))
  obtain ⟨a3,c3,rfl,_,_,_,_⟩:=own_parts hown
  have HO3:=ohid hown
  clear hse hsh hX hlx hn' hown own3 hK3 hG3 HWe HT HBW HMW HWW HCg
  go_simp
  iterate 5 (refine sched_take rfl (by rfl) (v:=?_) ?_ ?_;rotate_left;(intro w' hw';clear hw';go_simp;with_reducible rfl);go_simp)
  refine sched_done hKK ?_
  clear hKK
  go_wp2_with fail
  refine (kmixhash_any g t BB chain hash key has n' c lc cc b w3 HM3.out HB3.out hBn (by omega) hcc hccm HT3.out hg).mono ?_
  rintro e w5 ⟨⟨v5,rfl⟩,hG5,hM5⟩
  have HG5:Hid (w.grownBy w5 (some g)):=World.grownBy.trans HG3.out hG5
  have HO5:=ohid (own_but HO3.out hG5 (fun b' hb' e => by
   have:=(own_base HO3.out b' hb').1
   cases e
   omega))
  have HM5:=ohid hM5
  clear hG5 hM5 HO3 HM3 HB3 HT3 HG3
  go_wp2_with fail
  go_ret2
  obtain ⟨e1,e2,e3,e4,e5⟩:=HE.out
  rw [e1,e2,e3,e4,e5]
  exact ⟨_,rfl,HG5.out,HM5.out,HO5.out⟩
 ·have hsh:oHash hash key has n b = hash:=by rw [oHash,if_neg hse]
  have hX:oOut key has n hash b = []:=by
   unfold oOut
   unfold oErr at hse
   split at hse
   ·exact absurd rfl hse
   ·rename_i h1
    rw [if_neg h1]
    split at hse
    ·rename_i h2;rw [if_pos h2]
    ·rename_i h2
     rw [if_neg h2]
     split at hse
     ·exact absurd rfl hse
     ·rename_i h3;rw [if_neg h3]
  obtain ⟨er,her⟩:∃ er,oErr key has n hash b = er:=⟨_,rfl⟩
  obtain ⟨n',hn'⟩:∃ n',oNum key has n hash b = n':=⟨_,rfl⟩
  rw [hn'] at HM3
  rw [her] at hse ⊢
  have hse':¬ (er:Int) = 0:=by omega
  have HE:=ohid (And.intro her (And.intro hsh (And.intro hX hn')))
  obtain ⟨a3,c3,rfl,_,_,_,_⟩:=own_parts hown
  clear her hsh hX hn' hown own3 hK3 hG3 HWe HT HBW HMW HWW HCg
  go_simp
  iterate 5 (refine sched_take rfl (by rfl) (v:=?_) ?_ ?_;rotate_left;(intro w' hw';clear hw';go_simp;with_reducible rfl);go_simp)
  refine sched_done hKK ?_
  clear hKK
  go_wp2_with fail
  go_ret2
  obtain ⟨e1,e2,e3,e4⟩:=HE.out
  rw [e1,e2,e3,e4]
  exact ⟨_,rfl,HG3.out,HM3.out,⟨rfl,.inl ⟨rfl,rfl⟩⟩⟩
theorem results_both9 {P:Program} {fn:Func} {p q:Tmp} {ty:TypeId} (h:fn.results = #[.cell p ty,.cell q ty]) (tmps:Array Value) (w:World) (g1 g2:Nat) (t:TypeId) (A B:Array Value) (d:TypeDesc)
  (hp:tmps.getD p undef = .pointer (some ⟨g1,0,none⟩)) (hq:tmps.getD q undef = .pointer (some ⟨g2,0,none⟩))
  (h1:w.heap[g1]? = some (.cells A t (0,0))) (h2:w.heap[g2]? = some (.cells B t (0,0)))
  (hu:P.underlying ty = some d) (hd:(match d with | .struct _ | .array _ _ => true | _ => false) = true) (hA:(P.info? ty).map (·.size) = some A.size) (hB:(P.info? ty).map (·.size) = some B.size) :
  (results fn tmps).run P w = .ok (.tuple #[.agg A,.agg B]) w:=by
 have hp':tmps[p]?.getD undef = .pointer (some ⟨g1,0,none⟩):=by simpa using hp
 have hq':tmps[q]?.getD undef = .pointer (some ⟨g2,0,none⟩):=by simpa using hq
 simp [results,h,hp',hq',asAddr,run_loadVar_row w g1 t ty A (0,0) d h1 hu hd hA,run_loadVar_row w g2 t ty B (0,0) d h2 hu hd hB]
def Keep2 (p q:Nat) (w w':World):Prop:=(p < w.heap.size → q < w.heap.size → w'.heap[p]? = w.heap[p]? ∧ w'.heap[q]? = w.heap[q]?) ∧ w.heap.size ≤ w'.heap.size
theorem Keep2.refl (p q:Nat) (w:World):Keep2 p q w w:=⟨fun _ _ => ⟨rfl,rfl⟩,Nat.le_refl _⟩
theorem Keep2.trans (p q:Nat) (w1 w2 w3:World) (h:Keep2 p q w1 w2) (h':Keep2 p q w2 w3):Keep2 p q w1 w3:=
 ⟨fun a b => by
  obtain ⟨x1,x2⟩:=h.1 a b
  obtain ⟨y1,y2⟩:=h'.1 (Nat.lt_of_lt_of_le a h.2) (Nat.lt_of_lt_of_le b h.2)
  exact ⟨y1.trans x1,y2.trans x2⟩,Nat.le_trans h.2 h'.2⟩
theorem Keep2.below {p q:Nat} {w w':World} (h:Below w.heap.size w w'):Keep2 p q w w':=⟨fun a b => ⟨h.block p a,h.block q b⟩,h.size⟩
theorem Keep2.setRow {p q s:Nat} (w:World) (c:Array Value) (h1:p ≠ s) (h2:q ≠ s):Keep2 p q w (w.setRow s c):=⟨fun _ _ => ⟨setRow_other w s p c h1,setRow_other w s q c h2⟩,by simp⟩
set_option maxHeartbeats 4000000 in
theorem ksplit_any (g t:Nat) (BB:List Value) (chain hash key:List UInt8) (has:Bool) (n:Nat) (w:World) (hM:KM w g t BB chain hash key has n) (htab:Tab w) :
  Calls Tryz.prog 47 #[.pointer (some ⟨g,0,none⟩)] w fun e w' => e = .returned (.tuple #[.agg (CiV (der1 chain []) true 0).toArray,.agg (CiV (der2 chain []) true 0).toArray]) ∧ Below w.heap.size w w':=by
 have hgl:=hM.lt
 have hcl:=hM.c
 obtain ⟨W0,hW0⟩:∃ W,(w.alloc (.cells ciZ 42)).alloc (.cells ciZ 42) = W:=⟨_,rfl⟩
 have hb0:Below w.heap.size w W0:=by rw [← hW0];exact ((Below.refl _ _).alloc (Nat.le_refl _) _).alloc (by simp) _
 have hz1:W0.heap[w.heap.size]? = some (.cells ciZ 42 (0,0)):=by rw [← hW0,Below.heap_alloc _ _ _ (by simp),heap_alloc_new]
 have hz2:W0.heap[w.heap.size + 1]? = some (.cells ciZ 42 (0,0)):=by
  have:=heap_alloc_new (w.alloc (.cells ciZ 42)) (.cells ciZ 42)
  rw [World.size_alloc] at this
  rw [← hW0]
  exact this
 have hs0:W0.heap.size = w.heap.size + 2:=by rw [← hW0];simp
 have HM0:=ohid (hM.later hb0)
 have HT0:=ohid (htab.later hb0)
 have HZ1:=ohid hz1
 have HZ2:=ohid hz2
 have HB0:=ohid hb0
 have HI:Hid ((Tryz.prog.info? 24).map (·.size) = some (chain.map bv).length):=by
  have e1:(Tryz.prog.info? 24).map (·.size) = some 32:=by kernel_rfl
  show _ = _
  rw [e1];simp [hcl]
 have HW0:=ohid hW0
 obtain ⟨D1,hD1⟩:∃ D,der1 chain [] = D:=⟨_,rfl⟩
 obtain ⟨D2,hD2⟩:∃ D,der2 chain [] = D:=⟨_,rfl⟩
 obtain ⟨D3,hD3⟩:∃ D,der3 chain [] = D:=⟨_,rfl⟩
 have l1:D1.length = 32:=by rw [← hD1];exact macB_length _ _
 have l2:D2.length = 32:=by rw [← hD2];exact macB_length _ _
 have l3:D3.length = 32:=by rw [← hD3];exact macB_length _ _
 have HD:=ohid (And.intro hD1 (And.intro hD2 hD3))
 rw [hD1,hD2]
 clear hM htab hb0 hz1 hz2 hD1 hD2 hD3
 go_enter Tryz.func47,Tryz.ntmps47
 refine wp_seq (wp_cut (fun a W => a = { tmps:=#[.pointer (some ⟨g,0,none⟩),undef,.pointer (some ⟨w.heap.size,0,none⟩),.pointer (some ⟨w.heap.size + 1,0,none⟩),undef,undef,undef,undef,undef,undef,undef,undef,undef,undef,undef,undef,undef,undef,undef,undef],defers:=[] } ∧ W = W0) ?_ ?_)
 ·go_wp2
  rw [← HW0.out]
  first | exact ⟨rfl,rfl⟩ | rfl | trivial
 ·rintro a W ⟨rfl,rfl⟩
  simp only [Exit.then]
  clear hW0
  go_wp2_with (first | refine wpList_load_part rfl 24 _ rfl g 0 rfl (chain.map bv) _ HM0.out.chainB Tryz.underlying24 rfl HI.out ?_ | fail)
  refine (derive_any chain none 0 0 [] W hcl ⟨rfl,.inl rfl⟩ (fun _ => rfl) (by omega) (by omega) (by unfold maxLen;omega) HT0.out).mono ?_
  rintro e w1 ⟨rfl,hb1⟩
  obtain ⟨d1,d2,d3⟩:=HD.out
  rw [d1,d2,d3]
  clear d1 d2 d3
  obtain ⟨X1,X2,X3,s1,s2,s3,u1,u2,hb3⟩:=key_place3 w1 D1 D2 D3 l1 l2 l3
  simp only [zero32B,List.replicate] at s1
  have hb13:Below W.heap.size W X3:=hb1.trans (hb3.mono hb1.size)
  have I1:Hid ((Tryz.prog.info? 24).map (·.size) = some (D1.map bv).toArray.size):=info_size (n:=32) (by kernel_rfl) D1 l1
  have I2:Hid ((Tryz.prog.info? 24).map (·.size) = some (D2.map bv).toArray.size):=info_size (n:=32) (by kernel_rfl) D2 l2
  have HX1:=ohid u1
  have HX2:=ohid u2
  have hps:=hb1.size
  obtain ⟨p,hp⟩:∃ p,w1.heap.size = p:=⟨_,rfl⟩
  have HBX:=ohid hb13
  rw [hp] at s1 s2 s3 HX1 HX2 hps
  clear hb3 hb13 u1 u2 hb1
  go_wp2_with fail
  clear s1 s2 s3 hp
  obtain ⟨V,hV⟩:∃ V,X3.drew = V:=⟨_,rfl⟩
  have hgr:Below X3.heap.size X3 V:=by rw [← hV];exact (Below.refl _ _).drew
  have HA1:=ohid (HX1.out.later hgr)
  have HA2:=ohid (HX2.out.later hgr)
  have HBV:=ohid (HBX.out.trans (hgr.mono HBX.out.size))
  have HWe:=ohid hV
  have HL:Hid (∀ w',Keep2 p (p + 1) V w' → w'.heap[p]? = some (.cells (D1.map bv).toArray 24 (0,0)) ∧ w'.heap[p + 1]? = some (.cells (D2.map bv).toArray 24 (0,0))):=fun w' hw' => by
   obtain ⟨x1,x2⟩:=hw'.1 HA1.out.lt HA2.out.lt
   exact ⟨x1.trans HA1.out,x2.trans HA2.out⟩
  clear hV hgr HX1 HX2 HBX
  refine wp_region_sched' (G:=Keep2 p (p + 1)) (by kernel_rfl) (Keep2.refl p (p + 1)) (Keep2.trans p (p + 1)) (by kernel_rfl) [(0,true),(2,true),(1,false),(3,false),(4,false),(5,false)] rfl (by kernel_rfl) ?_
  intro KK hKK
  rw [HWe.out]
  refine sched_take rfl (by rfl) (v:=.agg (D1.map bv).toArray) (fun w' hw' => exec_load_row 24 _ rfl p rfl 24 _ (0,0) _ (HL.out w' hw').1 Tryz.underlying24 rfl I1.out) ?_
  go_simp
  refine sched_take rfl (by rfl) (v:=.agg (D2.map bv).toArray) (fun w' hw' => exec_load_row 24 _ rfl (p + 1) rfl 24 _ (0,0) _ (HL.out w' hw').2 Tryz.underlying24 rfl I2.out) ?_
  go_simp
  refine sched_call (f:=77) (args:=#[.agg (D1.map bv).toArray]) rfl (by rfl) (by go_simp) ?_
  refine (ckeyed_any D1 V l1).mono ?_
  rintro e w5 ⟨rfl,hb5⟩
  refine ⟨_,rfl,Keep2.below hb5,?_⟩
  have HB5:=ohid hb5
  clear hb5
  go_simp
  refine sched_call (f:=77) (args:=#[.agg (D2.map bv).toArray]) rfl (by rfl) (by go_simp) ?_
  refine (ckeyed_any D2 w5 l2).mono ?_
  rintro e w6 ⟨rfl,hb6⟩
  refine ⟨_,rfl,Keep2.below hb6,?_⟩
  have hVW:Below W.heap.size W w6:=(HBV.out.trans (HB5.out.mono HBV.out.size)).trans (hb6.mono (Nat.le_trans HBV.out.size HB5.out.size))
  have z1:=row_later9 HZ1.out hVW
  have z2:=row_later9 HZ2.out hVW
  have hbw:=HB0.out.trans (hVW.mono HB0.out.size)
  have t1:=store_row w6 w.heap.size _ _ (CiV D1 true 0) z1 (by rw [CiV_length,l1];rfl) (CiV_one D1 true 0)
  have y1:=setRow_heap w6 w.heap.size _ (CiV D1 true 0).toArray _ _ z1
  have y2:=(setRow_other w6 w.heap.size (w.heap.size + 1) (CiV D1 true 0).toArray (by omega)).trans z2
  have b1:=below_setRow hbw (Nat.le_refl _) (CiV D1 true 0).toArray
  have g1:Keep2 p (p + 1) w6 (w6.setRow w.heap.size (CiV D1 true 0).toArray):=Keep2.setRow w6 _ (by omega) (by omega)
  obtain ⟨Y1,hY1⟩:∃ Y,w6.setRow w.heap.size (CiV D1 true 0).toArray = Y:=⟨_,rfl⟩
  rw [hY1] at t1 y1 y2 b1 g1
  have t2:=store_row Y1 (w.heap.size + 1) _ _ (CiV D2 true 0) y2 (by rw [CiV_length,l2];rfl) (CiV_one D2 true 0)
  have x1:=(setRow_other Y1 (w.heap.size + 1) w.heap.size (CiV D2 true 0).toArray (by omega)).trans y1
  have x2:=setRow_heap Y1 (w.heap.size + 1) _ (CiV D2 true 0).toArray _ _ y2
  have b2:=below_setRow b1 (show w.heap.size ≤ w.heap.size + 1 by omega) (CiV D2 true 0).toArray
  have g2:Keep2 p (p + 1) Y1 (Y1.setRow (w.heap.size + 1) (CiV D2 true 0).toArray):=Keep2.setRow Y1 _ (by omega) (by omega)
  obtain ⟨Y2,hY2⟩:∃ Y,Y1.setRow (w.heap.size + 1) (CiV D2 true 0).toArray = Y:=⟨_,rfl⟩
  rw [hY2] at t2 x1 x2 b2 g2
  have HR1:=ohid x1
  have HR2:=ohid x2
  have HB2:=ohid b2
  have G1:=ohid g1
  have G2:=ohid g2
  have hlen1:(CiV D1 true 0).length = 34:=by rw [CiV_length,l1]
  have hlen2:(CiV D2 true 0).length = 34:=by rw [CiV_length,l2]
  have HI1:=ohid (ci_info D1 true 0 l1)
  have HI2:=ohid (ci_info D2 true 0 l2)
  clear hVW z1 z2 hbw y1 y2 b1 g1 hY1 x1 x2 b2 g2 hY2 hb6 HB5 HBV HL HA1 HA2 HZ1 HZ2 HWe
  go_simp
  refine sched_put rfl (by rfl) (w':=Y1) (by go_simp) G1.out ?_
  clear t1
  go_simp
  refine sched_put rfl (by rfl) (w':=Y2) (by go_simp) G2.out ?_
  clear t2
  go_simp
  refine sched_done hKK ?_
  clear hKK
  (try go_wp2)
  (try simp only [Exit.inBlock,Exit.then])
  refine bodyPost_ret (results_both9 rfl _ _ w.heap.size (w.heap.size + 1) 42 _ _ _ rfl rfl HR1.out HR2.out Tryz.underlying42 rfl HI1.out HI2.out) rfl ?_
  exact ⟨rfl,HB2.out⟩
theorem name_conv (W:World) (l:List UInt8):(convert 9 22 (.string (S l))).run Tryz.prog W = .ok (.slice (some ⟨W.heap.size,0,none⟩) (S l).size (grownCap W (S l).size 0 5)) (Lib.bytesWorld W 5 (S l)):=
 Lib.run_convert_string_bytes W 9 22 5 (S l) Tryz.underlying9 Tryz.underlying22 Tryz.underlying5
theorem name_below (W:World) (e:TypeId) (s:ByteArray):Below W.heap.size W (Lib.bytesWorld W e s):=
 ⟨rfl,rfl,rfl,by rw [Lib.bytesWorld_size];omega,fun k hk => Lib.bytesWorld_at_old W e s k hk⟩
theorem name_byt (W:World) (e:TypeId) (l:List UInt8):Byt (Lib.bytesWorld W e (S l)) (some ⟨W.heap.size,0,none⟩) l.length l:=by
 refine ⟨rfl,.inr ⟨_,0,rfl,fun i hi => ?_⟩⟩
 rw [Nat.zero_add,Lib.bytesWorld_cell W e (S l) i hi]
 congr 1
structure NfP (w:World) (p:List UInt8) (W:World):Prop where
 res:W.heap[w.heap.size]? = some (.cells zero32B 24 (0,0))
 p:Arr W (w.heap.size + 1) 24 p
 bel:Below w.heap.size w W
theorem NfP.new (w:World):NfP w (List.replicate 32 0) ((w.alloc (.cells zero32B 24)).alloc (.cells zero32B 24)):=by
 have h1:=Arr.new (w.alloc (.cells zero32B 24)) 24 (List.replicate 32 0)
 rw [World.size_alloc] at h1
 refine ⟨?_,h1,((Below.refl _ _).alloc (Nat.le_refl _) _).alloc (by simp) _⟩
 rw [Below.heap_alloc _ _ _ (by simp)]
 exact heap_alloc_new w _
theorem NfP.later {w W W':World} {p:List UInt8} (x:NfP w p W) (hb:Below W.heap.size W W'):NfP w p W':=
 ⟨row_later9 x.res hb,x.p.later hb,x.bel.trans (hb.mono x.bel.size)⟩
set_option maxHeartbeats 1000000 in
theorem cfill_any (l:List UInt8) (w:World) (hl:l.length ≤ 100000) (htab:Tab w) :
  Calls Tryz.prog 92 #[.string (S l)] w fun e w' => e = .returned (.agg ((nameB l).map bv).toArray) ∧ Below w.heap.size w w':=by
 have HTab:=ohid htab
 have HF0:Hid (NfP w (List.replicate 32 0) ((w.alloc (.cells zero32B 24)).alloc (.cells zero32B 24))):=NfP.new w
 have hNl:=nameB_length l
 obtain ⟨F,hF⟩:∃ F,nameB l = F:=⟨_,rfl⟩
 have HFe:=ohid hF
 rw [hF] at hNl ⊢
 have IF:Hid ((Tryz.prog.info? 24).map (·.size) = some (F.map bv).toArray.size):=info_size (n:=32) (by kernel_rfl) F hNl
 have hsz:(S l).size = l.length:=rfl
 obtain ⟨n,hn⟩:∃ n,l.length = n:=⟨_,rfl⟩
 rw [hn] at hsz hl
 have HN:=ohid hn
 clear htab hF hn
 by_cases hlong:32 < n
 ·have hli:(32:Int) < (n:Int):=by omega
  have hcv:=fun W => name_conv W l
  rw [hsz] at hcv
  go_enter Tryz.func92,Tryz.ntmps92
  go_wp2_with fail
  refine from_world (P:=fun W => Calls Tryz.prog 120 _ (Lib.bytesWorld W 5 (S l)) _) (R:=fun W => W.heap.size = w.heap.size + 1 + 1 ∧ Hid (NfP w (List.replicate 32 0) W)) _ ⟨by simp,HF0⟩ ?_
  rintro W0 ⟨hs0,HF1⟩
  clear HF0 hcv
  have hB0:=name_byt W0 5 l
  rw [hs0,HN.out] at hB0
  have hb0:=name_below W0 5 (S l)
  have HF2:=ohid (HF1.out.later hb0)
  have hcap:=grownCap_le_maxLen ((w.alloc (.cells zero32B 24)).alloc (.cells zero32B 24)) n 0 5 (by unfold maxLen;omega)
  have hcap':=grownCap_ge ((w.alloc (.cells zero32B 24)).alloc (.cells zero32B 24)) n 0 5
  refine (bsum_any (some ⟨w.heap.size + 1 + 1,0,none⟩) n _ l _ hB0 (fun e => by cases e) hcap' hcap (by omega) (HTab.out.later HF2.out.bel)).mono ?_
  rintro e w1 ⟨rfl,hb1⟩
  have hF4:=HF2.out.later hb1
  have hE:blakeB l = F:=by
   rw [← HFe.out]
   unfold nameB
   rw [if_pos (by rw [HN.out];exact hlong)]
  rw [hE]
  have hst:=store_row w1 w.heap.size _ _ (F.map bv) hF4.res (by simp [hNl,zero32B]) (bv_oneCell F)
  have hrow:=setRow_heap w1 w.heap.size _ (F.map bv).toArray _ _ hF4.res
  have HBel:=ohid (below_setRow hF4.bel (Nat.le_refl _) (F.map bv).toArray)
  obtain ⟨W5,hW5⟩:∃ W5,w1.setRow w.heap.size (F.map bv).toArray = W5:=⟨_,rfl⟩
  rw [hW5] at hst hrow HBel
  have HRow:=ohid hrow
  clear hrow hW5 hF4 HF2 HF1 hb1 hb0 hB0 hcap hcap' hE
  go_wp2_with fail
  (try simp only [Exit.inBlock,Exit.then])
  refine bodyPost_ret (results_cell_row rfl _ _ w.heap.size 24 _ (0,0) _ rfl HRow.out Tryz.underlying24 rfl IF.out) rfl ?_
  exact ⟨rfl,HBel.out⟩
 ·have hli:¬ (32:Int) < (n:Int):=by omega
  have hE:F = l ++ List.replicate (32 - n) 0:=by
   rw [← HFe.out]
   unfold nameB
   rw [if_neg (by rw [HN.out];exact hlong),HN.out]
  have hcp:=Lib.run_copy_row_string (P:=Tryz.prog) _ 22 9 3 5 (w.heap.size + 1) 0 32 32 (S l) _ _ Tryz.underlying22 Tryz.info1U8 HF0.out.p (by omega) (by simp;omega)
  have e1:((List.replicate 32 (0:UInt8)).map bv).toArray.toList.take 0 ++ Lib.byteCells (S l).data.toList ++ ((List.replicate 32 (0:UInt8)).map bv).toArray.toList.drop (0 + (S l).size) = F.map bv:=by
   show [] ++ l.map bv ++ ((List.replicate 32 (0:UInt8)).map bv).drop (0 + (S l).size) = _
   rw [Nat.zero_add,hsz,List.map_replicate,List.drop_replicate,hE,List.map_append,List.map_replicate,List.nil_append]
  rw [e1,hsz] at hcp
  have hp4:=setRow_heap _ _ _ (F.map bv).toArray _ _ HF0.out.p
  have hr4:=(setRow_other _ (w.heap.size + 1) w.heap.size (F.map bv).toArray (by omega)).trans HF0.out.res
  have hb4:=below_setRow HF0.out.bel (show w.heap.size ≤ w.heap.size + 1 by omega) (F.map bv).toArray
  obtain ⟨W4,hW4⟩:∃ W4,((w.alloc (.cells zero32B 24)).alloc (.cells zero32B 24)).setRow (w.heap.size + 1) (F.map bv).toArray = W4:=⟨_,rfl⟩
  rw [hW4] at hcp hp4 hr4 hb4
  have hcp':(Builtin.copy_ #[22,9] 3 #[.slice (some ⟨w.heap.size + 1,0,none⟩) 32 32,.string (S l)]).run Tryz.prog ((w.alloc (.cells zero32B 24)).alloc (.cells zero32B 24)) = .ok (.int .i64 (n:Int)) W4:=hcp
  have hst:=store_row W4 w.heap.size _ _ (F.map bv) hr4 (by simp [hNl,zero32B]) (bv_oneCell F)
  have hrow:=setRow_heap W4 w.heap.size _ (F.map bv).toArray _ _ hr4
  have HBel:=ohid (below_setRow hb4 (Nat.le_refl _) (F.map bv).toArray)
  obtain ⟨W5,hW5⟩:∃ W5,W4.setRow w.heap.size (F.map bv).toArray = W5:=⟨_,rfl⟩
  rw [hW5] at hst hrow HBel
  have HRow:=ohid hrow
  have HP4:=ohid hp4
  simp only [zero32B,List.replicate] at hcp'
  clear hrow hW5 hr4 hb4 hp4 hW4 hcp e1 hE HF0
  go_enter Tryz.func92,Tryz.ntmps92
  go_wp2_with (first | refine wpList_load_row rfl 24 _ rfl (w.heap.size + 1) rfl 24 _ (0,0) _ HP4.out Tryz.underlying24 rfl IF.out ?_ | fail)
  (try simp only [Exit.inBlock,Exit.then])
  refine bodyPost_ret (results_cell_row rfl _ _ w.heap.size 24 _ (0,0) _ rfl HRow.out Tryz.underlying24 rfl IF.out) rfl ?_
  exact ⟨rfl,HBel.out⟩
def zeroMi:List Value:=MiV (List.replicate 32 0) (List.replicate 32 0) (List.replicate 32 0) false 0
theorem mi_fill:∀ parts,Tryz.prog.built 65 parts = Instr.fill (#[(0,32),(32,32),(64,34)][·]?) zeroMi.toArray parts:=fun parts => by kernel_rfl
theorem mi_built2 (a b:List UInt8) (ha:a.length = 32) (hb:b.length = 32):Tryz.prog.built 65 [(0,.agg (a.map bv).toArray),(1,.agg (b.map bv).toArray)] = some (MiV a b (List.replicate 32 0) false 0).toArray:=by
 obtain ⟨Z,hZ⟩:∃ Z,(List.replicate 32 (0:UInt8)).map bv = Z:=⟨_,rfl⟩
 obtain ⟨C,hC⟩:∃ C,CiV (List.replicate 32 0) false 0 = C:=⟨_,rfl⟩
 have hZl:Z.length = 32:=by rw [← hZ];rfl
 have hCl:C.length = 34:=by rw [← hC];rfl
 rw [mi_fill,zeroMi,MiV,MiV,hZ,hC,fill_part _ _ 0 0 (a.map bv) _ (by simp [ha]) (by simp;omega)]
 have e1:(Z ++ (Z ++ C)).toArray.toList.take 0 ++ a.map bv ++ (Z ++ (Z ++ C)).toArray.toList.drop (0 + (a.map bv).length) = a.map bv ++ (Z ++ C):=by
  show (Z ++ (Z ++ C)).take 0 ++ a.map bv ++ (Z ++ (Z ++ C)).drop (0 + (a.map bv).length) = _
  rw [List.take_zero,List.nil_append,Nat.zero_add,List.length_map,ha,List.drop_left' hZl]
 rw [e1,fill_part _ _ 1 32 (b.map bv) _ (by simp [hb]) (by simp [hZl,hCl,ha,hb])]
 have e2:(a.map bv ++ (Z ++ C)).toArray.toList.take 32 ++ b.map bv ++ (a.map bv ++ (Z ++ C)).toArray.toList.drop (32 + (b.map bv).length) = a.map bv ++ (b.map bv ++ C):=by
  show (a.map bv ++ (Z ++ C)).take 32 ++ b.map bv ++ (a.map bv ++ (Z ++ C)).drop (32 + (b.map bv).length) = _
  rw [List.take_left' (by simp [ha]),← List.append_assoc (a.map bv) Z C,List.drop_left' (by simp [ha,hb,hZl]),List.append_assoc]
 rw [e2]
 rfl
theorem wpList_mi2 {ops:Array Oper} {rest:List Oper} {o:Oper} {a:Act} {w:World} {Q:Exit → Act → World → Prop} (p q:List UInt8) (hp:p.length = 32) (hq:q.length = 32) (hg:o.guard = none) (x y:Operand) (ho:o.op = .build 65 #[(0,x),(1,y)])
  (hx:a.eval x = .agg (p.map bv).toArray) (hy:a.eval y = .agg (q.map bv).toArray) (h:wpList Tryz.prog ops Q rest (a.put o.dst (.agg (MiV p q (List.replicate 32 0) false 0).toArray)) w):wpList Tryz.prog ops Q (o :: rest) a w:=
 wpList_buildTo hg _ _ ho _ rfl _ (by simp [hx,hy,mi_built2 p q hp hq]) h
set_option maxHeartbeats 1000000 in
theorem cnew_any (l:List UInt8) (w:World) (hl:l.length ≤ 1000) (htab:Tab w) :
  Calls Tryz.prog 62 #[.string (S l)] w fun e w' => ∃ g,e = .returned (.pointer (some ⟨g,0,none⟩)) ∧ w.heap.size ≤ g ∧ Below w.heap.size w w' ∧ MiIs w' g (nameB l) (nameB l) (List.replicate 32 0) false 0:=by
 have hNl:=nameB_length l
 have HTab:=ohid htab
 clear htab
 go_enter Tryz.func62,Tryz.ntmps62
 go_wp2_with fail
 refine (cfill_any l w (by omega) HTab.out).mono ?_
 rintro e w1 ⟨rfl,hb1⟩
 obtain ⟨F,hF⟩:∃ F,nameB l = F:=⟨_,rfl⟩
 have HF:=ohid hF
 rw [hF] at hNl ⊢
 clear hF
 have IF:Hid ((Tryz.prog.info? 24).map (·.size) = some (F.map bv).toArray.size):=info_size (n:=32) (by kernel_rfl) F hNl
 have hst:=run_store_arr w1 24 F 32 hNl (by kernel_rfl) zero32B (by kernel_rfl)
 have hA:=Arr.new w1 24 F
 have hb2:Below w1.heap.size w1 (w1.alloc (.cells (F.map bv).toArray 24)):=(Below.refl _ _).alloc (Nat.le_refl _) _
 obtain ⟨W2,hW2⟩:∃ W2,w1.alloc (.cells (F.map bv).toArray 24) = W2:=⟨_,rfl⟩
 rw [hW2] at hst hA hb2
 simp only [zero32B,List.replicate] at hst
 have HA:=ohid hA
 have HB2:=ohid (hb1.trans (hb2.mono hb1.size))
 clear hA hb2 hW2 hb1
 go_wp2_with (first | refine wpList_load_row rfl 24 _ rfl w1.heap.size rfl 24 _ (0,0) _ HA.out Tryz.underlying24 rfl IF.out ?_ | refine wpList_mi2 F F hNl hNl rfl (.tmp 6) (.tmp 7) rfl rfl rfl ?_ | fail)
 go_ret
 exact ⟨W2.heap.size,rfl,HB2.out.size,HB2.out.alloc HB2.out.size _,by rw [HF.out];exact ⟨heap_alloc_new W2 _,hNl,hNl,rfl⟩⟩
end Go.Proofs.YthmkhdnnljdglaaGreatDoor
