import Derived.Test.YthmkhdnnljdglaaGreatDoorQah
import Derived.Test.YthmkhdnnljdglaaGreatDoorQbi
namespace Go.Proofs.YthmkhdnnljdglaaGreatDoor
set_option linter.unusedVariables false
set_option maxRecDepth 100000
open Go.RowKit
theorem ci_place2 (w:World) (A B:List UInt8) (ha hb:Bool) (n m:Nat) (hA:A.length = 32) (hB:B.length = 32) :
  ∃ X1 X2,(storeCells ⟨w.heap.size,0,none⟩ (CiV A ha n)).run Tryz.prog ((w.alloc (.cells ciZ 42)).alloc (.cells ciZ 42)) = .ok () X1 ∧ (storeCells ⟨w.heap.size + 1,0,none⟩ (CiV B hb m)).run Tryz.prog X1 = .ok () X2 ∧
   CiIs X2 w.heap.size A ha n ∧ CiIs X2 (w.heap.size + 1) B hb m ∧ Below w.heap.size w X2:=by
 obtain ⟨W,hW⟩:∃ W,(w.alloc (.cells ciZ 42)).alloc (.cells ciZ 42) = W:=⟨_,rfl⟩
 have h1:W.heap[w.heap.size]? = some (.cells ciZ 42 (0,0)):=by
  rw [← hW,Below.heap_alloc _ _ _ (by simp),heap_alloc_new]
 have h2:W.heap[w.heap.size + 1]? = some (.cells ciZ 42 (0,0)):=by
  have:=heap_alloc_new (w.alloc (.cells ciZ 42)) (.cells ciZ 42)
  rw [World.size_alloc] at this
  rw [← hW]
  exact this
 have hbel:Below w.heap.size w W:=by rw [← hW];exact ((Below.refl _ _).alloc (Nat.le_refl _) _).alloc (by simp) _
 have s1:=store_row W w.heap.size _ _ (CiV A ha n) h1 (by rw [CiV_length,hA];rfl) (CiV_one A ha n)
 have r1:=setRow_heap W w.heap.size _ (CiV A ha n).toArray _ _ h1
 have r2:(W.setRow w.heap.size (CiV A ha n).toArray).heap[w.heap.size + 1]? = _:=(setRow_other W w.heap.size (w.heap.size + 1) _ (by omega)).trans h2
 have hb1:=below_setRow hbel (Nat.le_refl _) (CiV A ha n).toArray
 obtain ⟨X1,hX1⟩:∃ X,W.setRow w.heap.size (CiV A ha n).toArray = X:=⟨_,rfl⟩
 rw [hX1] at s1 r1 r2 hb1
 have s2:=store_row X1 (w.heap.size + 1) _ _ (CiV B hb m) r2 (by rw [CiV_length,hB];rfl) (CiV_one B hb m)
 have t1:(X1.setRow (w.heap.size + 1) (CiV B hb m).toArray).heap[w.heap.size]? = _:=(setRow_other X1 (w.heap.size + 1) w.heap.size _ (by omega)).trans r1
 have t2:=setRow_heap X1 (w.heap.size + 1) _ (CiV B hb m).toArray _ _ r2
 rw [hW]
 exact ⟨X1,_,s1,s2,⟨t1,hA⟩,⟨t2,hB⟩,below_setRow hb1 (by omega) _⟩
theorem results_split {P:Program} {fn:Func} {p q r u:Tmp} {ty tk:TypeId} (h:fn.results = #[.cell p ty,.cell q ty,.cell r tk,.tmp u]) (tmps:Array Value) (w:World) (g1 g2 g3:Nat) (t tk':TypeId) (A B C:Array Value) (v:Value) (d dk:TypeDesc)
  (hp:tmps.getD p undef = .pointer (some ⟨g1,0,none⟩)) (hq:tmps.getD q undef = .pointer (some ⟨g2,0,none⟩)) (hr:tmps.getD r undef = .pointer (some ⟨g3,0,none⟩)) (hu':tmps.getD u undef = v)
  (h1:w.heap[g1]? = some (.cells A t (0,0))) (h2:w.heap[g2]? = some (.cells B t (0,0))) (h3:w.heap[g3]? = some (.cells C tk' (0,0)))
  (hu:P.underlying ty = some d) (hd:(match d with | .struct _ | .array _ _ => true | _ => false) = true) (hk:P.underlying tk = some dk) (hdk:(match dk with | .struct _ | .array _ _ => true | _ => false) = true) (hA:(P.info? ty).map (·.size) = some A.size) (hB:(P.info? ty).map (·.size) = some B.size) (hC:(P.info? tk).map (·.size) = some C.size) :
  (results fn tmps).run P w = .ok (.tuple #[.agg A,.agg B,.agg C,v]) w:=by
 have hp':tmps[p]?.getD undef = .pointer (some ⟨g1,0,none⟩):=by simpa using hp
 have hq':tmps[q]?.getD undef = .pointer (some ⟨g2,0,none⟩):=by simpa using hq
 have hr':tmps[r]?.getD undef = .pointer (some ⟨g3,0,none⟩):=by simpa using hr
 have hv':tmps[u]?.getD undef = v:=by simpa using hu'
 simp [results,h,hp',hq',hr',hv',asAddr,run_loadVar_row w g1 t ty A (0,0) d h1 hu hd hA,run_loadVar_row w g2 t ty B (0,0) d h2 hu hd hB,run_loadVar_row w g3 tk' tk C (0,0) dk h3 hk hdk hC]
structure But3 (s:Nat) (w w':World):Prop where
 size:w.heap.size ≤ w'.heap.size
 block:∀ k,k < w.heap.size → k ≠ s → k ≠ s + 1 → k ≠ s + 1 + 1 → w'.heap[k]? = w.heap[k]?
theorem But3.refl (s:Nat) (w:World):But3 s w w:=⟨Nat.le_refl _,fun _ _ _ _ _ => rfl⟩
theorem But3.trans (s:Nat) (a b c:World) (h:But3 s a b) (k:But3 s b c):But3 s a c:=
 ⟨Nat.le_trans h.size k.size,fun i hi h1 h2 h3 => (k.block i (Nat.lt_of_lt_of_le hi h.size) h1 h2 h3).trans (h.block i hi h1 h2 h3)⟩
theorem But3.setRow (s g:Nat) (w:World) (c:Array Value) (hg:g = s ∨ g = s + 1 ∨ g = s + 1 + 1):But3 s w (w.setRow g c):=⟨by simp [World.setRow],fun k _ h1 h2 h3 => setRow_other w g k c (by omega)⟩
def spL (w:World):List (Nat × TypeId × List Value):=[(w.heap.size,42,zeroCi),(w.heap.size + 1,42,zeroCi),(w.heap.size + 1 + 1,24,zeroKb)]
theorem zeroCi_length:zeroCi.length = 34:=by kernel_rfl
def NS.sendK (x:NS):List UInt8:=if x.starts = true then der1 x.M.C [] else der2 x.M.C []
def NS.hearK (x:NS):List UInt8:=if x.starts = true then der2 x.M.C [] else der1 x.M.C []
set_option maxHeartbeats 8000000 in
theorem nSplit_ok (g:Nat) (x:NS) (w:World) (h:HaIs w g x) (hT:TT w) (h2:x.st = 2) :
  Calls Tryz.prog 23 #[.pointer (some ⟨g,0,none⟩)] w fun e w' => e = .returned (.tuple #[.agg (CiV (NS.sendK x) true 0).toArray,.agg (CiV (NS.hearK x) true 0).toArray,.agg (x.M.H.map bv).toArray,.int .i64 0]) ∧ Below w.heap.size w w':=by
 obtain ⟨seen,hs⟩:=h
 have hgl:=hs.sd.lt
 have HS:=ohid hs.sd
 have HT:=ohid hT
 have HV0:Hid (Vw w (((w.alloc (.cells zeroCi.toArray 42)).alloc (.cells zeroCi.toArray 42)).alloc (.cells zeroKb.toArray 24)) (spL w)):=by
  have h:=(((Vw.none w).alloc 42 zeroCi).alloc 42 zeroCi).alloc 24 zeroKb
  simp only [World.size_alloc] at h
  exact h
 obtain ⟨D1,hD1⟩:∃ D,der1 x.M.C [] = D:=⟨_,rfl⟩
 obtain ⟨D2,hD2⟩:∃ D,der2 x.M.C [] = D:=⟨_,rfl⟩
 obtain ⟨H,hH⟩:∃ H,x.M.H = H:=⟨_,rfl⟩
 have l1:D1.length = 32:=by rw [← hD1];exact macB_length _ _
 have l2:D2.length = 32:=by rw [← hD2];exact macB_length _ _
 have lH:H.length = 32:=by rw [← hH];exact hs.sd.mi.h
 have HD:=ohid (And.intro hD1 (And.intro hD2 hH))
 have HI1:=ohid (ci_info D1 true 0 l1)
 have HI2:=ohid (ci_info D2 true 0 l2)
 have HIH:=ohid (keyI lH)
 have HIHA:=ohid (keyIA lH)
 obtain ⟨S1,hS1⟩:∃ S,NS.sendK x = S:=⟨_,rfl⟩
 obtain ⟨S2,hS2⟩:∃ S,NS.hearK x = S:=⟨_,rfl⟩
 rw [hS1,hS2,hH]
 have HSS:=ohid (And.intro hS1 hS2)
 clear hs hT hD1 hD2 hH hS1 hS2
 go_enter Tryz.func23,Tryz.ntmps23
 refine wp_seq (wp_cut (fun a W => a = { tmps:=#[.pointer (some ⟨g,0,none⟩),undef,.pointer (some ⟨w.heap.size,0,none⟩),.pointer (some ⟨w.heap.size + 1,0,none⟩),.pointer (some ⟨w.heap.size + 1 + 1,0,none⟩),.int .i64 0,undef,undef,undef,undef,undef,undef,undef,undef,undef,undef,undef,undef,undef,undef,undef,undef,undef,undef,undef,undef,undef,undef,undef,undef,undef,undef,undef,undef,undef,undef,undef,undef,undef,undef,undef,undef,undef],defers:=[] } ∧ Hid (Vw w W (spL w))) ?_ ?_)
 ·go_wp2
  all_goals first | exact HV0 | exact ⟨rfl,HV0⟩ | exact ⟨rfl,rfl,HV0⟩
 ·rintro a W0 ⟨rfl,HV⟩
  simp only [Exit.then]
  clear HV0
  go_wp2_with fail
  refine (ksplit_any g 71 (SKy x.own x.once x.S seen ++ [.int .i64 (x.code:Int)]) x.M.C x.M.H x.M.K x.M.has x.M.n W0 (HS.out.later HV.out.bel).mi (HT.out.later HV.out.bel).1).mono ?_
  rintro e w1 ⟨rfl,hb1⟩
  rw [HD.out.1,HD.out.2.1]
  obtain ⟨X1,X2,s1,s2,hc1,hc2,hbX⟩:=ci_place2 w1 D1 D2 true true 0 0 l1 l2
  simp only [ciZ] at s1 s2
  obtain ⟨p,hp⟩:∃ p,w1.heap.size = p:=⟨_,rfl⟩
  have HV2:=ohid ((HV.out.later hb1).later hbX)
  have hpw:w.heap.size + 1 + 1 < p:=by
   rw [← hp]
   exact (HV.out.later hb1).vr.lt (w.heap.size + 1 + 1,24,zeroKb) (by simp [spL])
  rw [hp] at s1 s2 hc1 hc2
  have HC1:=ohid hc1
  have HC2:=ohid hc2
  have q9:=(HS.out.later HV2.out.bel).next
  clear hc1 hc2 hbX hb1 HV
  have hl1:(CiV D1 true 0).length = 34:=by rw [CiV_length,l1]
  have hl2:(CiV D2 true 0).length = 34:=by rw [CiV_length,l2]
  obtain ⟨Y,hY⟩:∃ Y,X2.drew = Y:=⟨_,rfl⟩
  have hgr:Below X2.heap.size X2 Y:=by rw [← hY];exact (Below.refl _ _).drew
  have HYe:=ohid hY
  have HVY:=ohid (HV2.out.later hgr)
  have HC1Y:=ohid (HC1.out.later hgr)
  have HC2Y:=ohid (HC2.out.later hgr)
  have HSY:=ohid (HS.out.later HVY.out.bel)
  clear hY hgr HC1 HC2 HV2
  have HL1:Hid (∀ w',But3 w.heap.size Y w' → w'.heap[p]? = some (.cells (CiV D1 true 0).toArray 42 (0,0))):=fun w' hw' => (hw'.block p HC1Y.out.lt (by omega) (by omega) (by omega)).trans HC1Y.out.row
  have HL2:Hid (∀ w',But3 w.heap.size Y w' → w'.heap[p + 1]? = some (.cells (CiV D2 true 0).toArray 42 (0,0))):=fun w' hw' => (hw'.block (p + 1) HC2Y.out.lt (by omega) (by omega) (by omega)).trans HC2Y.out.row
  have HLH:Hid (∀ w',But3 w.heap.size Y w' → ∀ j v,(H.map bv)[j]? = some v → w'.cell? ⟨g,32 + j,none⟩ = some v):=fun w' hw' j v hv => by
   rw [World.cell?_of_block (hw'.block g HSY.out.lt (by omega) (by omega) (by omega))]
   exact HSY.out.hashC j v (by rw [HD.out.2.2];exact hv)
  cases hst:x.starts with
  | true =>
   have hcode:x.code = 3:=by unfold NS.code;rw [h2,hst];rfl
   rw [hcode] at q9
   have e1:S1 = D1:=by rw [← HSS.out.1,← HD.out.1];unfold NS.sendK;rw [if_pos hst]
   have e2:S2 = D2:=by rw [← HSS.out.2,← HD.out.2.1];unfold NS.hearK;rw [if_pos hst]
   obtain ⟨Z1,hZ1⟩:∃ Z,Y.setRow w.heap.size (CiV D1 true 0).toArray = Z:=⟨_,rfl⟩
   obtain ⟨Z2,hZ2⟩:∃ Z,Z1.setRow (w.heap.size + 1) (CiV D2 true 0).toArray = Z:=⟨_,rfl⟩
   obtain ⟨Z3,hZ3⟩:∃ Z,Z2.setRow (w.heap.size + 1 + 1) (H.map bv).toArray = Z:=⟨_,rfl⟩
   have v1:=HVY.out.put 0 w.heap.size 42 zeroCi (CiV D1 true 0) rfl
   rw [hZ1] at v1
   have v2:=v1.put 1 (w.heap.size + 1) 42 zeroCi (CiV D2 true 0) rfl
   rw [hZ2] at v2
   have v3:=v2.put 2 (w.heap.size + 1 + 1) 24 zeroKb (H.map bv) rfl
   rw [hZ3] at v3
   have t1:=store_row Y w.heap.size _ _ (CiV D1 true 0) (HVY.out.cell (w.heap.size,42,zeroCi) (by simp [spL])) (by rw [hl1];exact zeroCi_length.symm) (CiV_one D1 true 0)
   rw [hZ1] at t1
   have t2:=store_row Z1 (w.heap.size + 1) _ _ (CiV D2 true 0) (v1.cell (w.heap.size + 1,42,zeroCi) (by simp [spL])) (by rw [hl2];exact zeroCi_length.symm) (CiV_one D2 true 0)
   rw [hZ2] at t2
   have t3:=store_row Z2 (w.heap.size + 1 + 1) _ _ (H.map bv) (v2.cell (w.heap.size + 1 + 1,24,zeroKb) (by simp [spL])) (by simp [lH,zeroKb]) (bv_oneCell H)
   rw [hZ3] at t3
   have G1:Hid (But3 w.heap.size Y Z1):=by rw [← hZ1];exact But3.setRow _ _ _ _ (.inl rfl)
   have G2:Hid (But3 w.heap.size Z1 Z2):=by rw [← hZ2];exact But3.setRow _ _ _ _ (.inr (.inl rfl))
   have G3:Hid (But3 w.heap.size Z2 Z3):=by rw [← hZ3];exact But3.setRow _ _ _ _ (.inr (.inr rfl))
   have R1:=ohid (v3.cell (w.heap.size,42,CiV D1 true 0) (by simp [spL]))
   have R2:=ohid (v3.cell (w.heap.size + 1,42,CiV D2 true 0) (by simp [spL]))
   have R3:=ohid (v3.cell (w.heap.size + 1 + 1,24,H.map bv) (by simp [spL]))
   have HBel:=ohid v3.bel
   have HEE:=ohid (And.intro e1 e2)
   have hlH:(H.map bv).length = 32:=by simp [lH]
   clear hZ1 hZ2 hZ3 v1 v2 v3 e1 e2
   clear hcode hst
   go_wp2_with fail
   clear s1 s2 q9
   refine wp_region_sched' (G:=But3 w.heap.size) (by kernel_rfl) (But3.refl _) (But3.trans _) (by kernel_rfl) [(0,true),(1,true),(2,true),(3,true),(4,true),(5,true),(6,true),(7,true),(8,false),(9,false),(10,false),(11,true)] rfl (by kernel_rfl) ?_
   intro KK hKK
   rw [HYe.out]
   refine sched_take rfl (by rfl) (v:=.agg (CiV D1 true 0).toArray) (fun w' hw' => exec_load_row 42 _ rfl p rfl 42 _ (0,0) _ (HL1.out w' hw') Tryz.underlying42 rfl HI1.out) ?_
   go_simp
   refine sched_take rfl (by rfl) (v:=.agg (CiV D2 true 0).toArray) (fun w' hw' => exec_load_row 42 _ rfl (p + 1) rfl 42 _ (0,0) _ (HL2.out w' hw') Tryz.underlying42 rfl HI2.out) ?_
   go_simp
   iterate 5 (refine sched_take rfl (by rfl) (v:=?_) ?_ ?_;rotate_left;(intro w' hw';clear hw';go_simp;with_reducible rfl);go_simp)
   refine sched_take rfl (by rfl) (v:=.agg (H.map bv).toArray) (fun w' hw' => exec_load_part 24 _ rfl g 32 rfl (H.map bv) _ (HLH.out w' hw') Tryz.underlying24 rfl HIH.out) ?_
   go_simp
   refine sched_put rfl (by rfl) (w':=Z1) (by go_simp) G1.out ?_
   clear t1
   go_simp
   refine sched_put rfl (by rfl) (w':=Z2) (by go_simp) G2.out ?_
   clear t2
   go_simp
   refine sched_put rfl (by rfl) (w':=Z3) (by go_simp) G3.out ?_
   clear t3
   go_simp
   iterate 1 (refine sched_take rfl (by rfl) (v:=?_) ?_ ?_;rotate_left;(intro w' hw';clear hw';go_simp;with_reducible rfl);go_simp)
   refine sched_done hKK ?_
   clear hKK
   (try go_wp2)
   (try simp only [Exit.inBlock,Exit.then])
   refine bodyPost_ret (results_split rfl _ _ w.heap.size (w.heap.size + 1) (w.heap.size + 1 + 1) 42 24 _ _ _ _ _ _ rfl rfl rfl rfl R1.out R2.out R3.out Tryz.underlying42 rfl Tryz.underlying24 rfl HI1.out HI2.out HIHA.out) rfl ?_
   exact ⟨by rw [HEE.out.1,HEE.out.2];rfl,HBel.out⟩
  | false =>
   have hcode:x.code = 6:=by unfold NS.code;rw [h2,hst];rfl
   rw [hcode] at q9
   have e1:S1 = D2:=by rw [← HSS.out.1,← HD.out.2.1];unfold NS.sendK;rw [if_neg (by rw [hst];decide)]
   have e2:S2 = D1:=by rw [← HSS.out.2,← HD.out.1];unfold NS.hearK;rw [if_neg (by rw [hst];decide)]
   obtain ⟨Z1,hZ1⟩:∃ Z,Y.setRow w.heap.size (CiV D2 true 0).toArray = Z:=⟨_,rfl⟩
   obtain ⟨Z2,hZ2⟩:∃ Z,Z1.setRow (w.heap.size + 1) (CiV D1 true 0).toArray = Z:=⟨_,rfl⟩
   obtain ⟨Z3,hZ3⟩:∃ Z,Z2.setRow (w.heap.size + 1 + 1) (H.map bv).toArray = Z:=⟨_,rfl⟩
   have v1:=HVY.out.put 0 w.heap.size 42 zeroCi (CiV D2 true 0) rfl
   rw [hZ1] at v1
   have v2:=v1.put 1 (w.heap.size + 1) 42 zeroCi (CiV D1 true 0) rfl
   rw [hZ2] at v2
   have v3:=v2.put 2 (w.heap.size + 1 + 1) 24 zeroKb (H.map bv) rfl
   rw [hZ3] at v3
   have t1:=store_row Y w.heap.size _ _ (CiV D2 true 0) (HVY.out.cell (w.heap.size,42,zeroCi) (by simp [spL])) (by rw [hl2];exact zeroCi_length.symm) (CiV_one D2 true 0)
   rw [hZ1] at t1
   have t2:=store_row Z1 (w.heap.size + 1) _ _ (CiV D1 true 0) (v1.cell (w.heap.size + 1,42,zeroCi) (by simp [spL])) (by rw [hl1];exact zeroCi_length.symm) (CiV_one D1 true 0)
   rw [hZ2] at t2
   have t3:=store_row Z2 (w.heap.size + 1 + 1) _ _ (H.map bv) (v2.cell (w.heap.size + 1 + 1,24,zeroKb) (by simp [spL])) (by simp [lH,zeroKb]) (bv_oneCell H)
   rw [hZ3] at t3
   have G1:Hid (But3 w.heap.size Y Z1):=by rw [← hZ1];exact But3.setRow _ _ _ _ (.inl rfl)
   have G2:Hid (But3 w.heap.size Z1 Z2):=by rw [← hZ2];exact But3.setRow _ _ _ _ (.inr (.inl rfl))
   have G3:Hid (But3 w.heap.size Z2 Z3):=by rw [← hZ3];exact But3.setRow _ _ _ _ (.inr (.inr rfl))
   have R1:=ohid (v3.cell (w.heap.size,42,CiV D2 true 0) (by simp [spL]))
   have R2:=ohid (v3.cell (w.heap.size + 1,42,CiV D1 true 0) (by simp [spL]))
   have R3:=ohid (v3.cell (w.heap.size + 1 + 1,24,H.map bv) (by simp [spL]))
   have HBel:=ohid v3.bel
   have HEE:=ohid (And.intro e1 e2)
   have hlH:(H.map bv).length = 32:=by simp [lH]
   clear hZ1 hZ2 hZ3 v1 v2 v3 e1 e2
   clear hcode hst
   go_wp2_with fail
   clear s1 s2 q9
   refine wp_region_sched' (G:=But3 w.heap.size) (by kernel_rfl) (But3.refl _) (But3.trans _) (by kernel_rfl) [(0,true),(1,true),(2,true),(3,true),(4,true),(5,true),(6,true),(7,true),(8,false),(9,false),(10,false),(11,true)] rfl (by kernel_rfl) ?_
   intro KK hKK
   rw [HYe.out]
   refine sched_take rfl (by rfl) (v:=.agg (CiV D2 true 0).toArray) (fun w' hw' => exec_load_row 42 _ rfl (p + 1) rfl 42 _ (0,0) _ (HL2.out w' hw') Tryz.underlying42 rfl HI2.out) ?_
   go_simp
   refine sched_take rfl (by rfl) (v:=.agg (CiV D1 true 0).toArray) (fun w' hw' => exec_load_row 42 _ rfl p rfl 42 _ (0,0) _ (HL1.out w' hw') Tryz.underlying42 rfl HI1.out) ?_
   go_simp
   iterate 5 (refine sched_take rfl (by rfl) (v:=?_) ?_ ?_;rotate_left;(intro w' hw';clear hw';go_simp;with_reducible rfl);go_simp)
   refine sched_take rfl (by rfl) (v:=.agg (H.map bv).toArray) (fun w' hw' => exec_load_part 24 _ rfl g 32 rfl (H.map bv) _ (HLH.out w' hw') Tryz.underlying24 rfl HIH.out) ?_
   go_simp
   refine sched_put rfl (by rfl) (w':=Z1) (by go_simp) G1.out ?_
   clear t1
   go_simp
   refine sched_put rfl (by rfl) (w':=Z2) (by go_simp) G2.out ?_
   clear t2
   go_simp
   refine sched_put rfl (by rfl) (w':=Z3) (by go_simp) G3.out ?_
   clear t3
   go_simp
   iterate 1 (refine sched_take rfl (by rfl) (v:=?_) ?_ ?_;rotate_left;(intro w' hw';clear hw';go_simp;with_reducible rfl);go_simp)
   refine sched_done hKK ?_
   clear hKK
   (try go_wp2)
   (try simp only [Exit.inBlock,Exit.then])
   refine bodyPost_ret (results_split rfl _ _ w.heap.size (w.heap.size + 1) (w.heap.size + 1 + 1) 42 24 _ _ _ _ _ _ rfl rfl rfl rfl R1.out R2.out R3.out Tryz.underlying42 rfl Tryz.underlying24 rfl HI2.out HI1.out HIHA.out) rfl ?_
   exact ⟨by rw [HEE.out.1,HEE.out.2];rfl,HBel.out⟩
set_option maxHeartbeats 8000000 in
theorem nSplit_no (g:Nat) (x:NS) (w:World) (h:HaIs w g x) (hT:TT w) (h2:x.st ≠ 2) :
  Calls Tryz.prog 23 #[.pointer (some ⟨g,0,none⟩)] w fun e w' => e = .returned (.tuple #[.agg zeroCi.toArray,.agg zeroCi.toArray,.agg zeroKb.toArray,.int .i64 10]) ∧ Below w.heap.size w w':=by
 obtain ⟨seen,hs⟩:=h
 have hgl:=hs.sd.lt
 have HS:=ohid hs.sd
 have HT:=ohid hT
 have HV0:Hid (Vw w (((w.alloc (.cells zeroCi.toArray 42)).alloc (.cells zeroCi.toArray 42)).alloc (.cells zeroKb.toArray 24)) (spL w)):=by
  have h:=(((Vw.none w).alloc 42 zeroCi).alloc 42 zeroCi).alloc 24 zeroKb
  simp only [World.size_alloc] at h
  exact h
 obtain ⟨D1,hD1⟩:∃ D,der1 x.M.C [] = D:=⟨_,rfl⟩
 obtain ⟨D2,hD2⟩:∃ D,der2 x.M.C [] = D:=⟨_,rfl⟩
 obtain ⟨H,hH⟩:∃ H,x.M.H = H:=⟨_,rfl⟩
 have l1:D1.length = 32:=by rw [← hD1];exact macB_length _ _
 have l2:D2.length = 32:=by rw [← hD2];exact macB_length _ _
 have lH:H.length = 32:=by rw [← hH];exact hs.sd.mi.h
 have HD:=ohid (And.intro hD1 (And.intro hD2 hH))
 have HI1:=ohid (ci_info D1 true 0 l1)
 have HI2:=ohid (ci_info D2 true 0 l2)
 have HIH:=ohid (keyI lH)
 have HIHA:=ohid (keyIA lH)
 have hc3:¬ (x.code:Int) = 3 ∧ ¬ (x.code:Int) = 6:=by
  have h1:=hs.st
  unfold NS.code
  cases x.starts <;> simp <;> split <;> omega
 obtain ⟨hc3,hc6⟩:=hc3
 clear hs hT hD1 hD2 hH
 go_enter Tryz.func23,Tryz.ntmps23
 refine wp_seq (wp_cut (fun a W => a = { tmps:=#[.pointer (some ⟨g,0,none⟩),undef,.pointer (some ⟨w.heap.size,0,none⟩),.pointer (some ⟨w.heap.size + 1,0,none⟩),.pointer (some ⟨w.heap.size + 1 + 1,0,none⟩),.int .i64 0,undef,undef,undef,undef,undef,undef,undef,undef,undef,undef,undef,undef,undef,undef,undef,undef,undef,undef,undef,undef,undef,undef,undef,undef,undef,undef,undef,undef,undef,undef,undef,undef,undef,undef,undef,undef,undef],defers:=[] } ∧ Hid (Vw w W (spL w))) ?_ ?_)
 ·go_wp2
  all_goals first | exact HV0 | exact ⟨rfl,HV0⟩ | exact ⟨rfl,rfl,HV0⟩
 ·rintro a W0 ⟨rfl,HV⟩
  simp only [Exit.then]
  clear HV0
  go_wp2_with fail
  refine (ksplit_any g 71 (SKy x.own x.once x.S seen ++ [.int .i64 (x.code:Int)]) x.M.C x.M.H x.M.K x.M.has x.M.n W0 (HS.out.later HV.out.bel).mi (HT.out.later HV.out.bel).1).mono ?_
  rintro e w1 ⟨rfl,hb1⟩
  rw [HD.out.1,HD.out.2.1]
  obtain ⟨X1,X2,s1,s2,hc1,hc2,hbX⟩:=ci_place2 w1 D1 D2 true true 0 0 l1 l2
  simp only [ciZ] at s1 s2
  have HV2:=ohid ((HV.out.later hb1).later hbX)
  have q9:=(HS.out.later HV2.out.bel).next
  clear hc1 hc2 hbX hb1 HV
  have hl1:(CiV D1 true 0).length = 34:=by rw [CiV_length,l1]
  have hl2:(CiV D2 true 0).length = 34:=by rw [CiV_length,l2]
  have v1:=HV2.out.put 0 w.heap.size 42 zeroCi zeroCi rfl
  have v2:=v1.put 1 (w.heap.size + 1) 42 zeroCi zeroCi rfl
  have v3:=v2.put 2 (w.heap.size + 1 + 1) 24 zeroKb zeroKb rfl
  have P1:=ohid (HV2.out.cell (w.heap.size,42,zeroCi) (by simp [spL]))
  have P2:=ohid (v1.cell (w.heap.size + 1,42,zeroCi) (by simp [spL]))
  have P3:=ohid (v2.cell (w.heap.size + 1 + 1,24,zeroKb) (by simp [spL]))
  have R1:=ohid (v3.cell (w.heap.size,42,zeroCi) (by simp [spL]))
  have R2:=ohid (v3.cell (w.heap.size + 1,42,zeroCi) (by simp [spL]))
  have R3:=ohid (v3.cell (w.heap.size + 1 + 1,24,zeroKb) (by simp [spL]))
  have HBel:=ohid v3.bel
  have HIC:Hid ((Tryz.prog.info? 42).map (·.size) = some zeroCi.toArray.size):=ci_info (List.replicate 32 0) false 0 rfl
  have HIK:Hid ((Tryz.prog.info? 24).map (·.size) = some zeroKb.toArray.size):=keyIA (l:=List.replicate 32 0) rfl
  have HA1:Hid (zeroCi.toArray.all (·.oneCell') = true):=by show _ = _;kernel_rfl
  have HA2:Hid (zeroKb.toArray.all (·.oneCell') = true):=by show _ = _;kernel_rfl
  clear v1 v2 v3
  go_wp2_with (first | refine wpList_store_row rfl 42 (.tmp 2) (.tmp 40) rfl w.heap.size zeroCi.toArray rfl rfl 42 _ P1.out HIC.out rfl HA1.out ?_ | refine wpList_store_row rfl 42 (.tmp 3) (.tmp 41) rfl (w.heap.size + 1) zeroCi.toArray rfl rfl 42 _ P2.out HIC.out rfl HA1.out ?_ | refine wpList_store_row rfl 24 (.tmp 4) (.tmp 42) rfl (w.heap.size + 1 + 1) zeroKb.toArray rfl rfl 24 _ P3.out HIK.out rfl HA2.out ?_ | fail)
  (try simp only [Exit.inBlock,Exit.then])
  refine bodyPost_ret (results_split rfl _ _ w.heap.size (w.heap.size + 1) (w.heap.size + 1 + 1) 42 24 _ _ _ _ _ _ rfl rfl rfl rfl R1.out R2.out R3.out Tryz.underlying42 rfl Tryz.underlying24 rfl HIC.out HIC.out HIK.out) rfl ?_
  exact ⟨rfl,HBel.out⟩
end Go.Proofs.YthmkhdnnljdglaaGreatDoor
