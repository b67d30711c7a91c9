import Derived.Test.YthmkhdnnljdglaaGreatDoorQad
import Derived.Test.YthmkhdnnljdglaaGreatDoorQak
import Derived.Test.YthmkhdnnljdglaaGreatDoorQah
import Derived.Test.YthmkhdnnljdglaaGreatDoorQai
import Derived.Test.YthmkhdnnljdglaaGreatDoorQao
namespace Go.Proofs.YthmkhdnnljdglaaGreatDoor
set_option linter.unusedVariables false
set_option maxRecDepth 100000
open Go.RowKit
theorem make_zero (w:World) (n:Nat) (h:n ≤ 2000000) :
  (Instr.makeSlice 22 (.int .i64 (n:Int)) (.int .i64 (n:Int))).run Tryz.prog w = .ok (.slice (some ⟨w.heap.size,0,none⟩) n n) (w.alloc (.cells ((List.replicate n (0:UInt8)).map bv).toArray 5)):=by
 obtain ⟨i0,hi,hz0,hz1,hz2⟩:=info_parts Tryz.infoU8
 have hr:=run_make (P:=Tryz.prog) w 22 5 i0 (.int .u8 0) Tryz.underlying22 hi hz0 .i64 .i64 (n:Int) (n:Int) (by omega) (by omega) (by rw [hz2];omega) (by omega)
 have e1:((n:Int)).toNat = n:=by omega
 rw [e1,hz1,Nat.mul_one] at hr
 have e:(madeCells (Value.int .u8 0).cells n).toList = List.replicate n (.int .u8 0):=toList_madeCells_one _ _
 have e2:madeCells (Value.int .u8 0).cells n = ((List.replicate n (0:UInt8)).map bv).toArray:=by
  rw [← Array.toList_inj,e]
  simp [bv]
 rw [e2] at hr
 exact hr
set_option maxHeartbeats 1000000 in
theorem cnonce_any (n:Nat) (hn:n ≤ 18446744073709551615) (w:World) :
  Calls Tryz.prog 79 #[.int .u64 (n:Int)] w fun e w' => e = .returned (.agg ((nonceB n).map bv).toArray) ∧ Below w.heap.size w w':=by
 have hmk:∀ W:World,(Instr.makeSlice 22 (.int .i64 4) (.int .i64 4)).run Tryz.prog W = .ok (.slice (some ⟨W.heap.size,0,none⟩) 4 4) (W.alloc (.cells #[.int .u8 0,.int .u8 0,.int .u8 0,.int .u8 0] 5)):=fun W => make_zero W 4 (by omega)
 obtain ⟨Z,hZ⟩:∃ Z:Array Value,#[Value.int .u8 0,.int .u8 0,.int .u8 0,.int .u8 0,.int .u8 0,.int .u8 0,.int .u8 0,.int .u8 0,.int .u8 0,.int .u8 0,.int .u8 0,.int .u8 0] = Z:=⟨_,rfl⟩
 obtain ⟨Z4,hZ4⟩:∃ Z:Array Value,#[Value.int .u8 0,.int .u8 0,.int .u8 0,.int .u8 0] = Z:=⟨_,rfl⟩
 have HA:Hid (Arr ((w.alloc (.cells #[Value.int .u8 0,.int .u8 0,.int .u8 0,.int .u8 0,.int .u8 0,.int .u8 0,.int .u8 0,.int .u8 0,.int .u8 0,.int .u8 0,.int .u8 0,.int .u8 0] 90)).alloc (.cells #[Value.int .u8 0,.int .u8 0,.int .u8 0,.int .u8 0] 5)) w.heap.size 90 (List.replicate 12 0)):=
  (show Arr (w.alloc (.cells #[Value.int .u8 0,.int .u8 0,.int .u8 0,.int .u8 0,.int .u8 0,.int .u8 0,.int .u8 0,.int .u8 0,.int .u8 0,.int .u8 0,.int .u8 0,.int .u8 0] 90)) w.heap.size 90 (List.replicate 12 0) from Arr.new w 90 (List.replicate 12 0)).later ((Below.refl _ _).alloc (Nat.le_refl _) _)
 have HB:Hid (Byt ((w.alloc (.cells #[Value.int .u8 0,.int .u8 0,.int .u8 0,.int .u8 0,.int .u8 0,.int .u8 0,.int .u8 0,.int .u8 0,.int .u8 0,.int .u8 0,.int .u8 0,.int .u8 0] 90)).alloc (.cells #[Value.int .u8 0,.int .u8 0,.int .u8 0,.int .u8 0] 5)) (some ⟨w.heap.size + 1,0,none⟩) 4 (List.replicate 4 0)):=
  byt_lit _ [0,0,0,0] (w.heap.size + 1) _ _ (0,0) (by have:=heap_alloc_new (w.alloc (.cells #[Value.int .u8 0,.int .u8 0,.int .u8 0,.int .u8 0,.int .u8 0,.int .u8 0,.int .u8 0,.int .u8 0,.int .u8 0,.int .u8 0,.int .u8 0,.int .u8 0] 90)) (.cells #[Value.int .u8 0,.int .u8 0,.int .u8 0,.int .u8 0] 5);rwa [World.size_alloc] at this) rfl
 have HW:Hid (Below w.heap.size w ((w.alloc (.cells #[Value.int .u8 0,.int .u8 0,.int .u8 0,.int .u8 0,.int .u8 0,.int .u8 0,.int .u8 0,.int .u8 0,.int .u8 0,.int .u8 0,.int .u8 0,.int .u8 0] 90)).alloc (.cells #[Value.int .u8 0,.int .u8 0,.int .u8 0,.int .u8 0] 5))):=((Below.refl _ _).alloc (Nat.le_refl _) _).alloc (by simp) _
 clear hZ hZ4
 go_enter Tryz.func79,Tryz.ntmps79
 go_wp2_with fail
 refine from_world (P:=fun W => Calls Tryz.prog _ _ W _) (R:=fun W => Hid (Arr W w.heap.size 90 (List.replicate 12 0)) ∧ Hid (Byt W (some ⟨w.heap.size + 1,0,none⟩) 4 (List.replicate 4 0)) ∧ Hid (Below w.heap.size w W)) _ ⟨HA,HB,HW⟩ ?_
 rintro W0 ⟨HA0,HB0,HW0⟩
 clear HA HB HW hmk
 refine (put_any (some ⟨w.heap.size + 1,0,none⟩) 4 4 8 n false (List.replicate 4 0) W0 (by omega) HB0.out 8 (by decide)).mono ?_
 rintro e w1 ⟨g1,rfl,hg1,hb1,hB1⟩
 have hNl:=nonceB_length n
 obtain ⟨C,hC⟩:∃ C,nonceB n = C:=⟨_,rfl⟩
 rw [hC] at hNl
 have hB1':Byt w1 (some ⟨g1,0,none⟩) 12 C:=by rw [← hC];exact hB1
 have HX:=ohid hB1'
 have hA1:=HA0.out.later hb1
 have hW1:Below w.heap.size w w1:=HW0.out.trans (hb1.mono HW0.out.size)
 have hst:=store_row w1 w.heap.size _ _ (C.map bv) hA1 (by simp [hNl]) (bv_oneCell C)
 have hrow:=setRow_heap w1 w.heap.size _ (C.map bv).toArray _ _ hA1
 have HBel:=ohid (below_setRow hW1 (Nat.le_refl _) (C.map bv).toArray)
 obtain ⟨W2,hW2⟩:∃ W2,w1.setRow w.heap.size (C.map bv).toArray = W2:=⟨_,rfl⟩
 rw [hW2] at hst hrow HBel
 have HRow:=ohid hrow
 have IC:Hid ((Tryz.prog.info? 90).map (·.size) = some (C.map bv).toArray.size):=info_size (n:=12) (by kernel_rfl) C hNl
 have HC:=ohid hC
 have hat:(Instr.arrayAt 90 (.slice (some ⟨g1,0,none⟩) 12 12)).run Tryz.prog w1 = .ok (.pointer (some ⟨g1,0,none⟩)) w1:=by simp [Instr.arrayAt,run_underlying Tryz.underlying90]
 clear hrow hW2 hA1 hW1 hb1 hB1 hB1' HA0 HB0 HW0 hC
 go_wp2_with (first | refine wpList_load_byt rfl 90 _ rfl g1 0 12 12 5 C rfl HX.out Tryz.underlying90 (by kernel_rfl) ?_ | fail)
 (try simp only [Exit.inBlock,Exit.then])
 refine bodyPost_ret (results_cell_row rfl _ _ w.heap.size 90 _ (0,0) _ rfl HRow.out Tryz.underlying90 rfl IC.out) rfl ?_
 exact ⟨by rw [HC.out],HBel.out⟩
theorem cnil_eqIn (W:World) (d:Nat) (a:Option Addr) (l c:Nat):(Op.equalIn (d + 1) 22 (.slice a l c) (.slice none 0 0)).run Tryz.prog W = .ok a.isNone W:=by
 cases a <;> simp [Op.equalIn,run_underlying Tryz.underlying22]
theorem cnil_eq (W:World) (a:Option Addr) (l c:Nat):(Op.equal 22 (.slice a l c) (.slice none 0 0)).run Tryz.prog W = .ok a.isNone W:=cnil_eqIn W 9999 a l c
theorem cnil_eql (W:World) (a:Option Addr) (l c:Nat):(binOp .eql 22 (.slice a l c) (.slice none 0 0)).run Tryz.prog W = .ok (.bool a.isNone) W:=by
 simp [binOp,cnil_eq W a l c]
set_option maxHeartbeats 1000000 in
theorem cclone_any (a:Option Addr) (len cap:Nat) (l:List UInt8) (w:World) (hB:Byt w a len l) (hn:a = none → cap = 0) (hlm:len ≤ 100000) :
  Calls Tryz.prog 67 #[.slice a len cap] w fun e w' => ∃ v,e = .returned v ∧ Below w.heap.size w w' ∧ w'.ownsRow w.heap.size 5 1 v len (l.map bv):=by
 have hl:=hB.1
 cases a with
 | none =>
  have h0:len = 0:=by
   rcases hB.2 with h | ⟨b,o,e,_⟩
   ·exact h
   ·cases e
  have hc:=hn rfl
  subst h0 hc
  obtain rfl:l = []:=List.length_eq_zero_iff.1 hl
  clear hB hn
  have hnil:∀ W:World,(binOp .eql 22 (.slice none 0 0) (.slice none 0 0)).run Tryz.prog W = .ok (.bool true) W:=fun W => cnil_eql W _ _ _
  go_enter Tryz.func67,Tryz.ntmps67
  go_wp2
  go_ret
  exact ⟨_,rfl,Below.refl _ _,⟨rfl,.inl ⟨rfl,rfl⟩⟩⟩
 | some x =>
  have hal:Below w.heap.size w (w.alloc (.cells #[] 5)):=(Below.refl _ _).alloc (Nat.le_refl _) _
  obtain ⟨v1,w1,hap1,own1,hg1⟩:=append_own_any (w.alloc (.cells #[] 5)) w.heap.size (.slice (some ⟨w.heap.size,0,none⟩) 0 0) 0 [] (World.ownsRow_made w #[] 0 (Nat.le_refl _) (Nat.zero_le _) rfl) (some x) len cap l (hB.later hal) (fun e => by cases e) (by simp) (by omega)
  have HW1:Hid (Below w.heap.size w w1):=hal.grown hg1 (by simp) (fun k hk => by simp [Value.ownBlock] at hk;omega)
  rw [Nat.zero_add,List.nil_append] at own1
  have HO1:=ohid own1
  have HAP:Hid _:=hap1
  clear hap1 own1 hg1 hal hB hn
  have hnil:∀ W:World,(binOp .eql 22 (.slice (some x) len cap) (.slice none 0 0)).run Tryz.prog W = .ok (.bool false) W:=fun W => cnil_eql W _ _ _
  go_enter Tryz.func67,Tryz.ntmps67
  go_wp2_with (at_builtin;refine wpList_append_run rfl (.tmp 5) (.tmp 6) 22 rfl _ _ _ _ rfl rfl HAP.out ?_)
  go_ret
  exact ⟨_,rfl,HW1.out,HO1.out⟩
set_option maxHeartbeats 2000000 in
theorem cseal1_any (g t off:Nat) (A B:List Value) (key:List UInt8) (has:Bool) (n p1 p2 p3:Nat) (nonce:List UInt8) (a:Option Addr) (la ca:Nat) (ad:List UInt8) (c:Option Addr) (lc cc:Nat) (b:List UInt8) (w:World) (hK:KC w g t off A B key has n) (hn:nonce.length = 12)
  (h1:w.heap[p1]? = some (.cells #[.pointer (some ⟨g,off,none⟩)] 87 (0,0))) (h2:w.heap[p2]? = some (.cells #[.slice a la ca] 22 (0,0))) (h3:w.heap[p3]? = some (.cells #[.slice c lc cc] 22 (0,0)))
  (hA:Byt w a la ad) (hAn:a = none → ca = 0) (hla:la ≤ 1000) (hca:la ≤ ca) (hcam:ca ≤ maxLen) (hB:Byt w c lc b) (hBn:c = none → cc = 0) (hlc:lc ≤ 1000) (hcc:lc ≤ cc) (hccm:cc ≤ maxLen) :
  Calls Tryz.prog 50 #[.agg (nonce.map bv).toArray,.pointer (some ⟨p1,0,none⟩),.pointer (some ⟨p2,0,none⟩),.pointer (some ⟨p3,0,none⟩)] w fun e w' =>
   ∃ v,e = .returned (.tuple #[v,.int .i64 0]) ∧ Below w.heap.size w w' ∧ w'.ownsRow w.heap.size 5 1 v (lc + 16) ((sealB key nonce ad b).map bv):=by
 have hkl:=hK.k
 have HI:Hid ((Tryz.prog.info? 24).map (·.size) = some (key.map bv).length):=by
  have e1:(Tryz.prog.info? 24).map (·.size) = some 32:=by kernel_rfl
  show _ = _
  rw [e1];simp [hkl]
 have HIN:Hid ((Tryz.prog.info? 90).map (·.size) = some (nonce.map bv).toArray.size):=info_size (n:=12) (by kernel_rfl) nonce hn
 obtain ⟨W,hW⟩:∃ W,(w.alloc (.cells (nonce.map bv).toArray 90)).drew = W:=⟨_,rfl⟩
 have hgr:Below w.heap.size w W:=by rw [← hW];exact ((Below.refl _ _).alloc (Nat.le_refl _) _).drew
 have hNon:Arr W w.heap.size 90 nonce:=by
  rw [← hW]
  exact (Arr.new w 90 nonce).later ((Below.refl _ _).drew)
 have HK:=ohid (hK.later hgr)
 have HN:=ohid hNon
 have HAW:=ohid (hA.later hgr)
 have HBW:=ohid (hB.later hgr)
 have HWW:=ohid hgr
 have HWe:=ohid hW
 have HCe:Hid (∀ w',Grows W w' → w'.cell? ⟨p1,0,none⟩ = some (.pointer (some ⟨g,off,none⟩)) ∧ w'.cell? ⟨p2,0,none⟩ = some (.slice a la ca) ∧ w'.cell? ⟨p3,0,none⟩ = some (.slice c lc cc)):=fun w' hw' => by
  have hb:Below w.heap.size w w':=hgr.trans (hw'.mono hgr.size)
  have e1:=hb.block p1 (Array.getElem?_eq_some_iff.1 h1).1
  have e2:=hb.block p2 (Array.getElem?_eq_some_iff.1 h2).1
  have e3:=hb.block p3 (Array.getElem?_eq_some_iff.1 h3).1
  refine ⟨?_,?_,?_⟩
  ·rw [cell_of_row w' p1 0 _ _ (0,0) (e1.trans h1)];rfl
  ·rw [cell_of_row w' p2 0 _ _ (0,0) (e2.trans h2)];rfl
  ·rw [cell_of_row w' p3 0 _ _ (0,0) (e3.trans h3)];rfl
 clear hK h1 h2 h3 hA hB hgr hNon hW
 go_enter Tryz.func50,Tryz.ntmps50
 go_wp2
 refine wp_region_sched' (G:=Grows) (by kernel_rfl) Grows.refl Grows.trans (by kernel_rfl) [(0,true),(1,true),(2,true),(3,true),(4,true),(5,true),(6,true),(7,false),(8,true),(9,true)] rfl (by kernel_rfl) ?_
 intro KK hKK
 rw [HWe.out]
 iterate 3 (refine sched_take rfl (by rfl) (v:=?_) ?_ ?_;rotate_left;(intro w' hw';obtain ⟨q1,q2,q3⟩:=HCe.out w' hw';clear hw';go_simp;with_reducible rfl);go_simp)
 refine sched_take rfl (by rfl) (v:=.agg (key.map bv).toArray) (fun w' hw' => exec_load_part 24 _ rfl g off rfl (key.map bv) _ (HK.out.later hw').keyC Tryz.underlying24 rfl HI.out) ?_
 go_simp
 refine sched_take rfl (by rfl) (v:=.agg (nonce.map bv).toArray) (fun w' hw' => exec_load_row 90 _ rfl w.heap.size rfl 90 _ (0,0) _ (HN.out.later hw') Tryz.underlying90 rfl HIN.out) ?_
 go_simp
 iterate 2 (refine sched_take rfl (by rfl) (v:=?_) ?_ ?_;rotate_left;(intro w' hw';obtain ⟨q1,q2,q3⟩:=HCe.out w' hw';clear hw';go_simp;with_reducible rfl);go_simp)
 refine sched_call (f:=51) (args:=#[.agg (key.map bv).toArray,.agg (nonce.map bv).toArray,.slice a la ca,.slice c lc cc]) rfl (by rfl) (by go_simp) ?_
 refine (seal_any key nonce a la ca ad c lc cc b W hkl hn HAW.out hAn hla hca hcam HBW.out hBn hlc hcc hccm).mono ?_
 rintro e w3 ⟨v3,rfl,hb3,own3⟩
 refine ⟨_,rfl,hb3,?_⟩
 have HO3:=ohid (own_lower own3 HWW.out.size)
 have HW3:=ohid (HWW.out.trans (hb3.mono HWW.out.size))
 clear own3 hb3 HCe HN HK HAW HBW HWe
 go_simp
 iterate 2 (refine sched_take rfl (by rfl) (v:=?_) ?_ ?_;rotate_left;(intro w' hw';clear hw';go_simp;with_reducible rfl);go_simp)
 refine sched_done hKK ?_
 clear hKK
 go_wp2
 go_ret2
 exact ⟨_,rfl,HW3.out,HO3.out⟩
set_option maxHeartbeats 2000000 in
theorem copen1_any (g t off:Nat) (A B:List Value) (key:List UInt8) (has:Bool) (n p1 p2 p3:Nat) (nonce:List UInt8) (a:Option Addr) (la ca:Nat) (ad:List UInt8) (c:Option Addr) (lc cc:Nat) (b:List UInt8) (w:World) (hK:KC w g t off A B key has n) (hn:nonce.length = 12)
  (h1:w.heap[p1]? = some (.cells #[.pointer (some ⟨g,off,none⟩)] 87 (0,0))) (h2:w.heap[p2]? = some (.cells #[.slice a la ca] 22 (0,0))) (h3:w.heap[p3]? = some (.cells #[.slice c lc cc] 22 (0,0)))
  (hA:Byt w a la ad) (hAn:a = none → ca = 0) (hla:la ≤ 1000) (hca:la ≤ ca) (hcam:ca ≤ maxLen) (hB:Byt w c lc b) (hBn:c = none → cc = 0) (hlc:lc ≤ 1100) (hcc:lc ≤ cc) (hccm:cc ≤ maxLen) :
  Calls Tryz.prog 52 #[.agg (nonce.map bv).toArray,.pointer (some ⟨p1,0,none⟩),.pointer (some ⟨p2,0,none⟩),.pointer (some ⟨p3,0,none⟩)] w fun e w' => Below w.heap.size w w' ∧
   ((sealedB key nonce ad b = true ∧ ∃ a' c',e = .returned (.tuple #[.slice a' (lc - 16) c',.int .i64 0]) ∧ w'.ownsRow w.heap.size 5 1 (.slice a' (lc - 16) c') (lc - 16) ((openB key nonce b).map bv)) ∨
   (sealedB key nonce ad b = false ∧ e = .returned (.tuple #[.slice none 0 0,.int .i64 3]))):=by
 have hkl:=hK.k
 have HI:Hid ((Tryz.prog.info? 24).map (·.size) = some (key.map bv).length):=by
  have e1:(Tryz.prog.info? 24).map (·.size) = some 32:=by kernel_rfl
  show _ = _
  rw [e1];simp [hkl]
 have HIN:Hid ((Tryz.prog.info? 90).map (·.size) = some (nonce.map bv).toArray.size):=info_size (n:=12) (by kernel_rfl) nonce hn
 obtain ⟨W,hW⟩:∃ W,(w.alloc (.cells (nonce.map bv).toArray 90)).drew = W:=⟨_,rfl⟩
 have hgr:Below w.heap.size w W:=by rw [← hW];exact ((Below.refl _ _).alloc (Nat.le_refl _) _).drew
 have hNon:Arr W w.heap.size 90 nonce:=by
  rw [← hW]
  exact (Arr.new w 90 nonce).later ((Below.refl _ _).drew)
 have HK:=ohid (hK.later hgr)
 have HN:=ohid hNon
 have HAW:=ohid (hA.later hgr)
 have HBW:=ohid (hB.later hgr)
 have HWW:=ohid hgr
 have HWe:=ohid hW
 have HCe:Hid (∀ w',Grows W w' → w'.cell? ⟨p1,0,none⟩ = some (.pointer (some ⟨g,off,none⟩)) ∧ w'.cell? ⟨p2,0,none⟩ = some (.slice a la ca) ∧ w'.cell? ⟨p3,0,none⟩ = some (.slice c lc cc)):=fun w' hw' => by
  have hb:Below w.heap.size w w':=hgr.trans (hw'.mono hgr.size)
  have e1:=hb.block p1 (Array.getElem?_eq_some_iff.1 h1).1
  have e2:=hb.block p2 (Array.getElem?_eq_some_iff.1 h2).1
  have e3:=hb.block p3 (Array.getElem?_eq_some_iff.1 h3).1
  refine ⟨?_,?_,?_⟩
  ·rw [cell_of_row w' p1 0 _ _ (0,0) (e1.trans h1)];rfl
  ·rw [cell_of_row w' p2 0 _ _ (0,0) (e2.trans h2)];rfl
  ·rw [cell_of_row w' p3 0 _ _ (0,0) (e3.trans h3)];rfl
 clear hK h1 h2 h3 hA hB hgr hNon hW
 go_enter Tryz.func52,Tryz.ntmps52
 go_wp2
 refine wp_region_sched' (G:=Grows) (by kernel_rfl) Grows.refl Grows.trans (by kernel_rfl) [(0,true),(1,true),(2,true),(3,true),(4,true),(5,true),(6,true),(7,false),(8,true),(9,true),(10,true),(11,true)] rfl (by kernel_rfl) ?_
 intro KK hKK
 rw [HWe.out]
 iterate 3 (refine sched_take rfl (by rfl) (v:=?_) ?_ ?_;rotate_left;(intro w' hw';obtain ⟨q1,q2,q3⟩:=HCe.out w' hw';clear hw';go_simp;with_reducible rfl);go_simp)
 refine sched_take rfl (by rfl) (v:=.agg (key.map bv).toArray) (fun w' hw' => exec_load_part 24 _ rfl g off rfl (key.map bv) _ (HK.out.later hw').keyC Tryz.underlying24 rfl HI.out) ?_
 go_simp
 refine sched_take rfl (by rfl) (v:=.agg (nonce.map bv).toArray) (fun w' hw' => exec_load_row 90 _ rfl w.heap.size rfl 90 _ (0,0) _ (HN.out.later hw') Tryz.underlying90 rfl HIN.out) ?_
 go_simp
 iterate 2 (refine sched_take rfl (by rfl) (v:=?_) ?_ ?_;rotate_left;(intro w' hw';obtain ⟨q1,q2,q3⟩:=HCe.out w' hw';clear hw';go_simp;with_reducible rfl);go_simp)
 refine sched_call (f:=53) (args:=#[.agg (key.map bv).toArray,.agg (nonce.map bv).toArray,.slice a la ca,.slice c lc cc]) rfl (by rfl) (by go_simp) ?_
 refine (open_all key nonce a la ca ad c lc cc b W hkl hn HAW.out hAn hla hca hcam HBW.out hBn hlc hcc hccm).mono ?_
 rintro e w3 ⟨hb3,⟨hS,a3,c3,rfl,_,own3⟩ | ⟨hS,rfl⟩⟩
 ·refine ⟨_,rfl,hb3,?_⟩
  have HO3:=ohid (own_lower own3 HWW.out.size)
  have HW3:=ohid (HWW.out.trans (hb3.mono HWW.out.size))
  have HS:=ohid ((sealedB_iff key nonce ad b).2 hS)
  clear own3 hb3 HCe HN HK HAW HBW HWe hS
  go_simp
  iterate 4 (refine sched_take rfl (by rfl) (v:=?_) ?_ ?_;rotate_left;(intro w' hw';clear hw';go_simp;with_reducible rfl);go_simp)
  refine sched_done hKK ?_
  clear hKK
  go_wp2
  go_ret2
  exact ⟨HW3.out,.inl ⟨HS.out,_,_,rfl,HO3.out⟩⟩
 ·refine ⟨_,rfl,hb3,?_⟩
  have HW3:=ohid (HWW.out.trans (hb3.mono HWW.out.size))
  have HS:=ohid (sealedB_no key nonce ad b hS)
  clear hb3 HCe HN HK HAW HBW HWe hS
  go_simp
  iterate 4 (refine sched_take rfl (by rfl) (v:=?_) ?_ ?_;rotate_left;(intro w' hw';clear hw';go_simp;with_reducible rfl);go_simp)
  refine sched_done hKK ?_
  clear hKK
  go_wp2
  go_ret2
  exact ⟨HW3.out,.inr ⟨HS.out,rfl⟩⟩
def NextEnd (D:Value → Nat → World → Prop) (g off:Nat) (has:Bool) (n lc:Nat) (b:List UInt8) (w:World) (e:Ending) (w':World):Prop:=
   (has = false ∧ ∃ v,e = .returned (.tuple #[v,.int .i64 0]) ∧ Below w.heap.size w w' ∧ w'.ownsRow w.heap.size 5 1 v lc (b.map bv)) ∨
   (has = true ∧ n = lastN ∧ e = .returned (.tuple #[.slice none 0 0,.int .i64 5]) ∧ w' = w) ∨
   (has = true ∧ n ≠ lastN ∧ ∃ v er W,Below w.heap.size w W ∧ D v er W ∧ ((er ≠ 0 ∧ e = .returned (.tuple #[.slice none 0 0,.int .i64 ((er:Nat):Int)]) ∧ w' = W) ∨ (er = 0 ∧ e = .returned (.tuple #[v,.int .i64 0]) ∧ w' = W.setCell ⟨g,off + 33,none⟩ (.int .u64 ((n + 1:Nat):Int)))))
set_option maxHeartbeats 2000000 in
theorem cnextS_any (caps:Array Value) (D:Value → Nat → World → Prop) (g t off:Nat) (A B:List Value) (key:List UInt8) (has:Bool) (n:Nat) (c:Option Addr) (lc cc:Nat) (b:List UInt8) (w:World) (hK:KC w g t off A B key has n) (hn:n ≤ 18446744073709551615) (hB:Byt w c lc b) (hBn:c = none → cc = 0) (hlc:lc ≤ 100000)
  (hdo:Hid (has = true → n ≠ lastN → ∀ W,Below w.heap.size w W → Calls Tryz.prog 50 (#[.agg ((nonceB n).map bv).toArray] ++ caps) W fun e w' => ∃ v er,e = .returned (.tuple #[v,.int .i64 ((er:Nat):Int)]) ∧ Below W.heap.size W w' ∧ D v er w')) :
  Calls Tryz.prog 49 #[.pointer (some ⟨g,off,none⟩),.slice c lc cc,.func (.func 50) #[] caps] w fun e w' =>
   NextEnd D g off has n lc b w e w':=by
 have q1:=hK.had
 have q2:=hK.num
 have HK:=ohid hK
 have HB:=ohid hB
 clear hK hB
 cases has with
 | false =>
  go_enter Tryz.func49,Tryz.ntmps49
  go_wp2_with fail
  refine (cclone_any c lc cc b w HB.out hBn hlc).mono ?_
  rintro e w1 ⟨v1,rfl,hb1,own1⟩
  have HB1:=ohid hb1
  have HO1:=ohid own1
  clear hb1 own1 q1 q2
  go_wp2_with fail
  go_ret2
  exact .inl ⟨rfl,_,rfl,HB1.out,HO1.out⟩
 | true =>
  by_cases hl:n = 18446744073709551615
  ·subst hl
   go_enter Tryz.func49,Tryz.ntmps49
   go_wp2_with fail
   go_ret2
   exact .inr (.inl ⟨rfl,rfl,rfl,rfl⟩)
  ·have hl':¬ (n:Int) = 18446744073709551615:=by omega
   have HL:=ohid hl
   have HDo:=ohid (hdo.out rfl hl)
   clear hdo
   go_enter Tryz.func49,Tryz.ntmps49
   go_wp2_with fail
   refine (cnonce_any n hn w).mono ?_
   rintro e w1 ⟨rfl,hb1⟩
   have HB1:=ohid hb1
   clear hb1 q1 q2
   go_wp2_with fail
   refine (HDo.out w1 HB1.out).mono ?_
   rintro e w2 ⟨v2,er,rfl,hb2,hD⟩
   have HW2:=ohid (HB1.out.trans (hb2.mono HB1.out.size))
   have HD:=ohid hD
   have hK2:=HK.out.later HW2.out
   have q3:=hK2.num
   have q4:=hK2.free (off + 33)
   clear hb2 hD hK2
   by_cases h0:er = 0
   ·subst h0
    have hw1:IntKind.u64.wrap ((n:Int) + 1) = ((n + 1:Nat):Int):=by rw [IntKind.wrap_u64];omega
    go_wp2_with fail
    go_ret2
    exact .inr (.inr ⟨rfl,HL.out,v2,0,w2,HW2.out,HD.out,.inr ⟨rfl,rfl,rfl⟩⟩)
   ·have h0':¬ (er:Int) = 0:=by omega
    go_wp2_with fail
    go_ret2
    exact .inr (.inr ⟨rfl,HL.out,v2,er,w2,HW2.out,HD.out,.inl ⟨h0,rfl,rfl⟩⟩)
set_option maxHeartbeats 2000000 in
theorem cnextO_any (caps:Array Value) (D:Value → Nat → World → Prop) (g t off:Nat) (A B:List Value) (key:List UInt8) (has:Bool) (n:Nat) (c:Option Addr) (lc cc:Nat) (b:List UInt8) (w:World) (hK:KC w g t off A B key has n) (hn:n ≤ 18446744073709551615) (hB:Byt w c lc b) (hBn:c = none → cc = 0) (hlc:lc ≤ 100000)
  (hdo:Hid (has = true → n ≠ lastN → ∀ W,Below w.heap.size w W → Calls Tryz.prog 52 (#[.agg ((nonceB n).map bv).toArray] ++ caps) W fun e w' => ∃ v er,e = .returned (.tuple #[v,.int .i64 ((er:Nat):Int)]) ∧ Below W.heap.size W w' ∧ D v er w')) :
  Calls Tryz.prog 49 #[.pointer (some ⟨g,off,none⟩),.slice c lc cc,.func (.func 52) #[] caps] w fun e w' =>
   NextEnd D g off has n lc b w e w':=by
 have q1:=hK.had
 have q2:=hK.num
 have HK:=ohid hK
 have HB:=ohid hB
 clear hK hB
 cases has with
 | false =>
  go_enter Tryz.func49,Tryz.ntmps49
  go_wp2_with fail
  refine (cclone_any c lc cc b w HB.out hBn hlc).mono ?_
  rintro e w1 ⟨v1,rfl,hb1,own1⟩
  have HB1:=ohid hb1
  have HO1:=ohid own1
  clear hb1 own1 q1 q2
  go_wp2_with fail
  go_ret2
  exact .inl ⟨rfl,_,rfl,HB1.out,HO1.out⟩
 | true =>
  by_cases hl:n = 18446744073709551615
  ·subst hl
   go_enter Tryz.func49,Tryz.ntmps49
   go_wp2_with fail
   go_ret2
   exact .inr (.inl ⟨rfl,rfl,rfl,rfl⟩)
  ·have hl':¬ (n:Int) = 18446744073709551615:=by omega
   have HL:=ohid hl
   have HDo:=ohid (hdo.out rfl hl)
   clear hdo
   go_enter Tryz.func49,Tryz.ntmps49
   go_wp2_with fail
   refine (cnonce_any n hn w).mono ?_
   rintro e w1 ⟨rfl,hb1⟩
   have HB1:=ohid hb1
   clear hb1 q1 q2
   go_wp2_with fail
   refine (HDo.out w1 HB1.out).mono ?_
   rintro e w2 ⟨v2,er,rfl,hb2,hD⟩
   have HW2:=ohid (HB1.out.trans (hb2.mono HB1.out.size))
   have HD:=ohid hD
   have hK2:=HK.out.later HW2.out
   have q3:=hK2.num
   have q4:=hK2.free (off + 33)
   clear hb2 hD hK2
   by_cases h0:er = 0
   ·subst h0
    have hw1:IntKind.u64.wrap ((n:Int) + 1) = ((n + 1:Nat):Int):=by rw [IntKind.wrap_u64];omega
    go_wp2_with fail
    go_ret2
    exact .inr (.inr ⟨rfl,HL.out,v2,0,w2,HW2.out,HD.out,.inr ⟨rfl,rfl,rfl⟩⟩)
   ·have h0':¬ (er:Int) = 0:=by omega
    go_wp2_with fail
    go_ret2
    exact .inr (.inr ⟨rfl,HL.out,v2,er,w2,HW2.out,HD.out,.inl ⟨h0,rfl,rfl⟩⟩)
end Go.Proofs.YthmkhdnnljdglaaGreatDoor
