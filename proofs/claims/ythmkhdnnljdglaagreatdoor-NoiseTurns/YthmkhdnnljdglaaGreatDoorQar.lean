import Derived.Test.YthmkhdnnljdglaaGreatDoorQai
import Derived.Test.YthmkhdnnljdglaaGreatDoorQad
namespace Go.Proofs.YthmkhdnnljdglaaGreatDoor
set_option linter.unusedVariables false
set_option maxRecDepth 100000
open Go.RowKit
def layTo (s:List (BitVec 32)):Nat → List (BitVec 32)
 | 0 => List.replicate 16 0#32
 | k + 1 => ((layTo s k).set k (at32 s k)).set (8 + k) (at32 ivB k)
theorem layTo_length (s:List (BitVec 32)):∀ k,(layTo s k).length = 16
 | 0 => by simp [layTo]
 | k + 1 => by rw [layTo,List.length_set,List.length_set,layTo_length s k]
theorem layTo_all (s:List (BitVec 32)) (hs:s.length = 8):layTo s 8 = s ++ ivB:=by
 match s,hs with
 | [a,b,c,d,e,f,g,h],_ => rfl
structure Ly (w:World) (gs gr gv:Nat) (s l:List (BitVec 32)) (W:World):Prop where
 s:Wd W gs 161 s
 res:W.heap[gr]? = some (.cells zero16B 189 (0,0))
 v:Wd W gv 189 l
 nsv:gs ≠ gv
 nrv:gr ≠ gv
 br:w.heap.size ≤ gr
 bv:w.heap.size ≤ gv
 bel:Below w.heap.size w W
theorem Ly.new (w:World) (s:List (BitVec 32)):Ly w w.heap.size (w.heap.size + 1) (w.heap.size + 1 + 1) s (layTo s 0) (((w.alloc (.cells (s.map uv).toArray 161)).alloc (.cells zero16B 189)).alloc (.cells zero16B 189)):=by
 have h0:=Wd.new w 161 s
 have h1:=heap_alloc_new (w.alloc (.cells (s.map uv).toArray 161)) (.cells zero16B 189)
 have h2:=heap_alloc_new ((w.alloc (.cells (s.map uv).toArray 161)).alloc (.cells zero16B 189)) (.cells zero16B 189)
 rw [World.size_alloc] at h1
 rw [World.size_alloc,World.size_alloc] at h2
 refine ⟨?_,?_,h2,by omega,by omega,by omega,by omega,?_⟩
 ·unfold Wd
  rw [Below.heap_alloc _ _ _ (by simp;omega),Below.heap_alloc _ _ _ (by simp)];exact h0
 ·rw [Below.heap_alloc _ _ _ (by simp)];exact h1
 ·exact (((Below.refl _ _).alloc (Nat.le_refl _) _).alloc (by simp) _).alloc (by simp;omega) _
theorem Ly.set {w W:World} {gs gr gv:Nat} {s l:List (BitVec 32)} (t:Ly w gs gr gv s l W) (k:Nat) (x:BitVec 32):Ly w gs gr gv s (l.set k x) (W.setCell ⟨gv,k,none⟩ (uv x)):=
 ⟨t.s.other t.nsv _ _,by rw [heap_setCell_other _ ⟨gv,k,none⟩ _ _ t.nrv];exact t.res,t.v.set k x,t.nsv,t.nrv,t.br,t.bv,t.bel.setCell t.bv _⟩
theorem Ly.drew {w W:World} {gs gr gv:Nat} {s l:List (BitVec 32)} (t:Ly w gs gr gv s l W):Ly w gs gr gv s l W.drew:=⟨t.s,t.res,t.v,t.nsv,t.nrv,t.br,t.bv,t.bel.drew⟩
set_option maxHeartbeats 1000000 in
set_option maxRecDepth 100000 in
theorem blay_any (s:List (BitVec 32)) (told:Nat) (last:Bool) (w:World) (hs:s.length = 8) (htab:Tab w) (htl:told < 18446744073709551616) :
  Calls Tryz.prog 150 #[.agg (s.map uv).toArray,.int .u64 (told:Int),.bool last] w fun e w' => e = .returned (.agg ((bfirst s told last).map uv).toArray) ∧ Below w.heap.size w w':=by
 have HT0:Hid (Ly w w.heap.size (w.heap.size + 1) (w.heap.size + 1 + 1) s (layTo s 0) (((w.alloc (.cells (s.map uv).toArray 161)).alloc (.cells zero16B 189)).alloc (.cells zero16B 189))):=Ly.new w s
 have HTab:Hid (Tab w):=htab
 have HLt:Hid (1 < w.heap.size ∧ 2 < w.heap.size):=htab.lt
 clear htab
 go_enter Tryz.func150,Tryz.ntmps150
 go_wp2
 refine from_world (P:=Code.wp Tryz.prog _ _ _) (R:=fun W => Hid (Ly w w.heap.size (w.heap.size + 1) (w.heap.size + 1 + 1) s (layTo s 0) W)) _ HT0 ?_
 intro W0 HT1
 clear HT0
 generalize w.heap.size + 1 + 1 = gv at HT1 ⊢
 generalize w.heap.size + 1 = gr at HT1 ⊢
 generalize w.heap.size = gs at HT1 ⊢
 go_loopw [9] (fun i wr => ∃ k:Nat,k ≤ 8 ∧ i = .int .i64 k ∧ Hid (Ly w gs gr gv s (layTo s k) wr)) (fun i _ => 8 - (intOf i).toNat)
 case atStart => exact ⟨0,by omega,rfl,HT1⟩
 case round =>
  clear HT1
  obtain ⟨k,hk,rfl,hT⟩:=hrel
  by_cases hlt:k < 8
  ·obtain ⟨p,hp⟩:∃ p,8 + k = p:=⟨_,rfl⟩
   have e1:IntKind.i64.wrap ((8:Int) + (k:Int)) = (p:Int):=by rw [IntKind.wrap_i64];omega
   have i1:(k:Int) < 8:=by omega
   have i2:(k:Int) < 16:=by omega
   have i3:(p:Int) < 16:=by omega
   obtain ⟨x,hx⟩:∃ x,at32 s k = x:=⟨_,rfl⟩
   obtain ⟨y,hy⟩:∃ y,at32 ivB k = y:=⟨_,rfl⟩
   have hTd:=hT.out.drew
   obtain ⟨W,hW⟩:∃ W,wr.drew = W:=⟨_,rfl⟩
   rw [hW] at hTd
   have HWd:Hid (wr.drew = W):=hW
   have hTab:Tab W:=HTab.out.below hTd.bel HLt.out
   have hne : 1 ≠ gv:=by have:=HLt.out.1;have:=hTd.bv;omega
   have hld1:∀ w',But gv W w' → w'.cell? ⟨gs,k,none⟩ = some (.int .u32 (x.toNat:Int)):=fun w' hw' => by
    rw [← hx];exact ((hTd.s.but hTd.nsv hw').word k (by omega)).1
   have hld2:∀ w',But gv W w' → w'.cell? ⟨1,k,none⟩ = some (.int .u32 (y.toNat:Int)):=fun w' hw' => by
    rw [← hy]
    exact World.grownBy.cell hw' (hTab.word k hlt) (fun e => hne (by cases e;rfl))
   obtain ⟨c1,f1⟩:=hTd.v.word k (by rw [layTo_length];omega)
   have hT1:=hTd.set k x
   obtain ⟨W1,hW1⟩:∃ W1,W.setCell ⟨gv,k,none⟩ (uv x) = W1:=⟨_,rfl⟩
   rw [hW1] at hT1
   obtain ⟨c2,f2⟩:=hT1.v.word p (by rw [List.length_set,layTo_length];omega)
   have hT2:=hT1.set p y
   obtain ⟨W2,hW2⟩:∃ W2,W1.setCell ⟨gv,p,none⟩ (uv y) = W2:=⟨_,rfl⟩
   rw [hW2] at hT2
   have HT2:Hid (Ly w gs gr gv s (layTo s (k + 1)) W2):=by
    rw [layTo,hx,hy,hp]
    exact hT2
   have HW1:Hid (W.setCell ⟨gv,k,none⟩ (.int .u32 (x.toNat:Int)) = W1):=hW1
   have HW2:Hid (W1.setCell ⟨gv,p,none⟩ (.int .u32 (y.toNat:Int)) = W2):=hW2
   have HB1:Hid (But gv W W1):=by rw [← hW1];exact But.setCell _ _ _ _
   clear hW hT hT1 hT2 hW1 hW2 hTd hTab hx hy hne
   go_wp2
   refine wp_region_sched' (G:=But gv) (by kernel_rfl) (But.refl gv) (But.trans gv) (by kernel_rfl) [(0,true),(1,true),(2,true),(3,true),(4,true),(5,true),(6,true),(7,true),(8,true),(9,true),(10,false),(11,true),(12,false)] rfl (by kernel_rfl) ?_
   intro KK hKK
   rw [HWd.out]
   iterate 10 (refine sched_take rfl (by rfl) (v:=?_) ?_ ?_;rotate_left;(intro w' hw';have q1:=hld1 w' hw';have q2:=hld2 w' hw';go_simp;with_reducible rfl);go_simp)
   refine sched_put rfl (by rfl) (w':=W1) (by rw [← HW1.out];go_simp) HB1.out ?_
   clear c1 f1 hld1 hld2
   go_simp
   iterate 1 (refine sched_take rfl (by rfl) (v:=?_) ?_ ?_;rotate_left;(intro w' hw';clear hw';go_simp;with_reducible rfl);go_simp)
   refine sched_store rfl (by rfl) (w':=W2) (by rw [← HW2.out];go_simp) (by kernel_rfl) ?_
   go_simp
   refine sched_done hKK ?_
   go_wp2
   exact ⟨⟨k + 1,by omega,by go_num,HT2⟩,by simp [intOf];omega⟩
  ·have ek:k = 8:=by omega
   have hkr:¬ (k:Int) < 8:=by omega
   obtain ⟨V,hV⟩:∃ V,s ++ ivB = V:=⟨_,rfl⟩
   have hVl:V.length = 16:=by rw [← hV];simp [hs,ivB]
   have hT0:Ly w gs gr gv s V wr:=by
    have:=hT.out
    rw [ek,layTo_all s hs,hV] at this
    exact this
   clear hT
   obtain ⟨T0,hT0'⟩:∃ T,BitVec.ofNat 32 told = T:=⟨_,rfl⟩
   obtain ⟨T1,hT1'⟩:∃ T,BitVec.ofNat 32 (told / 4294967296) = T:=⟨_,rfl⟩
   have hE0:(told:Int) % 4294967296 = (T0.toNat:Int):=by rw [← hT0',BitVec.toNat_ofNat];omega
   have hE1:(told:Int) / 4294967296 = (T1.toNat:Int):=by rw [← hT1',BitVec.toNat_ofNat];omega
   have hE2:(T1.toNat:Int) % 4294967296 = (T1.toNat:Int):=by have:=T1.isLt;omega
   obtain ⟨c12,f12⟩:=hT0.v.word 12 (by omega)
   obtain ⟨c13,f13⟩:=hT0.v.word 13 (by omega)
   obtain ⟨c14,f14⟩:=hT0.v.word 14 (by omega)
   obtain ⟨x0,hx0⟩:∃ x,at32 V 12 ^^^ T0 = x:=⟨_,rfl⟩
   obtain ⟨x1,hx1⟩:∃ x,at32 V 13 ^^^ T1 = x:=⟨_,rfl⟩
   obtain ⟨x2,hx2⟩:∃ x,at32 V 14 ^^^ 0xffffffff#32 = x:=⟨_,rfl⟩
   have hX0:bits .xor .u32 ((at32 V 12).toNat:Int) (T0.toNat:Int) = (x0.toNat:Int):=by rw [xor_uv,hx0]
   have hX1:bits .xor .u32 ((at32 V 13).toNat:Int) (T1.toNat:Int) = (x1.toNat:Int):=by rw [xor_uv,hx1]
   have hX2:bits .xor .u32 IntKind.u32.max ((at32 V 14).toNat:Int) = (x2.toNat:Int):=by
    show bits .xor .u32 (((0xffffffff#32:BitVec 32).toNat:Nat):Int) _ = _
    rw [xor_uv,BitVec.xor_comm,hx2]
   have h12:=hT0.set 12 x0
   have h13:=h12.set 13 x1
   have h14:=h13.set 14 x2
   cases last
   ·have hF:bfirst s told false = (V.set 12 x0).set 13 x1:=by
     unfold bfirst
     simp only [hV,hT0',hT1',hx0]
     rw [at32_set_other _ _ _ _ (by omega),hx1]
     simp
    have hFl:(bfirst s told false).length = 16:=bfirst_length s told false hs
    obtain ⟨M,hM⟩:∃ M,bfirst s told false = M:=⟨_,rfl⟩
    rw [hM] at hFl hF
    have HM:Hid (bfirst s told false = M):=hM
    rw [← hF] at h13
    have IB:Hid ((Tryz.prog.info? 189).map (·.size) = some (M.map uv).toArray.size):=info_words (n:=16) (by kernel_rfl) M hFl
    have HV:Hid (Wd ((wr.setCell ⟨gv,12,none⟩ (.int .u32 (x0.toNat:Int))).setCell ⟨gv,13,none⟩ (.int .u32 (x1.toNat:Int))) gv 189 M):=h13.v
    have hst:(storeCells ⟨gr,0,none⟩ (M.map uv)).run Tryz.prog ((wr.setCell ⟨gv,12,none⟩ (.int .u32 (x0.toNat:Int))).setCell ⟨gv,13,none⟩ (.int .u32 (x1.toNat:Int))) = .ok () (((wr.setCell ⟨gv,12,none⟩ (.int .u32 (x0.toNat:Int))).setCell ⟨gv,13,none⟩ (.int .u32 (x1.toNat:Int))).setRow gr (M.map uv).toArray):=store_row _ gr _ _ (M.map uv) h13.res (by simp [hFl,zero16B]) (uv_oneCell M)
    have hrow:=setRow_heap _ gr _ (M.map uv).toArray _ _ h13.res
    have HBel:Hid (Below w.heap.size w (((wr.setCell ⟨gv,12,none⟩ (.int .u32 (x0.toNat:Int))).setCell ⟨gv,13,none⟩ (.int .u32 (x1.toNat:Int))).setRow gr (M.map uv).toArray)):=below_setRow h13.bel h13.br _
    obtain ⟨W4,hW4⟩:∃ W4,((wr.setCell ⟨gv,12,none⟩ (.int .u32 (x0.toNat:Int))).setCell ⟨gv,13,none⟩ (.int .u32 (x1.toNat:Int))).setRow gr (M.map uv).toArray = W4:=⟨_,rfl⟩
    have hrow':(((wr.setCell ⟨gv,12,none⟩ (.int .u32 (x0.toNat:Int))).setCell ⟨gv,13,none⟩ (.int .u32 (x1.toNat:Int))).setRow gr (M.map uv).toArray).heap[gr]? = some (.cells (M.map uv).toArray 189 (0,0)):=hrow
    rw [hW4] at hst HBel hrow'
    have HRow:Hid (W4.heap[gr]? = some (.cells (M.map uv).toArray 189 (0,0))):=hrow'
    clear hrow hrow' hW4 hT0 h12 h13 h14 hF hV hM hx0 hx1 hx2 hT0' hT1'
    go_wp2_with (first | refine wpList_load_row rfl 189 _ rfl gv rfl 189 _ (0,0) _ HV.out Tryz.underlying189 rfl IB.out ?_)
    (try simp only [Exit.inBlock,Exit.then])
    refine bodyPost_ret (results_cell_row rfl _ _ gr 189 _ (0,0) _ rfl HRow.out Tryz.underlying189 rfl IB.out) rfl ?_
    exact ⟨by rw [HM.out],HBel.out⟩
   ·have hF:bfirst s told true = ((V.set 12 x0).set 13 x1).set 14 x2:=by
     unfold bfirst
     simp only [hV,hT0',hT1',hx0]
     rw [at32_set_other _ _ _ _ (by omega),hx1,at32_set_other _ _ _ _ (by omega),at32_set_other _ _ _ _ (by omega),hx2]
     simp
    have hFl:(bfirst s told true).length = 16:=bfirst_length s told true hs
    obtain ⟨M,hM⟩:∃ M,bfirst s told true = M:=⟨_,rfl⟩
    rw [hM] at hFl hF
    have HM:Hid (bfirst s told true = M):=hM
    rw [← hF] at h14
    rw [show uv x2 = .int .u32 (bits .xor .u32 IntKind.u32.max ((at32 V 14).toNat:Int)) by rw [hX2];rfl] at h14
    have IB:Hid ((Tryz.prog.info? 189).map (·.size) = some (M.map uv).toArray.size):=info_words (n:=16) (by kernel_rfl) M hFl
    have HV:Hid (Wd ((((wr.setCell ⟨gv,12,none⟩ (.int .u32 (x0.toNat:Int))).setCell ⟨gv,13,none⟩ (.int .u32 (x1.toNat:Int))).setCell ⟨gv,14,none⟩ (.int .u32 (bits .xor .u32 IntKind.u32.max ((at32 V 14).toNat:Int))))) gv 189 M):=h14.v
    have hst:(storeCells ⟨gr,0,none⟩ (M.map uv)).run Tryz.prog ((((wr.setCell ⟨gv,12,none⟩ (.int .u32 (x0.toNat:Int))).setCell ⟨gv,13,none⟩ (.int .u32 (x1.toNat:Int))).setCell ⟨gv,14,none⟩ (.int .u32 (bits .xor .u32 IntKind.u32.max ((at32 V 14).toNat:Int))))) = .ok () (((((wr.setCell ⟨gv,12,none⟩ (.int .u32 (x0.toNat:Int))).setCell ⟨gv,13,none⟩ (.int .u32 (x1.toNat:Int))).setCell ⟨gv,14,none⟩ (.int .u32 (bits .xor .u32 IntKind.u32.max ((at32 V 14).toNat:Int))))).setRow gr (M.map uv).toArray):=store_row _ gr _ _ (M.map uv) h14.res (by simp [hFl,zero16B]) (uv_oneCell M)
    have hrow:=setRow_heap _ gr _ (M.map uv).toArray _ _ h14.res
    have HBel:Hid (Below w.heap.size w (((((wr.setCell ⟨gv,12,none⟩ (.int .u32 (x0.toNat:Int))).setCell ⟨gv,13,none⟩ (.int .u32 (x1.toNat:Int))).setCell ⟨gv,14,none⟩ (.int .u32 (bits .xor .u32 IntKind.u32.max ((at32 V 14).toNat:Int))))).setRow gr (M.map uv).toArray)):=below_setRow h14.bel h14.br _
    obtain ⟨W4,hW4⟩:∃ W4,((((wr.setCell ⟨gv,12,none⟩ (.int .u32 (x0.toNat:Int))).setCell ⟨gv,13,none⟩ (.int .u32 (x1.toNat:Int))).setCell ⟨gv,14,none⟩ (.int .u32 (bits .xor .u32 IntKind.u32.max ((at32 V 14).toNat:Int))))).setRow gr (M.map uv).toArray = W4:=⟨_,rfl⟩
    have hrow':(((((wr.setCell ⟨gv,12,none⟩ (.int .u32 (x0.toNat:Int))).setCell ⟨gv,13,none⟩ (.int .u32 (x1.toNat:Int))).setCell ⟨gv,14,none⟩ (.int .u32 (bits .xor .u32 IntKind.u32.max ((at32 V 14).toNat:Int))))).setRow gr (M.map uv).toArray).heap[gr]? = some (.cells (M.map uv).toArray 189 (0,0)):=hrow
    rw [hW4] at hst HBel hrow'
    have HRow:Hid (W4.heap[gr]? = some (.cells (M.map uv).toArray 189 (0,0))):=hrow'
    clear hrow hrow' hW4 hT0 h12 h13 h14 hF hV hM hx0 hx1 hx2 hT0' hT1' hX2
    go_wp2_with (first | refine wpList_load_row rfl 189 _ rfl gv rfl 189 _ (0,0) _ HV.out Tryz.underlying189 rfl IB.out ?_)
    (try simp only [Exit.inBlock,Exit.then])
    refine bodyPost_ret (results_cell_row rfl _ _ gr 189 _ (0,0) _ rfl HRow.out Tryz.underlying189 rfl IB.out) rfl ?_
    exact ⟨by rw [HM.out],HBel.out⟩
theorem run_sum_index (w:World) (s:List (BitVec 32)) (i:Nat) (hs:s.length = 8) (hi:i < 8):(Instr.index 161 (.agg (s.map uv).toArray) (.int .i64 (i:Int))).run Tryz.prog w = .ok (.int .u32 ((at32 s i).toNat:Int)) w:=by
 have hu:Tryz.prog.underlying 161 = some (.array 8 99):=Tryz.underlying161
 have he:Tryz.prog.plainKey 99 = true:=by kernel_rfl
 have hc:Tryz.prog.cellsOf 99 = 1:=by kernel_rfl
 have p1:=run_part_plain (P:=Tryz.prog) w he (xs:=(s.map uv).toArray) (off:=i * 1) (v:=.int .u32 ((at32 s i).toNat:Int)) (by rw [Nat.mul_one,at32_get s i (by omega)];simp [show i < s.length by omega,uv])
 rw [Nat.mul_one] at p1
 simp [Instr.index,asIntOf,run_underlying hu,hi,go_sem]
 rw [List.getElem?_eq_getElem (by omega),at32_get s i (by omega)]
 rfl
def keyTo (s:List (BitVec 32)) (k:Nat):List Value:=(wordsB (s.take k)).map bv ++ List.replicate (32 - 4 * k) (.int .u8 0)
theorem keyTo_length (s:List (BitVec 32)) (k:Nat) (hs:s.length = 8) (hk:k ≤ 8):(keyTo s k).length = 32:=by
 simp [keyTo,wordsB_length,hs];omega
theorem keyTo_step (s:List (BitVec 32)) (k:Nat) (hs:s.length = 8) (hk:k < 8) (n:Nat) (hn:(at32 s k).toNat = n) :
  (keyTo s k).take (4 * k) ++ (putB 4 n false).map bv ++ (keyTo s k).drop (4 * k + 4) = keyTo s (k + 1):=by
 have hl:((wordsB (s.take k)).map bv).length = 4 * k:=by simp [wordsB_length,hs];omega
 have e1:(keyTo s k).take (4 * k) = (wordsB (s.take k)).map bv:=by
  unfold keyTo;rw [← hl,List.take_left]
 have e2:(keyTo s k).drop (4 * k + 4) = List.replicate (32 - 4 * (k + 1)) (.int .u8 0):=by
  unfold keyTo
  rw [← List.drop_drop,← hl,List.drop_left,hl,List.drop_replicate]
  congr 1
 rw [e1,e2]
 unfold keyTo
 have e3:s.take (k + 1) = s.take k ++ [at32 s k]:=by rw [List.take_succ_eq_append_getElem (by omega),at32_get s k (by omega)]
 rw [e3,wordsB_append,List.map_append,wordsB,wordsB,List.append_nil,hn]
 simp [putB]
def zero32B:Array Value:=(List.replicate 32 (Value.int .u8 0)).toArray
structure Ky (w:World) (gs gr go:Nat) (s:List (BitVec 32)) (o:List Value) (W:World):Prop where
 s:Wd W gs 161 s
 res:W.heap[gr]? = some (.cells zero32B 24 (0,0))
 out:W.heap[go]? = some (.cells o.toArray 24 (0,0))
 nso:gs ≠ go
 nro:gr ≠ go
 br:w.heap.size ≤ gr
 bo:w.heap.size ≤ go
 bel:Below w.heap.size w W
theorem Ky.new (w:World) (s:List (BitVec 32)):Ky w w.heap.size (w.heap.size + 1) (w.heap.size + 1 + 1) s (keyTo s 0) (((w.alloc (.cells (s.map uv).toArray 161)).alloc (.cells zero32B 24)).alloc (.cells zero32B 24)):=by
 have h0:=Wd.new w 161 s
 have h1:=heap_alloc_new (w.alloc (.cells (s.map uv).toArray 161)) (.cells zero32B 24)
 have h2:=heap_alloc_new ((w.alloc (.cells (s.map uv).toArray 161)).alloc (.cells zero32B 24)) (.cells zero32B 24)
 rw [World.size_alloc] at h1
 rw [World.size_alloc,World.size_alloc] at h2
 refine ⟨?_,?_,h2,by omega,by omega,by omega,by omega,?_⟩
 ·unfold Wd
  rw [Below.heap_alloc _ _ _ (by simp;omega),Below.heap_alloc _ _ _ (by simp)];exact h0
 ·rw [Below.heap_alloc _ _ _ (by simp)];exact h1
 ·exact (((Below.refl _ _).alloc (Nat.le_refl _) _).alloc (by simp) _).alloc (by simp;omega) _
theorem Ky.later {w W W':World} {gs gr go:Nat} {s:List (BitVec 32)} {o:List Value} (t:Ky w gs gr go s o W) (hb:Below W.heap.size W W'):Ky w gs gr go s o W':=
 ⟨t.s.later hb,by rw [hb.block _ (Array.getElem?_eq_some_iff.1 t.res).1];exact t.res,by rw [hb.block _ (Array.getElem?_eq_some_iff.1 t.out).1];exact t.out,t.nso,t.nro,t.br,t.bo,t.bel.trans (hb.mono t.bel.size)⟩
theorem Ky.put {w W:World} {gs gr go:Nat} {s:List (BitVec 32)} {o:List Value} (t:Ky w gs gr go s o W) (o':List Value):Ky w gs gr go s o' (W.setRow go o'.toArray):=by
 refine ⟨?_,?_,setRow_heap W go _ _ _ _ t.out,t.nso,t.nro,t.br,t.bo,below_setRow t.bel t.bo _⟩
 ·unfold Wd
  rw [setRow_other _ _ _ _ t.nso];exact t.s
 ·rw [setRow_other _ _ _ _ t.nro];exact t.res
set_option maxHeartbeats 1000000 in
set_option maxRecDepth 100000 in
theorem bkey_any (s:List (BitVec 32)) (w:World) (hs:s.length = 8) :
  Calls Tryz.prog 122 #[.agg (s.map uv).toArray] w fun e w' => e = .returned (.agg ((wordsB s).map bv).toArray) ∧ Below w.heap.size w w':=by
 have HT0:Hid (Ky w w.heap.size (w.heap.size + 1) (w.heap.size + 1 + 1) s (keyTo s 0) (((w.alloc (.cells (s.map uv).toArray 161)).alloc (.cells zero32B 24)).alloc (.cells zero32B 24))):=Ky.new w s
 have IS:Hid ((Tryz.prog.info? 161).map (·.size) = some (s.map uv).toArray.size):=info_words (n:=8) (by kernel_rfl) s hs
 have HS0:=HT0.out.s
 go_enter Tryz.func122,Tryz.ntmps122
 go_wp2_with (first | refine wpList_load_row rfl 161 _ rfl w.heap.size rfl 161 _ (0,0) _ HS0 Tryz.underlying161 rfl IS.out ?_)
 clear HS0
 refine from_world (P:=Code.wp Tryz.prog _ _ _) (R:=fun W => Hid (Ky w w.heap.size (w.heap.size + 1) (w.heap.size + 1 + 1) s (keyTo s 0) W)) _ HT0 ?_
 intro W0 HT1
 clear HT0
 generalize w.heap.size + 1 + 1 = go at HT1 ⊢
 generalize w.heap.size + 1 = gr at HT1 ⊢
 generalize w.heap.size = gs at HT1 ⊢
 go_loopw [7] (fun i wr => ∃ k:Nat,k ≤ 8 ∧ i = .int .i64 k ∧ Hid (Ky w gs gr go s (keyTo s k) wr)) (fun i _ => 8 - (intOf i).toNat)
 case atStart => exact ⟨0,by omega,rfl,HT1⟩
 case round =>
  clear HT1
  obtain ⟨k,hk,rfl,hO⟩:=hrel
  by_cases hlt:k < 8
  ·obtain ⟨x,hx⟩:∃ x,at32 s k = x:=⟨_,rfl⟩
   obtain ⟨n,hn'⟩:∃ n,x.toNat = n:=⟨_,rfl⟩
   obtain ⟨p,hp⟩:∃ p,4 * k = p:=⟨_,rfl⟩
   have i1:(k:Int) < 8:=by omega
   have e1:IntKind.i64.wrap ((k:Int) * 4) = (p:Int):=by rw [IntKind.wrap_i64];omega
   have hix:=run_sum_index wr s k hs hlt
   rw [hx,hn'] at hix
   have HE:Hid ((keyTo s k).take p ++ (putB 4 n false).map bv ++ (keyTo s k).drop (p + 4) = keyTo s (k + 1)):=by rw [← hp];exact keyTo_step s k hs hlt n (by rw [hx,hn'])
   have HN64:Hid (IntKind.u64.wrap (n:Int) = (n:Int)):=by show _ = _;have:=x.isLt;rw [IntKind.wrap_u64];omega
   obtain ⟨W,hW⟩:∃ W,wr.drew = W:=⟨_,rfl⟩
   have hgr:Below wr.heap.size wr W:=by rw [← hW];exact (Below.refl _ _).drew
   have HOW:Hid (Ky w gs gr go s (keyTo s k) W):=hO.out.later hgr
   have HW:Hid (wr.drew = W):=hW
   have h64:(p:Int) ≤ 32:=by omega
   have h64':(p:Int) < 32:=by omega
   have h64n:¬ 32 = p:=by omega
   clear hO hgr hW hx hn'
   go_wp2
   clear hix
   refine wp_region_sched' (G:=But go) (by kernel_rfl) (But.refl go) (But.trans go) (by kernel_rfl) [(0,true),(1,true),(2,true),(3,true),(4,true),(5,false),(6,false)] rfl (by kernel_rfl) ?_
   intro KK hKK
   rw [HW.out]
   iterate 5 (refine sched_take rfl (by rfl) (v:=?_) ?_ ?_;rotate_left;(intro w' hw';go_simp;with_reducible rfl);go_simp)
   refine sched_call (f:=91) (args:=#[.slice none 0 0,.int .i64 4,.int .u64 (n:Int),.bool false]) rfl (by rfl) (by go_simp;rw [HN64.out]) ?_
   refine (put_any none 0 0 4 n false [] _ (by omega) ⟨rfl,.inl rfl⟩ 4 (by decide)).mono ?_
   rintro e w8 ⟨g8,rfl,hg8,hb8,hB8⟩
   refine ⟨_,rfl,But.below go hb8,?_⟩
   have hO8:=HOW.out.later hb8
   have hg28:go < w8.heap.size:=(Array.getElem?_eq_some_iff.1 hO8.out).1
   have hol:=keyTo_length s k hs hk
   have hcp:=run_copy_row Tryz.prog w8 22 22 3 5 go p (32 - p) (32 - p) ⟨g8,0,none⟩ (0 + 4) (0 + 4) _ _ ((putB 4 n false).map bv) Tryz.underlying22 Tryz.info1U8 hO8.out
    (by rw [List.length_map,putB_length];show 4 = min (0 + 4) (32 - p);omega) (fun j v hj => hB8.cells _ rfl j v (by simpa using hj)) (by simp [putB_length,hol];omega) (bv_oneCell _)
   have hl4:((putB 4 n false).map bv).length = 4:=by simp [putB_length]
   rw [hl4] at hcp
   simp only [] at hcp
   rw [HE.out] at hcp
   have HO9:Hid (Ky w gs gr go s (keyTo s (k + 1)) (w8.setRow go (keyTo s (k + 1)).toArray)):=hO8.put _
   have HG9:Hid (But go w8 (w8.setRow go (keyTo s (k + 1)).toArray)):=But.setRow _ _ _
   generalize w8.setRow go (keyTo s (k + 1)).toArray = W9 at hcp HO9 HG9
   clear hO8 hB8 hb8 HE HOW hol
   go_simp
   refine sched_val (w':=W9) (v:=goInt 4) rfl (by rfl) (by go_simp) HG9.out ?_
   go_simp
   refine sched_done hKK ?_
   go_wp2
   exact ⟨⟨k + 1,by omega,by go_num,HO9⟩,by simp [intOf];omega⟩
  ·have ek:k = 8:=by omega
   have hkr:¬ (k:Int) < 8:=by omega
   obtain ⟨B,hB⟩:∃ B,wordsB s = B:=⟨_,rfl⟩
   have hBl:B.length = 32:=by rw [← hB,wordsB_length,hs]
   have HBe:Hid (wordsB s = B):=hB
   have HO:Hid (Ky w gs gr go s (B.map bv) wr):=by
    have:=hO.out
    rw [ek] at this
    have e:keyTo s 8 = B.map bv:=by rw [← hB];simp [keyTo,List.take_of_length_le (Nat.le_of_eq hs)]
    rw [e] at this
    exact this
   have IB:Hid ((Tryz.prog.info? 24).map (·.size) = some (B.map bv).toArray.size):=info_size (n:=32) (by kernel_rfl) B hBl
   have hst:=store_row wr gr _ _ (B.map bv) HO.out.res (by simp [hBl,zero32B]) (bv_oneCell B)
   have hrow:=setRow_heap wr gr _ (B.map bv).toArray _ _ HO.out.res
   have HBel:Hid (Below w.heap.size w (wr.setRow gr (B.map bv).toArray)):=below_setRow HO.out.bel HO.out.br _
   obtain ⟨W4,hW4⟩:∃ W4,wr.setRow gr (B.map bv).toArray = W4:=⟨_,rfl⟩
   rw [hW4] at hst hrow HBel
   have HRow:Hid (W4.heap[gr]? = some (.cells (B.map bv).toArray 24 (0,0))):=hrow
   clear hrow hW4 hO hB
   go_wp2_with (first | refine wpList_load_row rfl 24 _ rfl go rfl 24 _ (0,0) _ HO.out.out Tryz.underlying24 rfl IB.out ?_)
   (try simp only [Exit.inBlock,Exit.then])
   refine bodyPost_ret (results_cell_row rfl _ _ gr 24 _ (0,0) _ rfl HRow.out Tryz.underlying24 rfl IB.out) rfl ?_
   exact ⟨by rw [HBe.out],HBel.out⟩
end Go.Proofs.YthmkhdnnljdglaaGreatDoor
