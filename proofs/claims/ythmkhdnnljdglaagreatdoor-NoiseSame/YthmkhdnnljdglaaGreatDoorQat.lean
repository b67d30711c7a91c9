import Derived.Test.YthmkhdnnljdglaaGreatDoorQas
import Derived.Lib.SliceRun
import Derived.Test.YthmkhdnnljdglaaGreatDoorQah
namespace Go.Proofs.YthmkhdnnljdglaaGreatDoor
set_option linter.unusedVariables false
set_option maxRecDepth 100000
open Go.RowKit
theorem bparts_append (B x:List UInt8):∀ k,64 * k ≤ B.length → bparts (B ++ x) k = bparts B k
 | 0,_ => rfl
 | k + 1,h => by
  rw [bparts,bparts,bparts_append B x k (by omega)]
  congr 1
  unfold cutB
  rw [List.drop_append_of_le_length (by omega),List.take_append_of_le_length (by simp;omega)]
theorem bahead_of (n a:Nat) (h1:64 * a < n) (h2:n ≤ 64 * a + 64):bahead n = a:=by unfold bahead;omega
def hashV (m:List (BitVec 32)) (t:Nat) (p:List UInt8) (h:Nat):List Value:=m.map uv ++ ([.int .u64 (t:Int)] ++ (p.map bv ++ [.int .i64 (h:Int)]))
structure Hs (w:World) (g:Nat) (m:List (BitVec 32)) (t:Nat) (p:List UInt8) (h:Nat):Prop where
 row:w.heap[g]? = some (.cells (hashV m t p h).toArray 165 (0,0))
 m8:m.length = 8
 p64:p.length = 64
theorem Hs.lt {w:World} {g t h:Nat} {m:List (BitVec 32)} {p:List UInt8} (x:Hs w g m t p h):g < w.heap.size:=(Array.getElem?_eq_some_iff.1 x.row).1
theorem Hs.cell {w:World} {g t h:Nat} {m:List (BitVec 32)} {p:List UInt8} (x:Hs w g m t p h) (i:Nat):w.cell? ⟨g,i,none⟩ = (hashV m t p h)[i]? ∧ w.frozen? ⟨g,i,none⟩ = false:=by
 refine ⟨?_,frozen_of_row w g i _ _ x.row⟩
 rw [cell_of_row w g i _ _ (0,0) x.row]
 simp
theorem Hs.told {w:World} {g t h:Nat} {m:List (BitVec 32)} {p:List UInt8} (x:Hs w g m t p h):w.cell? ⟨g,8,none⟩ = some (.int .u64 (t:Int)) ∧ w.frozen? ⟨g,8,none⟩ = false:=by
 refine ⟨?_,(x.cell 8).2⟩
 rw [(x.cell 8).1]
 simp [hashV,x.m8]
theorem Hs.held {w:World} {g t h:Nat} {m:List (BitVec 32)} {p:List UInt8} (x:Hs w g m t p h):w.cell? ⟨g,73,none⟩ = some (.int .i64 (h:Int)) ∧ w.frozen? ⟨g,73,none⟩ = false:=by
 refine ⟨?_,(x.cell 73).2⟩
 rw [(x.cell 73).1]
 simp [hashV,x.m8,x.p64]
theorem Hs.made {w:World} {g t h:Nat} {m:List (BitVec 32)} {p:List UInt8} (x:Hs w g m t p h):∀ j v,(m.map uv)[j]? = some v → w.cell? ⟨g,0 + j,none⟩ = some v:=
 part_cells [] (m.map uv) _ (by have:=x.row;simpa [hashV] using this) 0 rfl
theorem Hs.last {w:World} {g t h:Nat} {m:List (BitVec 32)} {p:List UInt8} (x:Hs w g m t p h):∀ j v,(p.map bv)[j]? = some v → w.cell? ⟨g,9 + j,none⟩ = some v:=
 part_cells (m.map uv ++ [.int .u64 (t:Int)]) (p.map bv) [.int .i64 (h:Int)] (by have:=x.row;simpa [hashV] using this) 9 (by simp [x.m8])
theorem Hs.but {w w':World} {g g' t h:Nat} {m:List (BitVec 32)} {p:List UInt8} (x:Hs w g m t p h) (hne:g ≠ g') (hb:w.grownBy w' (some g')):Hs w' g m t p h:=
 ⟨by rw [hb.block g x.lt (fun e => hne (by cases e;rfl))];exact x.row,x.m8,x.p64⟩
theorem Hs.below {B:Nat} {w w':World} {g t h:Nat} {m:List (BitVec 32)} {p:List UInt8} (x:Hs w g m t p h) (hb:Below B w w') (hg:g < B):Hs w' g m t p h:=
 ⟨by rw [hb.block g hg];exact x.row,x.m8,x.p64⟩
theorem Hs.later {w w':World} {g t h:Nat} {m:List (BitVec 32)} {p:List UInt8} (x:Hs w g m t p h) (hb:Below w.heap.size w w'):Hs w' g m t p h:=x.below hb x.lt
theorem Hs.setHeld {w:World} {g t h:Nat} {m:List (BitVec 32)} {p:List UInt8} (x:Hs w g m t p h) (h':Nat):Hs (w.setCell ⟨g,73,none⟩ (.int .i64 (h':Int))) g m t p h':=by
 refine ⟨?_,x.m8,x.p64⟩
 rw [heap_setCell_same w g 73 _ _ _ x.row]
 congr 2
 simp [hashV,x.m8,x.p64]
theorem Hs.setTold {w:World} {g t h:Nat} {m:List (BitVec 32)} {p:List UInt8} (x:Hs w g m t p h) (t':Nat):Hs (w.setCell ⟨g,8,none⟩ (.int .u64 (t':Int))) g m t' p h:=by
 refine ⟨?_,x.m8,x.p64⟩
 rw [heap_setCell_same w g 8 _ _ _ x.row]
 congr 2
 simp [hashV,x.m8]
theorem Hs.putMade {w:World} {g t h:Nat} {m:List (BitVec 32)} {p:List UInt8} (x:Hs w g m t p h) (m':List (BitVec 32)) (hm:m'.length = 8) :
  (storeCells ⟨g,0,none⟩ (m'.map uv)).run Tryz.prog w = .ok () (w.setRow g (hashV m' t p h).toArray) ∧ Hs (w.setRow g (hashV m' t p h).toArray) g m' t p h:=by
 have hst:=run_storeCells_part (P:=Tryz.prog) g 0 _ (m'.map uv) 0 _ w x.row (by simp [hashV,x.m8,hm]) (uv_oneCell m')
 have e:(hashV m t p h).toArray.toList.take (0 + 0) ++ m'.map uv ++ (hashV m t p h).toArray.toList.drop (0 + 0 + (m'.map uv).length) = hashV m' t p h:=by
  simp [hashV,hm,x.m8]
 rw [e] at hst
 exact ⟨hst,setRow_heap w g _ _ _ _ x.row,hm,x.p64⟩
theorem Hs.putLast {w:World} {g t h:Nat} {m:List (BitVec 32)} {p:List UInt8} (x:Hs w g m t p h) (q:List UInt8) (hq:h + q.length ≤ 64) :
  ((hashV m t p h).toArray.toList.take (9 + h) ++ q.map bv ++ (hashV m t p h).toArray.toList.drop (9 + h + (q.map bv).length)) = hashV m t (p.take h ++ q ++ p.drop (h + q.length)) h ∧
  Hs (w.setRow g (hashV m t (p.take h ++ q ++ p.drop (h + q.length)) h).toArray) g m t (p.take h ++ q ++ p.drop (h + q.length)) h:=by
 have h8:=x.m8
 have h64:=x.p64
 refine ⟨?_,setRow_heap w g _ _ _ _ x.row,x.m8,by simp;omega⟩
 have e1:(hashV m t p h).take (9 + h) = m.map uv ++ ([.int .u64 (t:Int)] ++ (p.take h).map bv):=by
  unfold hashV
  rw [List.take_append,List.take_of_length_le (by simp;omega),List.length_map,h8,show 9 + h - 8 = h + 1 by omega,List.take_append,List.take_of_length_le (by simp),List.length_singleton,Nat.add_sub_cancel,List.take_append_of_le_length (by simp;omega),List.map_take]
 have e2:(hashV m t p h).drop (9 + h + q.length) = (p.drop (h + q.length)).map bv ++ [.int .i64 (h:Int)]:=by
  unfold hashV
  rw [List.drop_append,List.drop_eq_nil_of_le (by simp;omega),List.length_map,h8,show 9 + h + q.length - 8 = h + q.length + 1 by omega,List.drop_append,List.drop_eq_nil_of_le (by simp),List.length_singleton,Nat.add_sub_cancel,List.drop_append_of_le_length (by simp;omega),List.map_drop]
  simp
 simp only [List.length_map]
 rw [e1,e2]
 simp [hashV]
structure HX (w:World) (g a:Nat) (C p:List UInt8):Prop where
 hs:Hs w g (bparts C a) C.length p (C.length - 64 * a)
 lo:64 * a ≤ C.length
 hi:C.length ≤ 64 * a + 64
 eq:p.take (C.length - 64 * a) = C.drop (64 * a)
def HashIs (w:World) (g:Nat) (C:List UInt8):Prop:=∃ a p,bahead C.length = a ∧ HX w g a C p
theorem HashIs.later {w w':World} {g:Nat} {C:List UInt8} (h:HashIs w g C) (hb:Below w.heap.size w w'):HashIs w' g C:=by
 obtain ⟨a,p,h1,h2⟩:=h
 exact ⟨a,p,h1,h2.hs.later hb,h2.lo,h2.hi,h2.eq⟩
theorem HashIs.below {B:Nat} {w w':World} {g:Nat} {C:List UInt8} (h:HashIs w g C) (hb:Below B w w') (hg:g < B):HashIs w' g C:=by
 obtain ⟨a,p,h1,h2⟩:=h
 exact ⟨a,p,h1,h2.hs.below hb hg,h2.lo,h2.hi,h2.eq⟩
theorem HashIs.but {w w':World} {g g':Nat} {C:List UInt8} (h:HashIs w g C) (hne:g ≠ g') (hb:w.grownBy w' (some g')):HashIs w' g C:=by
 obtain ⟨a,p,h1,h2⟩:=h
 exact ⟨a,p,h1,h2.hs.but hne hb,h2.lo,h2.hi,h2.eq⟩
theorem HashIs.lt {w:World} {g:Nat} {C:List UInt8} (h:HashIs w g C):g < w.heap.size:=by
 obtain ⟨a,p,h1,h2⟩:=h
 exact h2.hs.lt
theorem full_made (C p:List UInt8) (a:Nat) (hp:p.length = 64) (hC:C.length = 64 * a + 64) (heq:p.take (C.length - 64 * a) = C.drop (64 * a)):bpart (bparts C a) p C.length false = bparts C (a + 1):=by
 rw [bparts]
 have e1:cutB C (64 * a) 64 = p:=by
  unfold cutB
  rw [← heq,hC,show 64 * a + 64 - 64 * a = 64 by omega,List.take_take,Nat.min_self,List.take_of_length_le (by omega)]
 rw [e1,hC,show 64 * (a + 1) = 64 * a + 64 by omega]
theorem more_held {w:World} {g a:Nat} {C p q:List UInt8} (lo:64 * a ≤ C.length) (eq:p.take (C.length - 64 * a) = C.drop (64 * a)) (hp:p.length = 64) (hq:C.length - 64 * a + q.length ≤ 64) (hq0:0 < q.length)
  (x:Hs w g (bparts C a) (C ++ q).length (p.take (C.length - 64 * a) ++ q ++ p.drop (C.length - 64 * a + q.length)) ((C ++ q).length - 64 * a)):HashIs w g (C ++ q):=by
 refine ⟨a,p.take (C.length - 64 * a) ++ q ++ p.drop (C.length - 64 * a + q.length),bahead_of _ a (by simp;omega) (by simp;omega),?_,by simp;omega,by simp;omega,?_⟩
 ·rw [bparts_append C q a lo]
  exact x
 ·have hl:(C ++ q).length - 64 * a = (C.length - 64 * a) + q.length:=by simp;omega
  rw [hl,List.take_append_of_le_length (by simp;omega),List.take_of_length_le (by simp;omega),eq,List.drop_append_of_le_length lo]
def ButC (g i:Nat) (w w':World):Prop:=w.grownBy w' (some g) ∧ w'.cell? ⟨g,i,none⟩ = w.cell? ⟨g,i,none⟩
theorem ButC.refl (g i:Nat) (w:World):ButC g i w w:=⟨grownBy_refl w _,rfl⟩
theorem ButC.trans (g i:Nat) (a b c:World) (h:ButC g i a b) (k:ButC g i b c):ButC g i a c:=⟨World.grownBy.trans h.1 k.1,by rw [k.2,h.2]⟩
def sliceN (v:Value):Nat:=match v with | .slice _ n _ => n | _ => 0
theorem sliceN_slice (a:Option Addr) (n c:Nat):sliceN (.slice a n c) = n:=rfl
structure WrS (w:World) (g:Nat) (B l:List UInt8) (k:Nat) (a:Option Addr) (n c:Nat) (wr:World):Prop where
 hash:HashIs wr g (B ++ l.take k)
 src:Byt wr a n (l.drop k)
 nil:a = none → c = 0
 own:0 < n → ∀ b o f,a = some ⟨b,o,f⟩ → b ≠ g
 len:n + k = l.length
 le:n ≤ c
 cm:c ≤ maxLen
 grown:w.grownBy wr (some g)
set_option maxHeartbeats 4000000 in
set_option maxRecDepth 100000 in
theorem bwrite_any (g:Nat) (B:List UInt8) (a:Option Addr) (len cap:Nat) (l:List UInt8) (w:World) (hH:HashIs w g B) (hB:Byt w a len l) (hnil:a = none → cap = 0) (hown:0 < len → ∀ b o f,a = some ⟨b,o,f⟩ → b ≠ g) (hlc:len ≤ cap) (hcm:cap ≤ maxLen)
  (hsm:B.length + len ≤ 1000000000) (htab:Tab w) (hg:g ≠ 1 ∧ g ≠ 2) :
  Calls Tryz.prog 94 #[.pointer (some ⟨g,0,none⟩),.slice a len cap] w fun e w' => (∃ v,e = .returned v) ∧ HashIs w' g (B ++ l) ∧ w.grownBy w' (some g):=by
 have hl:l.length = len:=hB.1
 have HTab:Hid (Tab w):=htab
 have HW0:Hid (WrS w g B l 0 a len cap w):=⟨by simpa using hH,hB,hnil,hown,by omega,hlc,hcm,grownBy_refl w _⟩
 clear htab hH hB hnil hown
 go_enter Tryz.func94,Tryz.ntmps94
 go_wp2
 go_loopw [1] (fun v wr => ∃ (k:Nat) (a':Option Addr) (n c:Nat),v = .slice a' n c ∧ Hid (WrS w g B l k a' n c wr)) (fun v _ => sliceN v)
 case atStart => exact ⟨0,a,len,cap,rfl,HW0⟩
 case round =>
  clear HW0
  obtain ⟨k,a',n,c,rfl,hW⟩:=hrel
  have hlen:=hW.out.len
  by_cases hn:0 < n
  ·have hni:(0:Int) < (n:Int):=by omega
   obtain ⟨b,off,rfl⟩:∃ b off,a' = some ⟨b,off,none⟩:=by
    rcases hW.out.src.2 with h | ⟨b,off,e,_⟩
    ·omega
    ·exact ⟨b,off,e⟩
   have hbg:b ≠ g:=hW.out.own hn b off none rfl
   obtain ⟨C,hC⟩:∃ C,B ++ l.take k = C:=⟨_,rfl⟩
   have hCl:C.length = B.length + k:=by rw [← hC];simp;omega
   have hcn:=hW.out.le
   have hcm':c ≤ 9223372036854775807:=by have:=hW.out.cm;unfold maxLen at this;exact this
   have hH:=hW.out.hash
   rw [hC] at hH
   obtain ⟨q,p,hq,hX⟩:=hH
   have HC:Hid (B ++ l.take k = C):=hC
   obtain ⟨h,hh⟩:∃ h,C.length - 64 * q = h:=⟨_,rfl⟩
   have hlo:=hX.lo
   have hhi:=hX.hi
   have hp64:=hX.hs.p64
   obtain ⟨ch,fh⟩:=hX.hs.held
   rw [hh] at ch
   clear hC hq
   by_cases hf:h = 64
   ·have hfi:(h:Int) = 64:=by omega
    have hS:=hX.hs
    rw [hh] at hS
    obtain ⟨M,hM⟩:∃ M,bpart (bparts C q) p C.length false = M:=⟨_,rfl⟩
    have HM':Hid (M = bparts C (q + 1)):=by rw [← hM];exact full_made C p q hp64 (by omega) hX.eq
    have hMl:M.length = 8:=by rw [← hM,bpart_length]
    have HM:Hid (bpart (bparts C q) p C.length false = M):=hM
    obtain ⟨mm,hmm⟩:∃ mm,bparts C q = mm:=⟨_,rfl⟩
    rw [hmm] at hS HM
    have hmml:mm.length = 8:=hS.m8
    obtain ⟨T,hT⟩:∃ T,C.length = T:=⟨_,rfl⟩
    rw [hT] at hS HM
    have HS:Hid (Hs wr g mm T p h):=hS
    have HT:Hid (C.length = T):=hT
    have hTl:T < 18446744073709551616:=by omega
    have hCq:Hid (C.length = 64 * q + 64):=by show _ = _;omega
    clear hmm hT
    have IM:Hid ((Tryz.prog.info? 161).map (·.size) = some (mm.map uv).length):=by
     have e1:(Tryz.prog.info? 161).map (·.size) = some 8:=by kernel_rfl
     show _ = _
     rw [e1];simp [hmml]
    have IP:Hid ((Tryz.prog.info? 163).map (·.size) = some (p.map bv).length):=by
     have e1:(Tryz.prog.info? 163).map (·.size) = some 64:=by kernel_rfl
     show _ = _
     rw [e1];simp [hp64]
    have HSrc:=hid_up hW.out.src
    have HGr:=hid_up hW.out.grown
    have HCm:=hid_up hW.out.cm
    have HXe:=hid_up hX.eq
    clear hX hS hW hM
    go_wp2
    obtain ⟨W,hWd⟩:∃ W,wr.drew = W:=⟨_,rfl⟩
    have HWd:Hid (wr.drew = W):=hWd
    have hdr:Below wr.heap.size wr W:=by rw [← hWd];exact (Below.refl _ _).drew
    have HSW:Hid (Hs W g mm T p h):=HS.out.later hdr
    have HTW:Hid (Tab W):=(HTab.out.but HGr.out hg).later hdr
    have HBw:Hid (wr.grownBy W (some g)):=But.below g hdr
    clear hWd hdr
    refine wp_region_last (G:=Grows) (by kernel_rfl) Grows.refl Grows.trans (by kernel_rfl) [(0,true),(1,true),(2,true),(3,true),(4,true),(5,true),(6,true),(7,true),(8,true),(9,true),(10,true),(11,true),(12,true),(13,false),(14,true),(15,true)] 16 _ rfl ((Array.replicate 17 false).mapIdx fun i _ => i < 16) rfl (by kernel_rfl) (by kernel_rfl) (by kernel_rfl) (by kernel_rfl) ?_
    intro KK hKK
    rw [HWd.out]
    iterate 4 (refine sched_take rfl (by rfl) (v:=?_) ?_ ?_;rotate_left;(intro w' hw';clear hw';go_simp;with_reducible rfl);go_simp)
    refine sched_take rfl (by rfl) (v:=.agg (mm.map uv).toArray) (fun w' hw' => exec_load_part 161 _ rfl g 0 rfl (mm.map uv) _ (HSW.out.later hw').made Tryz.underlying161 rfl IM.out) ?_
    go_simp
    iterate 3 (refine sched_take rfl (by rfl) (v:=?_) ?_ ?_;rotate_left;(intro w' hw';clear hw';go_simp;with_reducible rfl);go_simp)
    refine sched_take rfl (by rfl) (v:=.agg (p.map bv).toArray) (fun w' hw' => exec_load_part 163 _ rfl g 9 rfl (p.map bv) _ (HSW.out.later hw').last Tryz.underlying163 rfl IP.out) ?_
    go_simp
    iterate 4 (refine sched_take rfl (by rfl) (v:=?_) ?_ ?_;rotate_left;(intro w' hw';have ct:=(HSW.out.later hw').told.1;clear hw';go_simp;with_reducible rfl);go_simp)
    refine sched_call (f:=121) (args:=#[.agg (mm.map uv).toArray,.agg (p.map bv).toArray,.int .u64 (T:Int),.bool false]) rfl (by rfl) (by go_simp) ?_
    refine (bwith_any mm p T false W hmml hp64 HTW.out hTl).mono ?_
    rintro e w8 ⟨rfl,hb8⟩
    refine ⟨_,rfl,hb8,?_⟩
    rw [HM.out]
    obtain ⟨hst,hS8⟩:=(HSW.out.later hb8).putMade M hMl
    obtain ⟨W9,hW9⟩:∃ W9,w8.setRow g (hashV M T p h).toArray = W9:=⟨_,rfl⟩
    rw [hW9] at hst hS8
    have HB9:Hid (wr.grownBy W9 (some g)):=by
     rw [← hW9]
     exact (World.grownBy.trans HBw.out (But.below g hb8)).trans (But.setRow w8 g _)
    have HS9:Hid (Hs W9 g M T p h):=hS8
    clear hS8 hW9 hb8 HSW HTW HBw HWd
    go_simp
    iterate 2 (refine sched_take rfl (by rfl) (v:=?_) ?_ ?_;rotate_left;(intro w' hw';clear hw';go_simp;with_reducible rfl);go_simp)
    refine hKK.out _ _ W9 (by rfl) (by go_simp) ?_
    clear hst
    go_simp
    clear ch fh
    obtain ⟨ch9,fh9⟩:=HS9.out.held
    obtain ⟨Wz,hWz⟩:∃ Wz,W9.setCell ⟨g,73,none⟩ (.int .i64 0) = Wz:=⟨_,rfl⟩
    have HSz:Hid (Hs Wz g M T p 0):=by rw [← hWz];exact HS9.out.setHeld 0
    have HBz:Hid (wr.grownBy Wz (some g)):=by rw [← hWz];exact HB9.out.trans (But.setCell W9 g 73 _)
    have HWz:Hid (W9.setCell ⟨g,73,none⟩ (.int .i64 0) = Wz):=hWz
    clear hWz
    go_wp2
    rw [HWz.out]
    have hCq':=hCq.out
    clear ch9 fh9 HWz HS9 HB9 HS
    have HNow:Hid (Hs Wz g (bparts C (q + 1)) C.length p 0):=by rw [HT.out,← HM'.out];exact HSz.out
    have hlo':64 * (q + 1) ≤ C.length:=by omega
    have hh':C.length - 64 * (q + 1) = 0:=by omega
    have HEq:Hid (p.take (C.length - 64 * (q + 1)) = C.drop (64 * (q + 1))):=by
     show _ = _
     rw [hh',List.take_zero,List.drop_eq_nil_of_le (by omega)]
    have hhl:0 < 64:=by omega
    have HSrcZ:Hid (Byt Wz (some ⟨b,off,none⟩) n (l.drop k)):=HSrc.out.but HBz.out hbg
    have HGrZ:Hid (w.grownBy Wz (some g)):=HGr.out.trans HBz.out
    clear HSz HBz HM HM' hMl hmml IM IP HXe HSrc HGr hlo hhi hfi hf hh HT hCq
    obtain ⟨m,hm⟩:∃ m,min (64 - 0) n = m:=⟨_,rfl⟩
    have hm0:0 < m:=by omega
    have hm1:0 + m ≤ 64:=by omega
    have hm2:m ≤ n:=by omega
    have hm3:Nat.min n (64 - 0) = m:=by rw [← hm];exact Nat.min_comm _ _
    obtain ⟨Q,hQ⟩:∃ Q,(l.drop k).take m = Q:=⟨_,rfl⟩
    have hQl:Q.length = m:=by rw [← hQ];simp;omega
    obtain ⟨W,hWd⟩:∃ W,Wz.drew = W:=⟨_,rfl⟩
    have HWd:Hid (Wz.drew = W):=hWd
    have hdr:Wz.grownBy W (some g):=by rw [← hWd];exact grownBy_drew _ _
    have HSW:Hid (Hs W g (bparts C (q + 1)) C.length p 0):=by rw [← hWd];exact ⟨HNow.out.row,HNow.out.m8,HNow.out.p64⟩
    have HSrcW:Hid (Byt W (some ⟨b,off,none⟩) n (l.drop k)):=HSrcZ.out.but hdr hbg
    have HGrW:Hid (w.grownBy W (some g)):=HGrZ.out.trans hdr
    have hheld:∀ w',ButC g 73 W w' → w'.cell? ⟨g,73,none⟩ = some (.int .i64 ((0:Nat):Int)):=fun w' hw' => by rw [hw'.2];exact HSW.out.held.1
    obtain ⟨eP,hSP⟩:=HSW.out.putLast Q (by omega)
    have hcp:=run_copy_row Tryz.prog W 22 22 3 5 g (9 + 0) (64 - 0) (64 - 0) ⟨b,off,none⟩ n c _ _ (Q.map bv) Tryz.underlying22 Tryz.info1U8 HSW.out.row
     (by rw [List.length_map,hQl];exact hm3.symm) (fun j v hj => (HSrcW.out.cut hm2).cells _ rfl j v (by rw [hQ];exact hj)) (by simp [hashV,HSW.out.m8,HSW.out.p64,hQl];omega) (bv_oneCell _)
    rw [eP] at hcp
    rw [List.length_map,hQl] at hcp
    rw [hQl] at hSP
    obtain ⟨P1,hP1⟩:∃ P1,p.take 0 ++ Q ++ p.drop (0 + m) = P1:=⟨_,rfl⟩
    rw [hP1] at hSP
    rw [hP1] at hcp
    obtain ⟨W1,hW1⟩:∃ W1,W.setRow g (hashV (bparts C (q + 1)) C.length P1 0).toArray = W1:=⟨_,rfl⟩
    rw [hW1] at hcp hSP
    have HG1:Hid (ButC g 73 W W1):=⟨by rw [← hW1];exact But.setRow W g _,by rw [hSP.held.1,HSW.out.held.1]⟩
    have HS1:Hid (Hs W1 g (bparts C (q + 1)) C.length P1 0):=hSP
    obtain ⟨T,hT⟩:∃ T,C.length = T:=⟨_,rfl⟩
    obtain ⟨h2,hh2⟩:∃ h2,0 + m = h2:=⟨_,rfl⟩
    obtain ⟨t2,ht2⟩:∃ t2,T + m = t2:=⟨_,rfl⟩
    have s1:((0:Nat):Int) ≤ 64:=by omega
    have s1':((0:Nat):Int) < 64:=by omega
    have s2:¬ 64 = 0:=by omega
    have s3:¬ 64 ≤ 0:=by omega
    simp only [Nat.add_zero,Nat.sub_zero] at hcp
    clear hdr hWd hSP eP hW1 HNow
    refine wp_region_sched' (G:=ButC g 73) (by kernel_rfl) (ButC.refl g 73) (ButC.trans g 73) (by kernel_rfl) [(0,true),(1,true),(2,true),(3,true),(4,true),(5,true),(6,true),(7,true),(8,true),(9,false),(10,true)] rfl (by kernel_rfl) ?_
    intro KQ hKQ
    rw [HWd.out]
    iterate 9 (refine sched_take rfl (by rfl) (v:=?_) ?_ ?_;rotate_left;(intro w' hw';have q1:=hheld w' hw';clear hw';go_simp;with_reducible rfl);go_simp)
    refine sched_val (w':=W1) (v:=goInt m) rfl (by rfl) (by go_simp) HG1.out ?_
    clear hcp hheld
    go_simp
    iterate 1 (refine sched_take rfl (by rfl) (v:=?_) ?_ ?_;rotate_left;(intro w' hw';clear hw';go_simp;with_reducible rfl);go_simp)
    refine sched_done hKQ ?_
    have HG2:Hid (w.grownBy W1 (some g)):=HGrW.out.trans HG1.out.1
    have HSrc1:Hid (Byt W1 (some ⟨b,off,none⟩) n (l.drop k)):=HSrcW.out.but HG1.out.1 hbg
    clear HG1 HGrW HSrcW HSW HWd
    obtain ⟨c1,f1⟩:=HS1.out.held
    obtain ⟨c2,f2⟩:=HS1.out.told
    have HS2:=HS1.out.setHeld h2
    obtain ⟨W2,hW2⟩:∃ W2,W1.setCell ⟨g,73,none⟩ (.int .i64 (h2:Int)) = W2:=⟨_,rfl⟩
    rw [hW2] at HS2
    have HS3:=HS2.setTold t2
    obtain ⟨W3,hW3⟩:∃ W3,W2.setCell ⟨g,8,none⟩ (.int .u64 (t2:Int)) = W3:=⟨_,rfl⟩
    rw [hW3] at HS3
    have hG3:W1.grownBy W3 (some g):=by rw [← hW3,← hW2];exact World.grownBy.trans (But.setCell W1 g 73 _) (But.setCell _ g 8 _)
    have HFin:Hid (HashIs W3 g (C ++ Q)):=by
     refine more_held (p:=p) hlo' HEq.out hp64 (by omega) (by omega) ?_
     have x1:(C ++ Q).length = t2:=by rw [List.length_append,hQl,hT];exact ht2
     have x2:t2 - 64 * (q + 1) = h2:=by omega
     rw [x1,x2,hh',hQl,hP1]
     exact HS3
    have HTk:Hid (B ++ l.take (k + m) = C ++ Q):=by
     show _ = _
     rw [← HC.out,← hQ,List.append_assoc,← List.take_add]
    have HG4:Hid (w.grownBy W3 (some g)):=HG2.out.trans hG3
    have HSrc3:Hid (Byt W3 (some ⟨b,off,none⟩) n (l.drop k)):=HSrc1.out.but hG3 hbg
    have HWW:Hid ((W1.setCell ⟨g,73,none⟩ (.int .i64 (h2:Int))).setCell ⟨g,8,none⟩ (.int .u64 (t2:Int)) = W3):=by rw [hW2,hW3];exact rfl
    rw [hT] at c2
    obtain rfl:m = h2:=by omega
    have n2:(T:Int) + (m:Int) = (t2:Int):=by omega
    have n3:(m:Int) ≤ (n:Int):=by omega
    have n6:IntKind.u64.wrap (t2:Int) = (t2:Int):=by rw [IntKind.wrap_u64];omega
    have n4:(m:Int) ≤ (c:Int):=by omega
    have n5:(m:Int) ≤ 9223372036854775807:=by omega
    clear HS1 HS2 HS3 hG3 hW2 hW3 HG2 HSrc1 HSrcZ HGrZ hQ hP1 hT hm hm3 hQl hh2 ht2 HEq HC
    by_cases hcm2:c = m
    ·subst hcm2
     have hnc:n = c:=by omega
     go_wp2
     rw [HWW.out]
     refine ⟨⟨k + c,some ⟨b,off,none⟩,0,0,rfl,⟨by rw [HTk.out];exact HFin.out,⟨by simp;omega,.inl rfl⟩,(fun e => by cases e),(fun h0 => absurd h0 (Nat.lt_irrefl 0)),by omega,Nat.le_refl _,Nat.zero_le _,HG4.out⟩⟩,?_⟩
     rw [sliceN_slice,sliceN_slice]
     exact hn
    ·go_wp2
     rw [HWW.out]
     refine ⟨⟨k + m,some ⟨b,off + m,none⟩,n - m,c - m,rfl,⟨by rw [HTk.out];exact HFin.out,?_,(fun e => by cases e),(fun _ b' o' f' e => by cases e;exact hbg),by omega,by omega,Nat.le_trans (Nat.sub_le _ _) HCm.out,HG4.out⟩⟩,?_⟩
     ·have:=HSrc3.out.sub (n:=m) (q:=n) hm2 (Nat.le_refl _)
      rw [List.drop_drop,List.take_of_length_le (by simp;omega)] at this
      exact this
     ·rw [sliceN_slice,sliceN_slice]
      omega
   ·have hfi:¬ (h:Int) = 64:=by omega
    have HNow:Hid (Hs wr g (bparts C q) C.length p h):=by have:=hX.hs;rw [hh] at this;exact this
    have HEq:Hid (p.take (C.length - 64 * q) = C.drop (64 * q)):=hX.eq
    have HSrcZ:Hid (Byt wr (some ⟨b,off,none⟩) n (l.drop k)):=hW.out.src
    have HGrZ:Hid (w.grownBy wr (some g)):=hW.out.grown
    have HCm:=hid_up hW.out.cm
    have hhl:h < 64:=by omega
    clear hX hW
    go_wp2
    clear ch fh hfi
    obtain ⟨m,hm⟩:∃ m,min (64 - h) n = m:=⟨_,rfl⟩
    have hm0:0 < m:=by omega
    have hm1:h + m ≤ 64:=by omega
    have hm2:m ≤ n:=by omega
    have hm3:Nat.min n (64 - h) = m:=by rw [← hm];exact Nat.min_comm _ _
    obtain ⟨Q,hQ⟩:∃ Q,(l.drop k).take m = Q:=⟨_,rfl⟩
    have hQl:Q.length = m:=by rw [← hQ];simp;omega
    obtain ⟨W,hWd⟩:∃ W,wr.drew = W:=⟨_,rfl⟩
    have HWd:Hid (wr.drew = W):=hWd
    have hdr:wr.grownBy W (some g):=by rw [← hWd];exact grownBy_drew _ _
    have HSW:Hid (Hs W g (bparts C q) C.length p h):=by rw [← hWd];exact ⟨HNow.out.row,HNow.out.m8,HNow.out.p64⟩
    have HSrcW:Hid (Byt W (some ⟨b,off,none⟩) n (l.drop k)):=HSrcZ.out.but hdr hbg
    have HGrW:Hid (w.grownBy W (some g)):=HGrZ.out.trans hdr
    have hheld:∀ w',ButC g 73 W w' → w'.cell? ⟨g,73,none⟩ = some (.int .i64 (h:Int)):=fun w' hw' => by rw [hw'.2];exact HSW.out.held.1
    obtain ⟨eP,hSP⟩:=HSW.out.putLast Q (by omega)
    have hcp:=run_copy_row Tryz.prog W 22 22 3 5 g (9 + h) (64 - h) (64 - h) ⟨b,off,none⟩ n c _ _ (Q.map bv) Tryz.underlying22 Tryz.info1U8 HSW.out.row
     (by rw [List.length_map,hQl];exact hm3.symm) (fun j v hj => (HSrcW.out.cut hm2).cells _ rfl j v (by rw [hQ];exact hj)) (by simp [hashV,HSW.out.m8,HSW.out.p64,hQl];omega) (bv_oneCell _)
    rw [eP] at hcp
    rw [List.length_map,hQl] at hcp
    rw [hQl] at hSP
    obtain ⟨P1,hP1⟩:∃ P1,p.take h ++ Q ++ p.drop (h + m) = P1:=⟨_,rfl⟩
    rw [hP1] at hSP
    rw [hP1] at hcp
    obtain ⟨W1,hW1⟩:∃ W1,W.setRow g (hashV (bparts C q) C.length P1 h).toArray = W1:=⟨_,rfl⟩
    rw [hW1] at hcp hSP
    have HG1:Hid (ButC g 73 W W1):=⟨by rw [← hW1];exact But.setRow W g _,by rw [hSP.held.1,HSW.out.held.1]⟩
    have HS1:Hid (Hs W1 g (bparts C q) C.length P1 h):=hSP
    obtain ⟨T,hT⟩:∃ T,C.length = T:=⟨_,rfl⟩
    obtain ⟨h2,hh2⟩:∃ h2,h + m = h2:=⟨_,rfl⟩
    obtain ⟨t2,ht2⟩:∃ t2,T + m = t2:=⟨_,rfl⟩
    have s1:(h:Int) ≤ 64:=by omega
    have s1':(h:Int) < 64:=by omega
    have s2:¬ 64 = h:=by omega
    have s3:¬ 64 ≤ h:=by omega
    clear hdr hWd hSP eP hW1 HNow
    refine wp_region_sched' (G:=ButC g 73) (by kernel_rfl) (ButC.refl g 73) (ButC.trans g 73) (by kernel_rfl) [(0,true),(1,true),(2,true),(3,true),(4,true),(5,true),(6,true),(7,true),(8,true),(9,false),(10,true)] rfl (by kernel_rfl) ?_
    intro KQ hKQ
    rw [HWd.out]
    iterate 9 (refine sched_take rfl (by rfl) (v:=?_) ?_ ?_;rotate_left;(intro w' hw';have q1:=hheld w' hw';clear hw';go_simp;with_reducible rfl);go_simp)
    refine sched_val (w':=W1) (v:=goInt m) rfl (by rfl) (by go_simp) HG1.out ?_
    clear hcp hheld
    go_simp
    iterate 1 (refine sched_take rfl (by rfl) (v:=?_) ?_ ?_;rotate_left;(intro w' hw';clear hw';go_simp;with_reducible rfl);go_simp)
    refine sched_done hKQ ?_
    have HG2:Hid (w.grownBy W1 (some g)):=HGrW.out.trans HG1.out.1
    have HSrc1:Hid (Byt W1 (some ⟨b,off,none⟩) n (l.drop k)):=HSrcW.out.but HG1.out.1 hbg
    clear HG1 HGrW HSrcW HSW HWd
    obtain ⟨c1,f1⟩:=HS1.out.held
    obtain ⟨c2,f2⟩:=HS1.out.told
    have HS2:=HS1.out.setHeld h2
    obtain ⟨W2,hW2⟩:∃ W2,W1.setCell ⟨g,73,none⟩ (.int .i64 (h2:Int)) = W2:=⟨_,rfl⟩
    rw [hW2] at HS2
    have HS3:=HS2.setTold t2
    obtain ⟨W3,hW3⟩:∃ W3,W2.setCell ⟨g,8,none⟩ (.int .u64 (t2:Int)) = W3:=⟨_,rfl⟩
    rw [hW3] at HS3
    have hG3:W1.grownBy W3 (some g):=by rw [← hW3,← hW2];exact World.grownBy.trans (But.setCell W1 g 73 _) (But.setCell _ g 8 _)
    have HFin:Hid (HashIs W3 g (C ++ Q)):=by
     refine more_held (p:=p) hlo HEq.out hp64 (by omega) (by omega) ?_
     have x1:(C ++ Q).length = t2:=by rw [List.length_append,hQl,hT];exact ht2
     have x2:t2 - 64 * q = h2:=by omega
     rw [x1,x2,hh,hQl,hP1]
     exact HS3
    have HTk:Hid (B ++ l.take (k + m) = C ++ Q):=by
     show _ = _
     rw [← HC.out,← hQ,List.append_assoc,← List.take_add]
    have HG4:Hid (w.grownBy W3 (some g)):=HG2.out.trans hG3
    have HSrc3:Hid (Byt W3 (some ⟨b,off,none⟩) n (l.drop k)):=HSrc1.out.but hG3 hbg
    have HWW:Hid ((W1.setCell ⟨g,73,none⟩ (.int .i64 (h2:Int))).setCell ⟨g,8,none⟩ (.int .u64 (t2:Int)) = W3):=by rw [hW2,hW3];exact rfl
    rw [hT] at c2
    have n1:(h:Int) + (m:Int) = (h2:Int):=by omega
    have n2:(T:Int) + (m:Int) = (t2:Int):=by omega
    have n3:(m:Int) ≤ (n:Int):=by omega
    have n6:IntKind.u64.wrap (t2:Int) = (t2:Int):=by rw [IntKind.wrap_u64];omega
    have n4:(m:Int) ≤ (c:Int):=by omega
    have n5:(m:Int) ≤ 9223372036854775807:=by omega
    clear HS1 HS2 HS3 hG3 hW2 hW3 HG2 HSrc1 HSrcZ HGrZ hQ hP1 hT hm hm3 hQl hh2 ht2 HEq HC
    by_cases hcm2:c = m
    ·subst hcm2
     have hnc:n = c:=by omega
     go_wp2
     rw [HWW.out]
     refine ⟨⟨k + c,some ⟨b,off,none⟩,0,0,rfl,⟨by rw [HTk.out];exact HFin.out,⟨by simp;omega,.inl rfl⟩,(fun e => by cases e),(fun h0 => absurd h0 (Nat.lt_irrefl 0)),by omega,Nat.le_refl _,Nat.zero_le _,HG4.out⟩⟩,?_⟩
     rw [sliceN_slice,sliceN_slice]
     exact hn
    ·go_wp2
     rw [HWW.out]
     refine ⟨⟨k + m,some ⟨b,off + m,none⟩,n - m,c - m,rfl,⟨by rw [HTk.out];exact HFin.out,?_,(fun e => by cases e),(fun _ b' o' f' e => by cases e;exact hbg),by omega,by omega,Nat.le_trans (Nat.sub_le _ _) HCm.out,HG4.out⟩⟩,?_⟩
     ·have:=HSrc3.out.sub (n:=m) (q:=n) hm2 (Nat.le_refl _)
      rw [List.drop_drop,List.take_of_length_le (by simp;omega)] at this
      exact this
     ·rw [sliceN_slice,sliceN_slice]
      omega
  ·have hn0:n = 0:=by omega
   have hni:¬ (0:Int) < (n:Int):=by omega
   have HF:Hid (HashIs wr g (B ++ l)):=by
    have:=hW.out.hash
    rw [List.take_of_length_le (by omega)] at this
    exact this
   have HG:Hid (w.grownBy wr (some g)):=hW.out.grown
   clear hW
   go_wp2
   go_end0
   exact ⟨⟨_,rfl⟩,HF.out,HG.out⟩
def zero64B:List UInt8:=List.replicate 64 0
theorem hash_built (S:List (BitVec 32)) (hS:S.length = 8):Tryz.prog.built 165 [(0,.agg (S.map uv).toArray)] = some (hashV S 0 zero64B 0).toArray:=by
 have h:∀ parts,Tryz.prog.built 165 parts = Instr.fill (#[(0,8),(8,1),(9,64),(73,1)][·]?) (hashV (List.replicate 8 0#32) 0 zero64B 0).toArray parts:=fun parts => by kernel_rfl
 obtain ⟨Z,hZ⟩:∃ Z,List.replicate 8 0#32 = Z:=⟨_,rfl⟩
 have hZl:Z.length = 8:=by rw [← hZ,List.length_replicate]
 rw [h,hZ,fill_part _ _ 0 0 (S.map uv) _ (by simp [hS]) (by simp [hashV,hZl,hS])]
 simp only [Instr.fill,List.take_zero,List.nil_append,List.length_map,hS,Nat.zero_add]
 congr 2
 simp [hashV,hZl]
theorem wpList_hash (S:List (BitVec 32)) (hS:S.length = 8) {ops:Array Oper} {rest:List Oper} {o:Oper} {a:Act} {w:World} {Q:Exit → Act → World → Prop} (hg:o.guard = none) (x:Operand) (ho:o.op = .build 165 #[(0,x)])
  (hx:a.eval x = .agg (S.map uv).toArray)
  (h:wpList Tryz.prog ops Q rest (a.put o.dst (.agg (hashV S 0 zero64B 0).toArray)) w):wpList Tryz.prog ops Q (o :: rest) a w:=
 wpList_buildTo hg _ _ ho _ rfl (hashV S 0 zero64B 0).toArray (by simp [hx,hash_built S hS]) h
set_option maxHeartbeats 1000000 in
set_option maxRecDepth 100000 in
theorem bnew_any (w:World) (htab:Tab w) :
  Calls Tryz.prog 93 #[] w fun e w' => ∃ g,e = .returned (.pointer (some ⟨g,0,none⟩)) ∧ w.heap.size ≤ g ∧ HashIs w' g [] ∧ Below w.heap.size w w':=by
 obtain ⟨I,hI⟩:∃ I,ivB = I:=⟨_,rfl⟩
 have hIl:I.length = 8:=by rw [← hI];rfl
 obtain ⟨S,hS⟩:∃ S,bstart = S:=⟨_,rfl⟩
 have hSl:S.length = 8:=by rw [← hS];rfl
 have HSI:Hid (S = I.set 0 0x6b08e647#32):=by rw [← hS,← hI];exact rfl
 have HS:Hid (bstart = S):=hS
 have HTab:Hid (∃ t fr,w.heap[1]? = some (.cells (I.map uv).toArray t fr)):=by rw [← hI];exact htab.iv
 clear hI hS htab
 obtain ⟨t,fr,hrow⟩:=HTab.out
 have HRow:Hid (w.heap[1]? = some (.cells (I.map uv).toArray t fr)):=hrow
 have II:Hid ((Tryz.prog.info? 160).map (·.size) = some (I.map uv).toArray.size):=info_words (n:=8) (by kernel_rfl) I hIl
 have IS:Hid ((Tryz.prog.info? 161).map (·.size) = some (S.map uv).toArray.size):=info_words (n:=8) (by kernel_rfl) S hSl
 have hst:=run_store_new w 161 (I.map uv) 8 (by simp [hIl]) (by kernel_rfl) (uv_oneCell I)
 have hw1:=(Wd.new w 161 I).word 0 (by omega)
 have hMS:(I.map uv).set 0 (.int .u32 1795745351) = S.map uv:=by
  have h:=HSI.out
  rw [h,List.map_set]
  rfl
 obtain ⟨c1,f1⟩:=hw1
 have HW2:Hid (Wd (w.alloc (.cells ((I.map uv).set 0 (.int .u32 1795745351)).toArray 161)) w.heap.size 161 S):=by rw [hMS];exact Wd.new w _ S
 have HMS:Hid ((I.map uv).set 0 (.int .u32 1795745351) = S.map uv):=hMS
 clear hrow HTab hMS
 go_enter Tryz.func93,Tryz.ntmps93
 go_wp2_with (first | refine wpList_load_row rfl 160 _ rfl 1 rfl t _ fr _ HRow.out Tryz.underlying160 rfl II.out ?_ | refine wpList_load_row rfl 161 _ rfl w.heap.size rfl 161 _ (0,0) _ HW2.out Tryz.underlying161 rfl IS.out ?_ | refine wpList_hash S hSl rfl _ rfl rfl ?_)
 go_ret
 refine ⟨w.heap.size + 1,rfl,by omega,⟨0,zero64B,rfl,?_,Nat.le_refl _,by simp,by simp⟩,((Below.refl _ _).alloc (Nat.le_refl _) _).alloc (by simp) _⟩
 refine ⟨?_,by have e:bparts [] 0 = S:=HS.out;rw [e];exact hSl,by simp [zero64B]⟩
 have h2:=heap_alloc_new (w.alloc (.cells ((I.map uv).set 0 (.int .u32 1795745351)).toArray 161)) (.cells (hashV S 0 zero64B 0).toArray 165)
 rw [World.size_alloc] at h2
 have e:bparts [] 0 = S:=HS.out
 rw [e]
 exact h2
theorem run_clear_row {P:Program} (w:World) (t e ty:TypeId) (z:Value) (ht:P.underlying t = some (.slice e)) (hv:∀ w,(zeroValue e).run P w = .ok z w) (hz:z.cells = #[z]) (h1:z.oneCell' = true) (b o n c:Nat) (hn:0 < n)
  (cur:Array Value) (et:TypeId) (hg:w.heap[b]? = some (.cells cur et (0,0))) (hfit:o + n ≤ cur.size) :
  (Builtin.clear_ #[t] ty #[.slice (some ⟨b,o,none⟩) n c]).run P w = .ok (.tuple #[]) (w.setRow b (cur.toList.take o ++ List.replicate n z ++ cur.toList.drop (o + n)).toArray):=by
 have hzc:(Builtin.zeroCells z.cells n).toList = List.replicate n z:=by
  rw [hz]
  simp [Builtin.zeroCells]
  apply List.ext_getElem
  ·simp
  ·intro i h1 h2
   simp [Nat.mod_one]
 have hst:=run_storeCells_part (P:=P) b o et (List.replicate n z) 0 cur w hg (by simpa using hfit) (by intro v hv';rw [List.eq_of_mem_replicate hv'];exact h1)
 simp only [Nat.add_zero,List.length_replicate] at hst
 obtain ⟨m,rfl⟩:∃ m,n = m + 1:=⟨n - 1,by omega⟩
 simp [Builtin.clear_,run_underlying ht,hv,hzc,hst]
theorem blast_of (C p:List UInt8) (a:Nat) (ha:bahead C.length = a) (hlo:64 * a ≤ C.length) (eq:p.take (C.length - 64 * a) = C.drop (64 * a)):p.take (C.length - 64 * a) ++ List.replicate (64 - (C.length - 64 * a)) 0 = blast C:=by
 unfold blast
 rw [ha,eq]
structure Sh (w:World) (g:Nat) (m:List (BitVec 32)) (t:Nat) (p:List UInt8) (h:Nat) (q:List UInt8) (W:World):Prop where
 hs:Hs W g m t p h
 res:W.heap[w.heap.size]? = some (.cells zero32B 24 (0,0))
 last:Arr W (w.heap.size + 1) 163 q
 bel:Below w.heap.size w W
theorem Sh.later {w W W':World} {g:Nat} {m:List (BitVec 32)} {t:Nat} {p:List UInt8} {h:Nat} {q:List UInt8} (x:Sh w g m t p h q W) (hb:Below W.heap.size W W'):Sh w g m t p h q W':=
 ⟨x.hs.later hb,by rw [hb.block _ (Array.getElem?_eq_some_iff.1 x.res).1];exact x.res,x.last.later hb,x.bel.trans (hb.mono x.bel.size)⟩
set_option maxHeartbeats 2000000 in
set_option maxRecDepth 100000 in
theorem bhsum_any (g:Nat) (C:List UInt8) (w:World) (hH:HashIs w g C) (hsm:C.length ≤ 1000000000) (htab:Tab w) :
  Calls Tryz.prog 95 #[.pointer (some ⟨g,0,none⟩)] w fun e w' => e = .returned (.agg ((blakeB C).map bv).toArray) ∧ Below w.heap.size w w':=by
 obtain ⟨a,p,ha,hX⟩:=hH
 obtain ⟨h,hh⟩:∃ h,C.length - 64 * a = h:=⟨_,rfl⟩
 have hlo:=hX.lo
 have hhi:=hX.hi
 have hp64:=hX.hs.p64
 have hS:=hX.hs
 have hL:=blast_of C p a ha hlo hX.eq
 rw [hh] at hS hL
 obtain ⟨T,hT⟩:∃ T,C.length = T:=⟨_,rfl⟩
 obtain ⟨mm,hmm⟩:∃ mm,bparts C a = mm:=⟨_,rfl⟩
 rw [hT,hmm] at hS
 obtain ⟨L,hLL⟩:∃ L,blast C = L:=⟨_,rfl⟩
 rw [hLL] at hL
 have hLl:L.length = 64:=by rw [← hLL,blast_length]
 have HR:Hid (blakeB C = wordsB (bpart mm L T true)):=by
  show _ = _
  rw [blakeB,ha,hmm,hLL,hT]
 have hh64:h ≤ 64:=by omega
 have hTl:T < 18446744073709551616:=by omega
 have HTab:Hid (Tab w):=htab
 have hgl:=hS.lt
 have HS:Hid (Hs w g mm T p h):=hS
 have HL:Hid (p.take h ++ List.replicate (64 - h) 0 = L):=hL
 have hmml:=hS.m8
 have IM:Hid ((Tryz.prog.info? 161).map (·.size) = some (mm.map uv).length):=by
  have e1:(Tryz.prog.info? 161).map (·.size) = some 8:=by kernel_rfl
  show _ = _
  rw [e1];simp [hmml]
 have IP:Hid ((Tryz.prog.info? 163).map (·.size) = some (p.map bv).length):=by
  have e1:(Tryz.prog.info? 163).map (·.size) = some 64:=by kernel_rfl
  show _ = _
  rw [e1];simp [hp64]
 have IL:Hid ((Tryz.prog.info? 163).map (·.size) = some (L.map bv).toArray.size):=info_size (n:=64) (by kernel_rfl) L hLl
 obtain ⟨R,hR⟩:∃ R,wordsB (bpart mm L T true) = R:=⟨_,rfl⟩
 have hRl:R.length = 32:=by rw [← hR,wordsB_length,bpart_length]
 have HRR:Hid (wordsB (bpart mm L T true) = R):=hR
 have IR:Hid ((Tryz.prog.info? 24).map (·.size) = some (R.map bv).toArray.size):=info_size (n:=32) (by kernel_rfl) R hRl
 have HS1:Hid (Hs (w.alloc (.cells zero32B 24)) g mm T p h):=HS.out.later ((Below.refl _ _).alloc (Nat.le_refl _) _)
 have hst:=run_store_arr (w.alloc (.cells zero32B 24)) 163 p 64 hp64 (by kernel_rfl)
 rw [World.size_alloc] at hst
 have hb2:Below w.heap.size w ((w.alloc (.cells zero32B 24)).alloc (.cells (p.map bv).toArray 163)):=((Below.refl _ _).alloc (Nat.le_refl _) _).alloc (by simp) _
 have hX2:Sh w g mm T p h p ((w.alloc (.cells zero32B 24)).alloc (.cells (p.map bv).toArray 163)):=by
  refine ⟨HS.out.later hb2,?_,?_,hb2⟩
  ·rw [Below.heap_alloc _ _ _ (by simp)];exact heap_alloc_new w _
  ·have:=Arr.new (w.alloc (.cells zero32B 24)) 163 p
   rwa [World.size_alloc] at this
 obtain ⟨W2,hW2⟩:∃ W2,(w.alloc (.cells zero32B 24)).alloc (.cells (p.map bv).toArray 163) = W2:=⟨_,rfl⟩
 rw [hW2] at hX2 hst
 simp only [zero32B,List.replicate] at hst
 have HX2:Hid (Sh w g mm T p h p W2):=hX2
 obtain ⟨ch,_⟩:=hX2.hs.held
 have hhi':(h:Int) ≤ 64:=by omega
 clear hX hS hL hb2 hX2 hW2 hh hT hmm hLL ha htab hlo hhi hR
 go_enter Tryz.func95,Tryz.ntmps95
 by_cases hf:64 = h
 ·have hclr0:(Builtin.clear_ #[22] 0 #[.slice (some ⟨w.heap.size + 1,0,none⟩) 0 0]).run Tryz.prog W2 = .ok (.tuple #[]) W2:=by
   simp [Builtin.clear_,run_underlying Tryz.underlying22]
  have e1:L = p:=by rw [← HL.out,← hf,List.take_of_length_le (by omega)];simp
  obtain ⟨W3,hW3⟩:∃ W3,W2 = W3:=⟨_,rfl⟩
  have HX3:Hid (Sh w g mm T p h L W3):=by rw [← hW3,e1];exact HX2.out
  have hclr:(Builtin.clear_ #[22] 0 #[.slice (some ⟨w.heap.size + 1,0,none⟩) 0 0]).run Tryz.prog W2 = .ok (.tuple #[]) W3:=by rw [hclr0,hW3]
  clear e1 hW3 hclr0
  go_wp2_with (first | refine wpList_load_part rfl 163 _ rfl g 9 rfl (p.map bv) _ HS1.out.last Tryz.underlying163 rfl IP.out ?_)
  clear hst hclr HS1 HX2 ch IP
  obtain ⟨W,hWd⟩:∃ W,W3.drew = W:=⟨_,rfl⟩
  have HWd:Hid (W3.drew = W):=hWd
  have HXW:Hid (Sh w g mm T p h L W):=HX3.out.later (by rw [← hWd];exact (Below.refl _ _).drew)
  have HTW:Hid (Tab W):=HTab.out.below HXW.out.bel HTab.out.lt
  clear hWd HX3
  refine wp_region_last (G:=Grows) (by kernel_rfl) Grows.refl Grows.trans (by kernel_rfl) [(0,true),(1,true),(2,true),(3,true),(4,true),(5,true),(6,true),(7,true),(8,true),(9,false),(10,false)] 11 _ rfl ((Array.replicate 12 false).mapIdx fun i _ => i < 11) rfl (by kernel_rfl) (by kernel_rfl) (by kernel_rfl) (by kernel_rfl) ?_
  intro KK hKK
  rw [HWd.out]
  iterate 3 (refine sched_take rfl (by rfl) (v:=?_) ?_ ?_;rotate_left;(intro w' hw';clear hw';go_simp;with_reducible rfl);go_simp)
  refine sched_take rfl (by rfl) (v:=.agg (mm.map uv).toArray) (fun w' hw' => exec_load_part 161 _ rfl g 0 rfl (mm.map uv) _ (HXW.out.hs.later hw').made Tryz.underlying161 rfl IM.out) ?_
  go_simp
  refine sched_take rfl (by rfl) (v:=.agg (L.map bv).toArray) (fun w' hw' => exec_load_row 163 _ rfl (w.heap.size + 1) rfl 163 _ (0,0) _ (HXW.out.last.later hw') Tryz.underlying163 rfl IL.out) ?_
  go_simp
  iterate 4 (refine sched_take rfl (by rfl) (v:=?_) ?_ ?_;rotate_left;(intro w' hw';have ct:=(HXW.out.hs.later hw').told.1;clear hw';go_simp;with_reducible rfl);go_simp)
  refine sched_call (f:=121) (args:=#[.agg (mm.map uv).toArray,.agg (L.map bv).toArray,.int .u64 (T:Int),.bool true]) rfl (by rfl) (by go_simp) ?_
  refine (bwith_any mm L T true W hmml hLl HTW.out hTl).mono ?_
  rintro e w8 ⟨rfl,hb8⟩
  refine ⟨_,rfl,hb8,?_⟩
  obtain ⟨Z,hZ⟩:∃ Z,bpart mm L T true = Z:=⟨_,rfl⟩
  have hZl:Z.length = 8:=by rw [← hZ,bpart_length]
  rw [hZ]
  have HX8:Hid (Sh w g mm T p h L w8):=HXW.out.later hb8
  have HZR:Hid (wordsB Z = R):=by rw [← hZ];exact HRR.out
  clear HXW HTW hb8 hZ HWd
  go_simp
  refine sched_call (f:=122) (args:=#[.agg (Z.map uv).toArray]) rfl (by rfl) (by go_simp) ?_
  refine (bkey_any Z w8 hZl).mono ?_
  rintro e w9 ⟨rfl,hb9⟩
  refine ⟨_,rfl,hb9,?_⟩
  rw [HZR.out]
  have HX9:=HX8.out.later hb9
  have hst9:=store_row w9 w.heap.size _ _ (R.map bv) HX9.res (by simp [hRl,zero32B]) (bv_oneCell R)
  have hrow:=setRow_heap w9 w.heap.size _ (R.map bv).toArray _ _ HX9.res
  have HBel:Hid (Below w.heap.size w (w9.setRow w.heap.size (R.map bv).toArray)):=below_setRow HX9.bel (Nat.le_refl _) _
  obtain ⟨W4,hW4⟩:∃ W4,w9.setRow w.heap.size (R.map bv).toArray = W4:=⟨_,rfl⟩
  rw [hW4] at hst9 hrow HBel
  have HRow:Hid (W4.heap[w.heap.size]? = some (.cells (R.map bv).toArray 24 (0,0))):=hrow
  clear hrow hW4 HX8 HX9 hb9 HZR
  go_simp
  refine hKK.out _ _ W4 (by rfl) (by go_simp) ?_
  clear hst9
  go_simp
  (try go_wp2)
  (try simp only [Exit.inBlock,Exit.then])
  refine bodyPost_ret (results_cell_row rfl _ _ w.heap.size 24 _ (0,0) _ rfl HRow.out Tryz.underlying24 rfl IR.out) rfl ?_
  exact ⟨by rw [HR.out,HRR.out],HBel.out⟩
 ·have hn:0 < 64 - h:=by omega
  have hclr:=run_clear_row (P:=Tryz.prog) W2 22 5 0 (.int .u8 0) Tryz.underlying22 (fun w => by rfl) rfl rfl (w.heap.size + 1) h (64 - h) (64 - h) hn _ _ HX2.out.last (by simp [hp64];omega)
  have e1:(p.map bv).toArray.toList.take h ++ List.replicate (64 - h) (Value.int .u8 0) ++ (p.map bv).toArray.toList.drop (h + (64 - h)) = L.map bv:=by
   rw [← HL.out,List.map_append,List.map_replicate,List.map_take,show h + (64 - h) = 64 by omega]
   dsimp only
   rw [List.drop_eq_nil_of_le (by simp [hp64]),List.append_nil]
   rfl
  rw [e1] at hclr
  obtain ⟨W3,hW3⟩:∃ W3,W2.setRow (w.heap.size + 1) (L.map bv).toArray = W3:=⟨_,rfl⟩
  have HX3:Hid (Sh w g mm T p h L W3):=by
   rw [← hW3]
   refine ⟨⟨?_,HX2.out.hs.m8,HX2.out.hs.p64⟩,?_,setRow_heap _ _ _ _ _ _ HX2.out.last,below_setRow HX2.out.bel (by omega) _⟩
   ·rw [setRow_other _ _ _ _ (by omega)];exact HX2.out.hs.row
   ·rw [setRow_other _ _ _ _ (by omega)];exact HX2.out.res
  rw [hW3] at hclr
  clear e1 hW3 hn
  go_wp2_with (first | refine wpList_load_part rfl 163 _ rfl g 9 rfl (p.map bv) _ HS1.out.last Tryz.underlying163 rfl IP.out ?_)
  clear hst hclr HS1 HX2 ch IP
  obtain ⟨W,hWd⟩:∃ W,W3.drew = W:=⟨_,rfl⟩
  have HWd:Hid (W3.drew = W):=hWd
  have HXW:Hid (Sh w g mm T p h L W):=HX3.out.later (by rw [← hWd];exact (Below.refl _ _).drew)
  have HTW:Hid (Tab W):=HTab.out.below HXW.out.bel HTab.out.lt
  clear hWd HX3
  refine wp_region_last (G:=Grows) (by kernel_rfl) Grows.refl Grows.trans (by kernel_rfl) [(0,true),(1,true),(2,true),(3,true),(4,true),(5,true),(6,true),(7,true),(8,true),(9,false),(10,false)] 11 _ rfl ((Array.replicate 12 false).mapIdx fun i _ => i < 11) rfl (by kernel_rfl) (by kernel_rfl) (by kernel_rfl) (by kernel_rfl) ?_
  intro KK hKK
  rw [HWd.out]
  iterate 3 (refine sched_take rfl (by rfl) (v:=?_) ?_ ?_;rotate_left;(intro w' hw';clear hw';go_simp;with_reducible rfl);go_simp)
  refine sched_take rfl (by rfl) (v:=.agg (mm.map uv).toArray) (fun w' hw' => exec_load_part 161 _ rfl g 0 rfl (mm.map uv) _ (HXW.out.hs.later hw').made Tryz.underlying161 rfl IM.out) ?_
  go_simp
  refine sched_take rfl (by rfl) (v:=.agg (L.map bv).toArray) (fun w' hw' => exec_load_row 163 _ rfl (w.heap.size + 1) rfl 163 _ (0,0) _ (HXW.out.last.later hw') Tryz.underlying163 rfl IL.out) ?_
  go_simp
  iterate 4 (refine sched_take rfl (by rfl) (v:=?_) ?_ ?_;rotate_left;(intro w' hw';have ct:=(HXW.out.hs.later hw').told.1;clear hw';go_simp;with_reducible rfl);go_simp)
  refine sched_call (f:=121) (args:=#[.agg (mm.map uv).toArray,.agg (L.map bv).toArray,.int .u64 (T:Int),.bool true]) rfl (by rfl) (by go_simp) ?_
  refine (bwith_any mm L T true W hmml hLl HTW.out hTl).mono ?_
  rintro e w8 ⟨rfl,hb8⟩
  refine ⟨_,rfl,hb8,?_⟩
  obtain ⟨Z,hZ⟩:∃ Z,bpart mm L T true = Z:=⟨_,rfl⟩
  have hZl:Z.length = 8:=by rw [← hZ,bpart_length]
  rw [hZ]
  have HX8:Hid (Sh w g mm T p h L w8):=HXW.out.later hb8
  have HZR:Hid (wordsB Z = R):=by rw [← hZ];exact HRR.out
  clear HXW HTW hb8 hZ HWd
  go_simp
  refine sched_call (f:=122) (args:=#[.agg (Z.map uv).toArray]) rfl (by rfl) (by go_simp) ?_
  refine (bkey_any Z w8 hZl).mono ?_
  rintro e w9 ⟨rfl,hb9⟩
  refine ⟨_,rfl,hb9,?_⟩
  rw [HZR.out]
  have HX9:=HX8.out.later hb9
  have hst9:=store_row w9 w.heap.size _ _ (R.map bv) HX9.res (by simp [hRl,zero32B]) (bv_oneCell R)
  have hrow:=setRow_heap w9 w.heap.size _ (R.map bv).toArray _ _ HX9.res
  have HBel:Hid (Below w.heap.size w (w9.setRow w.heap.size (R.map bv).toArray)):=below_setRow HX9.bel (Nat.le_refl _) _
  obtain ⟨W4,hW4⟩:∃ W4,w9.setRow w.heap.size (R.map bv).toArray = W4:=⟨_,rfl⟩
  rw [hW4] at hst9 hrow HBel
  have HRow:Hid (W4.heap[w.heap.size]? = some (.cells (R.map bv).toArray 24 (0,0))):=hrow
  clear hrow hW4 HX8 HX9 hb9 HZR
  go_simp
  refine hKK.out _ _ W4 (by rfl) (by go_simp) ?_
  clear hst9
  go_simp
  (try go_wp2)
  (try simp only [Exit.inBlock,Exit.then])
  refine bodyPost_ret (results_cell_row rfl _ _ w.heap.size 24 _ (0,0) _ rfl HRow.out Tryz.underlying24 rfl IR.out) rfl ?_
  exact ⟨by rw [HR.out,HRR.out],HBel.out⟩
set_option maxHeartbeats 1000000 in
set_option maxRecDepth 100000 in
theorem bsum_any (a:Option Addr) (len cap:Nat) (l:List UInt8) (w:World) (hB:Byt w a len l) (hnil:a = none → cap = 0) (hlc:len ≤ cap) (hcm:cap ≤ maxLen) (hsm:len ≤ 1000000000) (htab:Tab w) :
  Calls Tryz.prog 120 #[.slice a len cap] w fun e w' => e = .returned (.agg ((blakeB l).map bv).toArray) ∧ Below w.heap.size w w':=by
 have hl:l.length = len:=hB.1
 have HTab:Hid (Tab w):=htab
 have HB:Hid (Byt w a len l):=hB
 obtain ⟨R,hR⟩:∃ R,blakeB l = R:=⟨_,rfl⟩
 have hRl:R.length = 32:=by rw [← hR,blakeB_length]
 have HR:Hid (blakeB l = R):=hR
 have IR:Hid ((Tryz.prog.info? 24).map (·.size) = some (R.map bv).toArray.size):=info_size (n:=32) (by kernel_rfl) R hRl
 have hb0:Below w.heap.size w (w.alloc (.cells zero32B 24)):=(Below.refl _ _).alloc (Nat.le_refl _) _
 have hres:=heap_alloc_new w (.cells zero32B 24)
 have HT0:Hid (Tab (w.alloc (.cells zero32B 24))):=HTab.out.later hb0
 have HW0:Hid (Below w.heap.size w (w.alloc (.cells zero32B 24)) ∧ (w.alloc (.cells zero32B 24)).heap[w.heap.size]? = some (.cells zero32B 24 (0,0)) ∧ Tab (w.alloc (.cells zero32B 24))):=⟨hb0,hres,HT0.out⟩
 clear hR htab hB hb0 hres HT0
 go_enter Tryz.func120,Tryz.ntmps120
 go_wp2_with fail
 refine from_world (P:=fun W => Calls Tryz.prog 93 #[] W _) (R:=fun W => Hid (Below w.heap.size w W ∧ W.heap[w.heap.size]? = some (.cells zero32B 24 (0,0)) ∧ Tab W)) _ HW0 ?_
 intro W0 hW0
 clear HW0
 refine (bnew_any W0 hW0.out.2.2).mono ?_
 rintro e w1 ⟨g,rfl,hg,hH1,hb1⟩
 obtain ⟨hb0,hres0,htab0⟩:=hW0.out
 have hsz0:w.heap.size < W0.heap.size:=(Array.getElem?_eq_some_iff.1 hres0).1
 have hlt0:=htab0.lt
 have HT1:Hid (Tab w1):=htab0.later hb1
 have HH1:Hid (HashIs w1 g []):=hH1
 have HB1:Hid (Byt w1 a len l):=HB.out.later (hb0.trans (hb1.mono hb0.size))
 have HO1:Hid (0 < len → ∀ b o f,a = some ⟨b,o,f⟩ → b ≠ g):=by
  intro hn b o f e
  rcases HB.out.2 with h | ⟨b',o',e',hc⟩
  ·omega
  ·rw [e'] at e
   cases e
   have:=HB.out
   rw [e'] at this
   have:=this.lt hn
   omega
 have HBel1:Hid (Below w.heap.size w w1):=hb0.trans (hb1.mono hb0.size)
 have HRes1:Hid (w1.heap[w.heap.size]? = some (.cells zero32B 24 (0,0))):=by
  show _ = _
  rw [hb1.block _ hsz0];exact hres0
 have hgw:w.heap.size ≠ g:=by omega
 have hgw':w.heap.size ≤ g:=by omega
 have hgt:g ≠ 1 ∧ g ≠ 2:=by omega
 clear hW0 hb0 hres0 htab0 hb1 hH1 hg
 go_wp2_with fail
 refine (bwrite_any g [] a len cap l w1 HH1.out HB1.out hnil HO1.out hlc hcm (by simp;omega) HT1.out hgt).mono ?_
 rintro e w2 ⟨⟨v,rfl⟩,hH2,hG2⟩
 have HH2:Hid (HashIs w2 g l):=hH2
 have HT2:Hid (Tab w2):=HT1.out.but hG2 hgt
 have HBel2:Hid (Below w.heap.size w w2):=HBel1.out.trans ⟨hG2.os,hG2.tape,hG2.output,hG2.size,fun k hk => hG2.block k (by have:=HBel1.out.size;omega) (fun e => by cases e;omega)⟩
 have HRes2:Hid (w2.heap[w.heap.size]? = some (.cells zero32B 24 (0,0))):=by
  show _ = _
  rw [hG2.block _ (Array.getElem?_eq_some_iff.1 HRes1.out).1 (fun e => hgw (by cases e;rfl))];exact HRes1.out
 clear hH2 hG2 HBel1 HRes1 HT1 HH1 HO1 HB1
 go_wp2_with fail
 refine (bhsum_any g l w2 HH2.out (by omega) HT2.out).mono ?_
 rintro e w3 ⟨rfl,hb3⟩
 rw [HR.out]
 have hlt3:=(Array.getElem?_eq_some_iff.1 HRes2.out).1
 have hres3:w3.heap[w.heap.size]? = some (.cells zero32B 24 (0,0)):=by rw [hb3.block _ hlt3];exact HRes2.out
 have hst9:=store_row w3 w.heap.size _ _ (R.map bv) hres3 (by simp [hRl,zero32B]) (bv_oneCell R)
 have hrow:=setRow_heap w3 w.heap.size _ (R.map bv).toArray _ _ hres3
 have HBel:Hid (Below w.heap.size w (w3.setRow w.heap.size (R.map bv).toArray)):=below_setRow (HBel2.out.trans (hb3.mono HBel2.out.size)) (Nat.le_refl _) _
 obtain ⟨W4,hW4⟩:∃ W4,w3.setRow w.heap.size (R.map bv).toArray = W4:=⟨_,rfl⟩
 rw [hW4] at hst9 hrow HBel
 have HRow:Hid (W4.heap[w.heap.size]? = some (.cells (R.map bv).toArray 24 (0,0))):=hrow
 clear hrow hW4 hres3 hb3 HBel2 HRes2 HH2 HT2 hlt3
 go_wp2
 (try simp only [Exit.inBlock,Exit.then])
 refine bodyPost_ret (results_cell_row rfl _ _ w.heap.size 24 _ (0,0) _ rfl HRow.out Tryz.underlying24 rfl IR.out) rfl ?_
 exact ⟨by rw [HR.out],HBel.out⟩
end Go.Proofs.YthmkhdnnljdglaaGreatDoor
