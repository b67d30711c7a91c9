import Derived.Test.YthmkhdnnljdglaaGreatDoorQad
import Derived.Test.YthmkhdnnljdglaaGreatDoorQat
namespace Go.Proofs.YthmkhdnnljdglaaGreatDoor
set_option linter.unusedVariables false
set_option maxRecDepth 100000
open Go.RowKit
def zero64V:Array Value:=(List.replicate 64 (Value.int .u8 0)).toArray
theorem zero64V_eq:zero64V = (zero64B.map bv).toArray:=by rfl
structure Fl (w:World) (p:List UInt8) (W:World):Prop where
 res:W.heap[w.heap.size]? = some (.cells zero64V 176 (0,0))
 p:Arr W (w.heap.size + 1) 176 p
 bel:Below w.heap.size w W
theorem Fl.new (w:World):Fl w zero64B ((w.alloc (.cells zero64V 176)).alloc (.cells zero64V 176)):=by
 have h1:=Arr.new (w.alloc (.cells zero64V 176)) 176 zero64B
 rw [World.size_alloc,← zero64V_eq] at h1
 refine ⟨?_,h1,((Below.refl _ _).alloc (Nat.le_refl _) _).alloc (by simp) _⟩
 rw [Below.heap_alloc _ _ _ (by simp)]
 exact heap_alloc_new w _
theorem Fl.later {w W W':World} {p:List UInt8} (x:Fl w p W) (hb:Below W.heap.size W W'):Fl w p W':=
 ⟨by rw [hb.block _ (Array.getElem?_eq_some_iff.1 x.res).1];exact x.res,x.p.later hb,x.bel.trans (hb.mono x.bel.size)⟩
theorem kcopy {w W:World} (hF:Fl w zero64B W) (a:Option Addr) (n c:Nat) (l:List UInt8) (hB:Byt W a n l) (hn:n ≤ 64) :
  ∃ W',(Builtin.copy_ #[22,22] 3 #[.slice (some ⟨w.heap.size + 1,0,none⟩) 64 64,.slice a n c]).run Tryz.prog W = .ok (.int .i64 (n:Int)) W' ∧ Fl w (l ++ List.replicate (64 - n) 0) W':=by
 have hl:=hB.1
 have hm:Nat.min n 64 = n:=Nat.min_eq_left hn
 rcases hB.2 with h0 | ⟨b,off,rfl,hc⟩
 ·have hr:=run_copy_none (P:=Tryz.prog) W 22 22 3 5 (some ⟨w.heap.size + 1,0,none⟩) a 64 64 n c Tryz.underlying22 Tryz.info1U8 (by rw [h0];rfl)
  subst h0
  obtain rfl:l = []:=List.eq_nil_of_length_eq_zero hl
  exact ⟨_,hr,hF⟩
 ·have hcp:=run_copy_row Tryz.prog W 22 22 3 5 (w.heap.size + 1) 0 64 64 ⟨b,off,none⟩ n c _ _ (l.map bv) Tryz.underlying22 Tryz.info1U8 hF.p
   (by rw [List.length_map,hl];exact hm.symm) (hB.cells _ rfl) (by simp [zero64B,hl];omega) (bv_oneCell _)
  rw [List.length_map,hl] at hcp
  have e1:(zero64B.map bv).toArray.toList.take 0 ++ l.map bv ++ (zero64B.map bv).toArray.toList.drop (0 + n) = (l ++ List.replicate (64 - n) 0).map bv:=by
   show [] ++ l.map bv ++ ((List.replicate 64 (0:UInt8)).map bv).drop (0 + n) = _
   rw [Nat.zero_add,List.map_replicate,List.drop_replicate,List.map_append,List.map_replicate,List.nil_append]
  rw [e1] at hcp
  refine ⟨_,hcp,?_,setRow_heap _ _ _ _ _ _ hF.p,below_setRow hF.bel (by omega) _⟩
  rw [setRow_other _ _ _ _ (by omega)];exact hF.res
set_option maxHeartbeats 1000000 in
set_option maxRecDepth 100000 in
theorem kfill_any (a:Option Addr) (klen kcap:Nat) (key:List UInt8) (w:World) (hK:Byt w a klen key) (hknil:a = none → kcap = 0) (hkm:klen ≤ 5000) (hkc:klen ≤ kcap) (hkcm:kcap ≤ maxLen) (htab:Tab w) :
  Calls Tryz.prog 137 #[.slice a klen kcap] w fun e w' => e = .returned (.agg ((kpad key).map bv).toArray) ∧ Below w.heap.size w w':=by
 have hkl:=hK.1
 obtain ⟨F,hFe⟩:∃ F,kpad key = F:=⟨_,rfl⟩
 have hFl:F.length = 64:=by rw [← hFe,kpad_length]
 have HFe:Hid (kpad key = F):=hFe
 rw [hFe]
 have HTab:Hid (Tab w):=htab
 have HK:Hid (Byt w a klen key):=hK
 have HF0:Hid (Fl w zero64B ((w.alloc (.cells zero64V 176)).alloc (.cells zero64V 176))):=Fl.new w
 have IF:Hid ((Tryz.prog.info? 176).map (·.size) = some (F.map bv).toArray.size):=info_size (n:=64) (by kernel_rfl) F hFl
 clear htab hK hFe
 by_cases hlong:64 < klen
 ·have hli:(64:Int) < (klen:Int):=by omega
  have HE:Hid (F = blakeB key ++ List.replicate (64 - 32) 0):=by
   rw [← HFe.out]
   unfold kpad kshort
   rw [if_pos (by omega),blakeB_length]
   exact rfl
  clear HFe
  go_enter Tryz.func137,Tryz.ntmps137
  go_wp2_with fail
  refine from_world (P:=fun W => Calls Tryz.prog 120 _ W _) (R:=fun W => Hid (Fl w zero64B W)) _ HF0 ?_
  intro W0 HF1
  clear HF0
  refine (bsum_any a klen kcap key W0 (HK.out.later HF1.out.bel) hknil hkc hkcm (by omega) (HTab.out.later HF1.out.bel)).mono ?_
  rintro e w1 ⟨rfl,hb1⟩
  have HF2:=HF1.out.later hb1
  obtain ⟨R,hR⟩:∃ R,blakeB key = R:=⟨_,rfl⟩
  have hRl:R.length = 32:=by rw [← hR,blakeB_length]
  rw [hR] at HE ⊢
  have hst:=run_store_arr w1 24 R 32 hRl (by kernel_rfl) zero32B (by kernel_rfl)
  have hF3:=HF2.later ((Below.refl _ _).alloc (Nat.le_refl _) (.cells (R.map bv).toArray 24))
  have hA3:=Arr.new w1 24 R
  obtain ⟨W3,hW3⟩:∃ W3,w1.alloc (.cells (R.map bv).toArray 24) = W3:=⟨_,rfl⟩
  rw [hW3] at hst hF3 hA3
  simp only [zero32B,List.replicate] at hst
  obtain ⟨W4,hcp,hF4⟩:=kcopy hF3 (some ⟨w1.heap.size,0,none⟩) 32 32 R (hA3.byt 32 hRl) (by omega)
  rw [← HE.out] at hF4
  have hstF:=store_row W4 w.heap.size _ _ (F.map bv) hF4.res (by simp [hFl,zero64V]) (bv_oneCell F)
  have hrow:=setRow_heap W4 w.heap.size _ (F.map bv).toArray _ _ hF4.res
  have HBel:Hid (Below w.heap.size w (W4.setRow w.heap.size (F.map bv).toArray)):=below_setRow hF4.bel (Nat.le_refl _) _
  obtain ⟨W5,hW5⟩:∃ W5,W4.setRow w.heap.size (F.map bv).toArray = W5:=⟨_,rfl⟩
  rw [hW5] at hstF hrow HBel
  have HRow:Hid (W5.heap[w.heap.size]? = some (.cells (F.map bv).toArray 176 (0,0))):=hrow
  have HP4:Hid (Arr W4 (w.heap.size + 1) 176 F):=hF4.p
  clear hrow hW5 hF4 hA3 hF3 HF2 HF1 hb1 hR HE hW3 HTab HK
  go_wp2_with (first | refine wpList_load_row rfl 176 _ rfl (w.heap.size + 1) rfl 176 _ (0,0) _ HP4.out Tryz.underlying176 rfl IF.out ?_)
  (try simp only [Exit.inBlock,Exit.then])
  refine bodyPost_ret (results_cell_row rfl _ _ w.heap.size 176 _ (0,0) _ rfl HRow.out Tryz.underlying176 rfl IF.out) rfl ?_
  exact ⟨rfl,HBel.out⟩
 ·have hli:¬ (64:Int) < (klen:Int):=by omega
  have HE:Hid (F = key ++ List.replicate (64 - klen) 0):=by
   rw [← HFe.out]
   unfold kpad kshort
   rw [if_neg (by omega),hkl]
   exact rfl
  obtain ⟨W4,hcp,hF4⟩:=kcopy HF0.out a klen kcap key (HK.out.later HF0.out.bel) (by omega)
  rw [← HE.out] at hF4
  have hstF:=store_row W4 w.heap.size _ _ (F.map bv) hF4.res (by simp [hFl,zero64V]) (bv_oneCell F)
  have hrow:=setRow_heap W4 w.heap.size _ (F.map bv).toArray _ _ hF4.res
  have HBel:Hid (Below w.heap.size w (W4.setRow w.heap.size (F.map bv).toArray)):=below_setRow hF4.bel (Nat.le_refl _) _
  obtain ⟨W5,hW5⟩:∃ W5,W4.setRow w.heap.size (F.map bv).toArray = W5:=⟨_,rfl⟩
  rw [hW5] at hstF hrow HBel
  have HRow:Hid (W5.heap[w.heap.size]? = some (.cells (F.map bv).toArray 176 (0,0))):=hrow
  have HP4:Hid (Arr W4 (w.heap.size + 1) 176 F):=hF4.p
  simp only [zero64V,List.replicate] at hcp
  clear hrow hW5 hF4 HE HFe HTab HK HF0
  go_enter Tryz.func137,Tryz.ntmps137
  go_wp2_with (first | refine wpList_load_row rfl 176 _ rfl (w.heap.size + 1) rfl 176 _ (0,0) _ HP4.out Tryz.underlying176 rfl IF.out ?_)
  (try simp only [Exit.inBlock,Exit.then])
  refine bodyPost_ret (results_cell_row rfl _ _ w.heap.size 176 _ (0,0) _ rfl HRow.out Tryz.underlying176 rfl IF.out) rfl ?_
  exact ⟨rfl,HBel.out⟩
def xorP (p:List UInt8) (c:UInt8) (k:Nat):List UInt8:=(p.take k).map (· ^^^ c) ++ p.drop k
theorem xorP_length (p:List UInt8) (c:UInt8) (k:Nat):(xorP p c k).length = p.length:=by simp [xorP];omega
theorem xorP_set (p:List UInt8) (c:UInt8) (k:Nat) (h:k < p.length):(xorP p c k).set k (at8 p k ^^^ c) = xorP p c (k + 1):=by
 have hl:((p.take k).map (· ^^^ c)).length = k:=by simp;omega
 unfold xorP
 rw [List.drop_eq_getElem_cons h,take_at p k h,List.map_append,List.set_append_right _ _ (by omega),hl,Nat.sub_self,List.set_cons_zero]
 simp
theorem xorP_at (p:List UInt8) (c:UInt8) (k:Nat) (h:k < p.length):at8 (xorP p c k) k = at8 p k:=by
 have hl:((p.take k).map (· ^^^ c)).length = k:=by simp;omega
 unfold xorP at8
 rw [List.getD_eq_getElem?_getD,List.getD_eq_getElem?_getD,List.getElem?_append_right (by omega),hl,Nat.sub_self,List.getElem?_drop,Nat.add_zero]
theorem xorB_rep (c:UInt8):∀ p:List UInt8,p.map (· ^^^ c) = xorB p (List.replicate p.length c)
 | [] => rfl
 | x :: p => by
  show _ :: _ = _ :: _
  rw [List.cons.injEq]
  exact ⟨rfl,xorB_rep c p⟩
theorem xorP_all (p:List UInt8) (c:UInt8) (hp:p.length = 64):xorP p c 64 = xorB p (allB c):=by
 unfold xorP allB
 rw [List.take_of_length_le (by omega),List.drop_eq_nil_of_le (by omega),List.append_nil,xorB_rep,hp]
structure Sm (w:World) (q:List UInt8) (W:World):Prop where
 p:Arr W w.heap.size 176 q
 res:W.heap[w.heap.size + 1]? = some (.cells zero32B 24 (0,0))
 bel:Below w.heap.size w W
theorem Sm.new (w:World) (q:List UInt8):Sm w q ((w.alloc (.cells (q.map bv).toArray 176)).alloc (.cells zero32B 24)):=by
 have h0:=Arr.new w 176 q
 have h1:=heap_alloc_new (w.alloc (.cells (q.map bv).toArray 176)) (.cells zero32B 24)
 rw [World.size_alloc] at h1
 exact ⟨h0.later ((Below.refl _ _).alloc (Nat.le_refl _) _),h1,((Below.refl _ _).alloc (Nat.le_refl _) _).alloc (by simp) _⟩
theorem Sm.set {w W:World} {q:List UInt8} (x:Sm w q W) (i:Nat) (c:UInt8):Sm w (q.set i c) (W.setCell ⟨w.heap.size,i,none⟩ (.int .u8 (c.toNat:Int))):=
 ⟨x.p.set i c,by rw [heap_setCell_other W ⟨w.heap.size,i,none⟩ (w.heap.size + 1) _ (by simp)];exact x.res,x.bel.setCell (Nat.le_refl _) _⟩
theorem Sm.later {w W W':World} {q:List UInt8} (x:Sm w q W) (hb:Below W.heap.size W W'):Sm w q W':=
 ⟨x.p.later hb,by rw [hb.block _ (Array.getElem?_eq_some_iff.1 x.res).1];exact x.res,x.bel.trans (hb.mono x.bel.size)⟩
theorem Sm.but {w W W':World} {q:List UInt8} {g:Nat} (x:Sm w q W) (hb:W.grownBy W' (some g)) (hg:w.heap.size + 2 ≤ g):Sm w q W':=by
 refine ⟨?_,?_,x.bel.trans ⟨hb.os,hb.tape,hb.output,hb.size,fun k hk => hb.block k (by have:=x.bel.size;omega) (fun e => by cases e;omega)⟩⟩
 ·unfold Arr
  rw [hb.block _ x.p.lt (fun e => by cases e;omega)];exact x.p
 ·rw [hb.block _ (Array.getElem?_eq_some_iff.1 x.res).1 (fun e => by cases e;omega)];exact x.res
theorem Byt.but_any {w w':World} {a:Option Addr} {n g:Nat} {l:List UInt8} (h:Byt w a n l) (hg:w.grownBy w' (some g)) (hb:0 < n → ∀ b o f,a = some ⟨b,o,f⟩ → b ≠ g):Byt w' a n l:=by
 rcases h.2 with h0 | ⟨b,off,rfl,_⟩
 ·exact ⟨h.1,.inl h0⟩
 ·by_cases h0:n = 0
  ·exact ⟨h.1,.inl h0⟩
  ·exact h.but hg (hb (by omega) b off none rfl)
theorem Byt.apart {w:World} {a:Option Addr} {n g:Nat} {l:List UInt8} (h:Byt w a n l) (hg:w.heap.size ≤ g):0 < n → ∀ b o f,a = some ⟨b,o,f⟩ → b ≠ g:=by
 intro hn b o f e
 rcases h.2 with h0 | ⟨b',o',e',hc⟩
 ·omega
 ·rw [e'] at e
  cases e
  rw [e'] at h
  have:=h.lt hn
  omega
set_option maxHeartbeats 1000000 in
set_option maxRecDepth 100000 in
theorem ksum_any (p:List UInt8) (hp:p.length = 64) (c:UInt8) (a:Option Addr) (blen bcap:Nat) (bl:List UInt8) (w:World) (hB:Byt w a blen bl) (hbnil:a = none → bcap = 0) (hbm:blen ≤ 5000) (hbc:blen ≤ bcap) (hbcm:bcap ≤ maxLen) (htab:Tab w) :
  Calls Tryz.prog 138 #[.agg (p.map bv).toArray,.int .u8 (c.toNat:Int),.slice a blen bcap] w fun e w' => e = .returned (.agg ((blakeB (xorB p (allB c) ++ bl)).map bv).toArray) ∧ Below w.heap.size w w':=by
 obtain ⟨X,hX⟩:∃ X,xorB p (allB c) = X:=⟨_,rfl⟩
 have HX:Hid (xorP p c 64 = X):=by show _ = _;rw [xorP_all p c hp,hX]
 have hXl:X.length = 64:=by rw [← HX.out,xorP_length,hp]
 rw [hX]
 obtain ⟨R,hR⟩:∃ R,blakeB (X ++ bl) = R:=⟨_,rfl⟩
 have hRl:R.length = 32:=by rw [← hR,blakeB_length]
 rw [hR]
 have HR:Hid (blakeB (X ++ bl) = R):=hR
 have IR:Hid ((Tryz.prog.info? 24).map (·.size) = some (R.map bv).toArray.size):=info_size (n:=32) (by kernel_rfl) R hRl
 have HTab:Hid (Tab w):=htab
 have hlt0:=htab.lt
 have hbl:=hB.1
 have HB:Hid (Byt w a blen bl):=hB
 have HS0:Hid (Sm w (xorP p c 0) ((w.alloc (.cells (p.map bv).toArray 176)).alloc (.cells zero32B 24))):=Sm.new w p
 clear htab hB hR hX
 go_enter Tryz.func138,Tryz.ntmps138
 go_wp2
 go_loopw [9] (fun i wr => ∃ k:Nat,k ≤ 64 ∧ i = .int .i64 k ∧ Hid (Sm w (xorP p c k) wr)) (fun i _ => 64 - (intOf i).toNat)
 case atStart => exact ⟨0,Nat.zero_le _,rfl,HS0⟩
 case round =>
  clear HS0
  obtain ⟨k,hk,rfl,hS⟩:=hrel
  by_cases hlt:k < 64
  ·have hki:(k:Int) < 64:=by omega
   obtain ⟨c1,f1⟩:=hS.out.p.at_ k (by rw [xorP_length];omega)
   rw [xorP_at p c k (by omega)] at c1
   have xv:=xor_val8 (at8 p k) c
   have h1:=hS.out.set k (at8 p k ^^^ c)
   rw [xorP_set p c k (by omega)] at h1
   have HS1:Hid (Sm w (xorP p c (k + 1)) (wr.setCell ⟨w.heap.size,k,none⟩ (.int .u8 ((at8 p k ^^^ c).toNat:Int)))):=h1
   clear h1 hS
   go_wp2
   exact ⟨⟨k + 1,by omega,by go_num,HS1⟩,by simp [intOf];omega⟩
  ·have ek:k = 64:=by omega
   subst ek
   have HS:Hid (Sm w X wr):=by have:=hS.out;rwa [HX.out] at this
   have HTr:Hid (Tab wr):=HTab.out.later HS.out.bel
   have HBr:Hid (Byt wr a blen bl):=HB.out.later HS.out.bel
   have HA:Hid (∀ g,w.heap.size ≤ g → 0 < blen → ∀ b o f,a = some ⟨b,o,f⟩ → b ≠ g):=fun g hg => HB.out.apart hg
   clear hS hlt HTab HB HX
   go_wp2_with fail
   refine (bnew_any wr HTr.out).mono ?_
   rintro e w1 ⟨g,rfl,hg,hH1,hb1⟩
   have hwr:=(Array.getElem?_eq_some_iff.1 HS.out.res).1
   have hgw:w.heap.size + 2 ≤ g:=by omega
   have hgt:g ≠ 1 ∧ g ≠ 2:=by omega
   have HT1:Hid (Tab w1):=HTr.out.later hb1
   have HH1:Hid (HashIs w1 g []):=hH1
   have HS1:Hid (Sm w X w1):=HS.out.later hb1
   have HB1:Hid (Byt w1 a blen bl):=HBr.out.later hb1
   have HP1:Hid (Byt w1 (some ⟨w.heap.size,0,none⟩) 64 X):=HS1.out.p.byt 64 hXl
   clear hH1 hb1 hg hwr HTr HS HBr
   go_wp2_with fail
   refine (bwrite_any g [] (some ⟨w.heap.size,0,none⟩) 64 64 X w1 HH1.out HP1.out (fun e => by cases e) (fun _ b o f e => by cases e;omega) (Nat.le_refl _) (by unfold maxLen;omega) (by simp) HT1.out hgt).mono ?_
   rintro e w2 ⟨⟨v,rfl⟩,hH2,hG2⟩
   have HH2:Hid (HashIs w2 g X):=hH2
   have HT2:Hid (Tab w2):=HT1.out.but hG2 hgt
   have HS2:Hid (Sm w X w2):=HS1.out.but hG2 hgw
   have HB2:Hid (Byt w2 a blen bl):=HB1.out.but_any hG2 (HA.out g (by omega))
   clear hH2 hG2 HH1 HT1 HS1 HB1 HP1
   go_wp2_with fail
   refine (bwrite_any g X a blen bcap bl w2 HH2.out HB2.out hbnil (HA.out g (by omega)) hbc hbcm (by omega) HT2.out hgt).mono ?_
   rintro e w3 ⟨⟨v3,rfl⟩,hH3,hG3⟩
   have HH3:Hid (HashIs w3 g (X ++ bl)):=hH3
   have HT3:Hid (Tab w3):=HT2.out.but hG3 hgt
   have HS3:Hid (Sm w X w3):=HS2.out.but hG3 hgw
   clear hH3 hG3 HH2 HT2 HS2 HB2
   go_wp2_with fail
   refine (bhsum_any g (X ++ bl) w3 HH3.out (by simp;omega) HT3.out).mono ?_
   rintro e w4 ⟨rfl,hb4⟩
   rw [HR.out]
   have hS4:=HS3.out.later hb4
   have hst:=store_row w4 (w.heap.size + 1) _ _ (R.map bv) hS4.res (by simp [hRl,zero32B]) (bv_oneCell R)
   have hrow:=setRow_heap w4 (w.heap.size + 1) _ (R.map bv).toArray _ _ hS4.res
   have HBel:Hid (Below w.heap.size w (w4.setRow (w.heap.size + 1) (R.map bv).toArray)):=below_setRow hS4.bel (by omega) _
   obtain ⟨W5,hW5⟩:∃ W5,w4.setRow (w.heap.size + 1) (R.map bv).toArray = W5:=⟨_,rfl⟩
   rw [hW5] at hst hrow HBel
   have HRow:Hid (W5.heap[w.heap.size + 1]? = some (.cells (R.map bv).toArray 24 (0,0))):=hrow
   clear hrow hW5 hS4 hb4 HS3 HT3 HH3
   go_wp2
   (try simp only [Exit.inBlock,Exit.then])
   refine bodyPost_ret (results_cell_row rfl _ _ (w.heap.size + 1) 24 _ (0,0) _ rfl HRow.out Tryz.underlying24 rfl IR.out) rfl ?_
   exact ⟨rfl,HBel.out⟩
end Go.Proofs.YthmkhdnnljdglaaGreatDoor
