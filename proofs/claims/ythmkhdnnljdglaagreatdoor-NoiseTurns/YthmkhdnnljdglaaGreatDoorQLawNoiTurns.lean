import Derived.Test.YthmkhdnnljdglaaGreatDoorQbp
import Derived.Test.YthmkhdnnljdglaaGreatDoorQaj
namespace Go.Proofs.YthmkhdnnljdglaaGreatDoor.noiseTurns
open Go.ChangeShapes Go.WideShapes Go.ChangeAt Go.RowKit
set_option linter.unusedVariables false
set_option maxRecDepth 100000
def fivL:List UInt8:=5 :: List.replicate 31 0
def sevL:List UInt8:=7 :: 7 :: List.replicate 30 0
def zer30:List UInt8:=List.replicate 30 0
theorem sp_zero (w:World) :
  ∃ X1 X2 X3,(storeCells ⟨w.heap.size,0,none⟩ zeroCi).run Tryz.prog (((w.alloc (.cells ciZ 42)).alloc (.cells ciZ 42)).alloc (.cells zero32C 24)) = .ok () X1 ∧
   (storeCells ⟨w.heap.size + 1,0,none⟩ zeroCi).run Tryz.prog X1 = .ok () X2 ∧ (storeCells ⟨w.heap.size + 1 + 1,0,none⟩ zeroKb).run Tryz.prog X2 = .ok () X3 ∧ Below w.heap.size w X3:=by
 have h:=(((Vw.none w).alloc 42 zeroCi).alloc 42 zeroCi).alloc 24 zeroKb
 simp only [World.size_alloc] at h
 have h0:Vw w (((w.alloc (.cells zeroCi.toArray 42)).alloc (.cells zeroCi.toArray 42)).alloc (.cells zeroKb.toArray 24)) (spL w):=h
 have e1:(ciZ:Array Value) = zeroCi.toArray:=by kernel_rfl
 have e2:(zero32C:Array Value) = zeroKb.toArray:=by kernel_rfl
 rw [e1,e2]
 obtain ⟨Y,hY⟩:∃ Y,((w.alloc (.cells zeroCi.toArray 42)).alloc (.cells zeroCi.toArray 42)).alloc (.cells zeroKb.toArray 24) = Y:=⟨_,rfl⟩
 rw [hY] at h0 ⊢
 have v1:=h0.put 0 w.heap.size 42 zeroCi zeroCi rfl
 have v2:=v1.put 1 (w.heap.size + 1) 42 zeroCi zeroCi rfl
 have v3:=v2.put 2 (w.heap.size + 1 + 1) 24 zeroKb zeroKb rfl
 have o1:∀ v ∈ zeroCi,v.oneCell' = true:=CiV_one (List.replicate 32 0) false 0
 have o2:∀ v ∈ zeroKb,v.oneCell' = true:=bv_oneCell (List.replicate 32 0)
 exact ⟨_,_,_,store_row Y w.heap.size _ _ zeroCi (h0.cell (w.heap.size,42,zeroCi) (by simp [spL])) (by simp) o1,store_row _ (w.heap.size + 1) _ _ zeroCi (v1.cell (w.heap.size + 1,42,zeroCi) (by simp [spL])) (by simp) o1,
  store_row _ (w.heap.size + 1 + 1) _ _ zeroKb (v2.cell (w.heap.size + 1 + 1,24,zeroKb) (by simp [spL])) (by simp) o2,v3.bel⟩
def Ph (at':Nat) (s:Bool) (y0 x:NS):Prop:=(at' = 0 ∧ x = y0) ∨ (at' = 1 ∧ s = true ∧ x.st = 1 ∧ x.starts = true) ∨ (at' = 9 ∧ x.st = 9)
structure Tn (w W:World) (g:Nat) (x:NS):Prop where
 h:HaIs W g x
 bel:Below w.heap.size w W
 lo:w.heap.size ≤ g
 t:TT w
theorem Tn.tab {w W:World} {g:Nat} {x:NS} (D:Tn w W g x):TT W:=D.t.later D.bel
theorem Tn.k {w W:World} {g:Nat} {x:NS} (D:Tn w W g x):Gok g:=D.t.new D.lo
theorem Tn.later {w W W':World} {g:Nat} {x:NS} (D:Tn w W g x) (hb:Below W.heap.size W W'):Tn w W' g x:=⟨D.h.later hb,D.bel.trans (hb.mono D.bel.size),D.lo,D.t⟩
theorem Tn.step {w W W':World} {g:Nat} {x x':NS} {e:Ending} {er:Nat} {out:List UInt8} (D:Tn w W g x) (h:HdE W W' g e er x' out):∃ v,e = .returned (.tuple #[v,.int .i64 (er:Int)]) ∧ Tn w W' g x':=by
 unfold HdE at h
 obtain ⟨v,q,he,hG,hI,_⟩:=h
 exact ⟨v,he,hI,below_but D.bel hG D.lo,D.lo,D.t⟩
theorem firstE (x:NS) (b:List UInt8) (h:¬ (x.starts = true ∧ x.st = 0)):NS.firstErr x = 10 ∧ (NS.first x b).st = 9:=by
 have e:NS.firstErr x = 10:=by unfold NS.firstErr;rw [if_neg h]
 exact ⟨e,by unfold NS.first;rw [e];rfl⟩
theorem hearE (x:NS) (b:List UInt8) (h:¬ (x.starts = false ∧ x.st = 0)):NS.hearErr x b = 10 ∧ (NS.hear x b).st = 9:=by
 have e:NS.hearErr x b = 10:=by unfold NS.hearErr;rw [if_neg h]
 exact ⟨e,by unfold NS.hear;rw [e];rfl⟩
theorem secondE (x:NS) (b:List UInt8) (h:¬ (x.starts = false ∧ x.st = 1)):NS.secondErr x = 10 ∧ (NS.second x b).st = 9:=by
 have e:NS.secondErr x = 10:=by unfold NS.secondErr;rw [if_neg h]
 exact ⟨e,by unfold NS.second;rw [e];rfl⟩
theorem doneE (x:NS) (b:List UInt8) (h:¬ (x.starts = true ∧ x.st = 1)):NS.doneErr x b = 10 ∧ (NS.done x b).st = 9:=by
 have e:NS.doneErr x b = 10:=by unfold NS.doneErr;rw [if_neg h]
 exact ⟨e,by unfold NS.done;rw [e];rfl⟩
theorem hearF (x:NS) (b:List UInt8) (h:x.starts = false ∧ x.st = 0) (hb:b.length < 96):NS.hearErr x b = 2 ∧ (NS.hear x b).st = 9:=by
 have e:NS.hearErr x b = 2:=by unfold NS.hearErr;rw [if_pos h,if_pos hb]
 exact ⟨e,by unfold NS.hear;rw [e];rfl⟩
theorem doneF (x:NS) (b:List UInt8) (h:x.starts = true ∧ x.st = 1) (hb:b.length < 48):NS.doneErr x b = 2 ∧ (NS.done x b).st = 9:=by
 have e:NS.doneErr x b = 2:=by unfold NS.doneErr;rw [if_pos h,if_pos hb]
 exact ⟨e,by unfold NS.done;rw [e];rfl⟩
theorem firstO (pro l0:List UInt8) (b:List UInt8):NS.firstErr (NS.begin_ noiseName pro l0 (pubB sevL) fivL) = 0 ∧ (NS.first (NS.begin_ noiseName pro l0 (pubB sevL) fivL) b).st = 1 ∧ (NS.first (NS.begin_ noiseName pro l0 (pubB sevL) fivL) b).starts = true:=by
 have e:=NS.first_ok noiseName pro l0 sevL fivL
 rw [NS.first_is _ b e]
 exact ⟨e,rfl,rfl⟩
set_option maxHeartbeats 64000000 in
theorem walk (l0:List UInt8) (a1:Bool) (a2:Option Addr) (len2 cap2:Nat) (z2:List Int) (w:World) (w0:l0.length = 32) (w2:IsRow .i64 w a2 len2 cap2 z2) (htabs:Tab w ∧ FTab w) :
  Calls Tryz.prog 5 #[.agg (l0.map bv).toArray,.bool a1,.slice a2 len2 cap2] w fun e w' => e = .returned (.bool true) ∧ Below w.heap.size w w':=by
 have HT:Hid (TT w):=htabs
 have HR:=ohid w2
 have hIK:=ohid (keyIA w0)
 have HK0:=Arr.new w 24 l0
 have hb0:Below w.heap.size w (w.alloc (.cells (l0.map bv).toArray 24)):=(Below.refl _ _).alloc (Nat.le_refl _) _
 clear w2 htabs
 go_enter Tryz.func5,Tryz.ntmps5
 go_wp2_with fail
 obtain ⟨V0,hV0⟩:∃ V,w.alloc (.cells (l0.map bv).toArray 24) = V:=⟨_,rfl⟩
 rw [hV0] at HK0 hb0
 rw [hV0]
 refine (noiShown_any V0 (HT.out.later hb0)).mono ?_
 rintro e V1 ⟨rfl,hb1⟩
 have HK1:=ohid (HK0.later hb1)
 have HW1:=ohid (hb0.trans (hb1.mono hb0.size))
 clear hb0 hb1 HK0 hV0
 go_wp2_with (first | refine wpList_load_row rfl 24 (.tmp 3) rfl w.heap.size rfl 24 (l0.map bv).toArray (0,0) _ HK1.out Tryz.underlying24 rfl hIK.out ?_ | fail)
 refine (nAnswer_any none 0 0 [] l0 fivL V1 w0 rfl ⟨rfl,.inl rfl⟩ (fun _ => rfl) (by omega) (by omega) (by unfold maxLen;omega) (HT.out.later HW1.out)).mono ?_
 rintro e V2 ⟨gb,rfl,hgb,hb2,hB⟩
 have HK2:=ohid (HK1.out.later hb2)
 have HW2:=ohid (HW1.out.trans (hb2.mono HW1.out.size))
 have HB2:Hid (Tn w V2 gb (NS.answer noiseName [] l0 fivL)):=⟨hB,HW2.out,Nat.le_trans HW1.out.size hgb,HT.out⟩
 clear hb2 hB hgb HK1 HW1
 cases a1 with
 | false =>
  have HD:=HB2
  go_wp2_with fail
  go_loopw [9,10] (fun a i wr => ∃ (k at':Nat) (x:NS),k ≤ 6 ∧ i = .int .i64 k ∧ a = .int .i64 at' ∧ Hid (Ph at' false (NS.answer noiseName [] l0 fivL) x) ∧ Hid (Tn w wr gb x)) (fun _ i _ => 6 - (intOf i).toNat)
  case atStart => exact ⟨0,0,_,by omega,rfl,rfl,.inl ⟨rfl,rfl⟩,HD⟩
  case round =>
   clear HD
   obtain ⟨k,at',x,hk,rfl,rfl,HPh,HX⟩:=hrel
   by_cases hc:k < len2 ∧ k < 6
   ·obtain ⟨hc1,hc2⟩:=hc
    have i1:(k:Int) < (len2:Int):=by omega
    have i2:(k:Int) < 6:=by omega
    obtain ⟨z,xa,hxa,hcell⟩:∃ z xa,a2 = some xa ∧ wr.cell? (xa.add k) = some (.int .i64 z):=by
     rcases HR.out with ⟨_,h,_⟩ | ⟨xa,ha,hlc,hcm,hz,hcell,_⟩
     ·omega
     ·have h1:=hcell k (by omega)
      have h2:=World.block_lt_of_cell? w _ h1
      exact ⟨_,xa,ha,by rw [World.cell?_of_block (HX.out.bel.block _ h2)];exact h1⟩
    subst hxa
    obtain ⟨q,hq,hq4⟩:=cut16 z 3
    have hq':(bits .and .i64 z 65535).tmod 4 = (q:Int):=hq
    have hmk:(Instr.makeSlice 22 (.int .i64 30) (.int .i64 30)).run Tryz.prog wr = .ok (.slice (some ⟨wr.heap.size,0,none⟩) 30 30) (wr.alloc (.cells (zer30.map bv).toArray 5)):=make_zero wr 30 (by omega)
    have hal:Below wr.heap.size wr (wr.alloc (.cells (zer30.map bv).toArray 5)):=(Below.refl _ _).alloc (Nat.le_refl _) _
    have hzB:=(Arr.new wr 5 zer30).byt 30 rfl
    obtain ⟨U,hU⟩:∃ U,wr.alloc (.cells (zer30.map bv).toArray 5) = U:=⟨_,rfl⟩
    have hUs:wr.heap.size < U.heap.size:=by rw [← hU];simp
    rw [hU] at hmk hal hzB
    have HXU:=ohid (HX.out.later hal)
    have HZ:=ohid hzB
    have HWl:=ohid HX.out.lo
    have HUs:=ohid hUs
    have hqc:q = 0 ∨ q = 1 ∨ q = 2 ∨ q = 3:=by omega
    clear hq hq4 hal hzB hU hUs HX
    rcases HPh.out with ⟨rfl,rfl⟩ | ⟨rfl,hss,hst,hsr⟩ | ⟨rfl,hst⟩
    ·clear HPh
     rcases hqc with rfl | rfl | rfl | rfl
     ·obtain ⟨hE,hS⟩:=firstE (NS.answer noiseName [] l0 fivL) zer30 (by simp [NS.answer])
      have HE:=ohid hE
      have HSt:=ohid hS
      have HS2:Hid ((NS.first (NS.answer noiseName [] l0 fivL) zer30).st ≠ 2):=by show _ ≠ _;rw [hS];decide
      clear hE hS
      go_wp2_with fail
      clear hmk hcell
      refine (nFirst_any gb _ (some ⟨wr.heap.size,0,none⟩) 30 30 zer30 U HXU.out.h HZ.out (fun e => by cases e) (by omega) (by omega) (by unfold maxLen;omega) (fun _ y o f e => by cases e;exact HUs.out) HXU.out.tab HXU.out.k).mono ?_
      intro e W3 hR3
      obtain ⟨v3,rfl,hX3⟩:=HXU.out.step hR3
      rw [HE.out]
      have HX3:=ohid hX3
      clear hR3 hX3 HXU HZ HUs
      go_wp2_with fail
      refine (nSplit_no gb _ W3 HX3.out.h HX3.out.tab HS2.out).mono ?_
      rintro e W4 ⟨rfl,hb4⟩
      obtain ⟨Y1,Y2,Y3,s1,s2,s3,hbY⟩:=sp_zero W4
      simp only [ciZ,zero32C,List.replicate] at s1
      have hl1:=zeroCi_length
      have hl2:zeroKb.length = 32:=rfl
      have HX4:=ohid ((HX3.out.later hb4).later hbY)
      obtain ⟨zc,hzc⟩:∃ zc,zeroCi = zc:=⟨_,rfl⟩
      obtain ⟨zk,hzk⟩:∃ zk,zeroKb = zk:=⟨_,rfl⟩
      rw [hzc] at s1 s2 hl1
      rw [hzk] at s3 hl2
      rw [hzc,hzk]
      clear hb4 hbY HX3 hzc hzk
      go_wp2_with fail
      exact ⟨⟨k + 1,9,_,by omega,by go_num,rfl,.inr (.inr ⟨rfl,HSt.out⟩),HX4⟩,by simp [intOf];omega⟩
     ·obtain ⟨hE,hS⟩:=hearF (NS.answer noiseName [] l0 fivL) zer30 ⟨rfl,rfl⟩ (by decide)
      have HE:=ohid hE
      have HSt:=ohid hS
      have HS2:Hid ((NS.hear (NS.answer noiseName [] l0 fivL) zer30).st ≠ 2):=by show _ ≠ _;rw [hS];decide
      clear hE hS
      go_wp2_with fail
      clear hmk hcell
      refine (nHear_any gb _ (some ⟨wr.heap.size,0,none⟩) 30 30 zer30 U HXU.out.h HZ.out (fun e => by cases e) (by omega) (by omega) (by unfold maxLen;omega) (fun _ y o f e => by cases e;exact HUs.out) HXU.out.tab HXU.out.k).mono ?_
      intro e W3 hR3
      obtain ⟨v3,rfl,hX3⟩:=HXU.out.step hR3
      rw [HE.out]
      have HX3:=ohid hX3
      clear hR3 hX3 HXU HZ HUs
      go_wp2_with fail
      refine (nSplit_no gb _ W3 HX3.out.h HX3.out.tab HS2.out).mono ?_
      rintro e W4 ⟨rfl,hb4⟩
      obtain ⟨Y1,Y2,Y3,s1,s2,s3,hbY⟩:=sp_zero W4
      simp only [ciZ,zero32C,List.replicate] at s1
      have hl1:=zeroCi_length
      have hl2:zeroKb.length = 32:=rfl
      have HX4:=ohid ((HX3.out.later hb4).later hbY)
      obtain ⟨zc,hzc⟩:∃ zc,zeroCi = zc:=⟨_,rfl⟩
      obtain ⟨zk,hzk⟩:∃ zk,zeroKb = zk:=⟨_,rfl⟩
      rw [hzc] at s1 s2 hl1
      rw [hzk] at s3 hl2
      rw [hzc,hzk]
      clear hb4 hbY HX3 hzc hzk
      go_wp2_with fail
      exact ⟨⟨k + 1,9,_,by omega,by go_num,rfl,.inr (.inr ⟨rfl,HSt.out⟩),HX4⟩,by simp [intOf];omega⟩
     ·obtain ⟨hE,hS⟩:=secondE (NS.answer noiseName [] l0 fivL) zer30 (by simp [NS.answer])
      have HE:=ohid hE
      have HSt:=ohid hS
      have HS2:Hid ((NS.second (NS.answer noiseName [] l0 fivL) zer30).st ≠ 2):=by show _ ≠ _;rw [hS];decide
      clear hE hS
      go_wp2_with fail
      clear hmk hcell
      refine (nSecond_any gb _ (some ⟨wr.heap.size,0,none⟩) 30 30 zer30 U HXU.out.h HZ.out (fun e => by cases e) (by omega) (by omega) (by unfold maxLen;omega) (fun _ y o f e => by cases e;exact HUs.out) HXU.out.tab HXU.out.k).mono ?_
      intro e W3 hR3
      obtain ⟨v3,rfl,hX3⟩:=HXU.out.step hR3
      rw [HE.out]
      have HX3:=ohid hX3
      clear hR3 hX3 HXU HZ HUs
      go_wp2_with fail
      refine (nSplit_no gb _ W3 HX3.out.h HX3.out.tab HS2.out).mono ?_
      rintro e W4 ⟨rfl,hb4⟩
      obtain ⟨Y1,Y2,Y3,s1,s2,s3,hbY⟩:=sp_zero W4
      simp only [ciZ,zero32C,List.replicate] at s1
      have hl1:=zeroCi_length
      have hl2:zeroKb.length = 32:=rfl
      have HX4:=ohid ((HX3.out.later hb4).later hbY)
      obtain ⟨zc,hzc⟩:∃ zc,zeroCi = zc:=⟨_,rfl⟩
      obtain ⟨zk,hzk⟩:∃ zk,zeroKb = zk:=⟨_,rfl⟩
      rw [hzc] at s1 s2 hl1
      rw [hzk] at s3 hl2
      rw [hzc,hzk]
      clear hb4 hbY HX3 hzc hzk
      go_wp2_with fail
      exact ⟨⟨k + 1,9,_,by omega,by go_num,rfl,.inr (.inr ⟨rfl,HSt.out⟩),HX4⟩,by simp [intOf];omega⟩
     ·obtain ⟨hE,hS⟩:=doneE (NS.answer noiseName [] l0 fivL) zer30 (by simp [NS.answer])
      have HE:=ohid hE
      have HSt:=ohid hS
      have HS2:Hid ((NS.done (NS.answer noiseName [] l0 fivL) zer30).st ≠ 2):=by show _ ≠ _;rw [hS];decide
      clear hE hS
      go_wp2_with fail
      clear hmk hcell
      refine (nDone_any gb _ (some ⟨wr.heap.size,0,none⟩) 30 30 zer30 U HXU.out.h HZ.out (fun e => by cases e) (by omega) (by omega) (by unfold maxLen;omega) (fun _ y o f e => by cases e;exact HUs.out) HXU.out.tab HXU.out.k).mono ?_
      intro e W3 hR3
      obtain ⟨v3,rfl,hX3⟩:=HXU.out.step hR3
      rw [HE.out]
      have HX3:=ohid hX3
      clear hR3 hX3 HXU HZ HUs
      go_wp2_with fail
      refine (nSplit_no gb _ W3 HX3.out.h HX3.out.tab HS2.out).mono ?_
      rintro e W4 ⟨rfl,hb4⟩
      obtain ⟨Y1,Y2,Y3,s1,s2,s3,hbY⟩:=sp_zero W4
      simp only [ciZ,zero32C,List.replicate] at s1
      have hl1:=zeroCi_length
      have hl2:zeroKb.length = 32:=rfl
      have HX4:=ohid ((HX3.out.later hb4).later hbY)
      obtain ⟨zc,hzc⟩:∃ zc,zeroCi = zc:=⟨_,rfl⟩
      obtain ⟨zk,hzk⟩:∃ zk,zeroKb = zk:=⟨_,rfl⟩
      rw [hzc] at s1 s2 hl1
      rw [hzk] at s3 hl2
      rw [hzc,hzk]
      clear hb4 hbY HX3 hzc hzk
      go_wp2_with fail
      exact ⟨⟨k + 1,9,_,by omega,by go_num,rfl,.inr (.inr ⟨rfl,HSt.out⟩),HX4⟩,by simp [intOf];omega⟩
    ·cases hss
    ·clear HPh
     rcases hqc with rfl | rfl | rfl | rfl
     ·obtain ⟨hE,hS⟩:=firstE (x) zer30 (by simp [hst])
      have HE:=ohid hE
      have HSt:=ohid hS
      have HS2:Hid ((NS.first (x) zer30).st ≠ 2):=by show _ ≠ _;rw [hS];decide
      clear hE hS
      go_wp2_with fail
      clear hmk hcell
      refine (nFirst_any gb _ (some ⟨wr.heap.size,0,none⟩) 30 30 zer30 U HXU.out.h HZ.out (fun e => by cases e) (by omega) (by omega) (by unfold maxLen;omega) (fun _ y o f e => by cases e;exact HUs.out) HXU.out.tab HXU.out.k).mono ?_
      intro e W3 hR3
      obtain ⟨v3,rfl,hX3⟩:=HXU.out.step hR3
      rw [HE.out]
      have HX3:=ohid hX3
      clear hR3 hX3 HXU HZ HUs
      go_wp2_with fail
      refine (nSplit_no gb _ W3 HX3.out.h HX3.out.tab HS2.out).mono ?_
      rintro e W4 ⟨rfl,hb4⟩
      obtain ⟨Y1,Y2,Y3,s1,s2,s3,hbY⟩:=sp_zero W4
      simp only [ciZ,zero32C,List.replicate] at s1
      have hl1:=zeroCi_length
      have hl2:zeroKb.length = 32:=rfl
      have HX4:=ohid ((HX3.out.later hb4).later hbY)
      obtain ⟨zc,hzc⟩:∃ zc,zeroCi = zc:=⟨_,rfl⟩
      obtain ⟨zk,hzk⟩:∃ zk,zeroKb = zk:=⟨_,rfl⟩
      rw [hzc] at s1 s2 hl1
      rw [hzk] at s3 hl2
      rw [hzc,hzk]
      clear hb4 hbY HX3 hzc hzk
      go_wp2_with fail
      exact ⟨⟨k + 1,9,_,by omega,by go_num,rfl,.inr (.inr ⟨rfl,HSt.out⟩),HX4⟩,by simp [intOf];omega⟩
     ·obtain ⟨hE,hS⟩:=hearE (x) zer30 (by simp [hst])
      have HE:=ohid hE
      have HSt:=ohid hS
      have HS2:Hid ((NS.hear (x) zer30).st ≠ 2):=by show _ ≠ _;rw [hS];decide
      clear hE hS
      go_wp2_with fail
      clear hmk hcell
      refine (nHear_any gb _ (some ⟨wr.heap.size,0,none⟩) 30 30 zer30 U HXU.out.h HZ.out (fun e => by cases e) (by omega) (by omega) (by unfold maxLen;omega) (fun _ y o f e => by cases e;exact HUs.out) HXU.out.tab HXU.out.k).mono ?_
      intro e W3 hR3
      obtain ⟨v3,rfl,hX3⟩:=HXU.out.step hR3
      rw [HE.out]
      have HX3:=ohid hX3
      clear hR3 hX3 HXU HZ HUs
      go_wp2_with fail
      refine (nSplit_no gb _ W3 HX3.out.h HX3.out.tab HS2.out).mono ?_
      rintro e W4 ⟨rfl,hb4⟩
      obtain ⟨Y1,Y2,Y3,s1,s2,s3,hbY⟩:=sp_zero W4
      simp only [ciZ,zero32C,List.replicate] at s1
      have hl1:=zeroCi_length
      have hl2:zeroKb.length = 32:=rfl
      have HX4:=ohid ((HX3.out.later hb4).later hbY)
      obtain ⟨zc,hzc⟩:∃ zc,zeroCi = zc:=⟨_,rfl⟩
      obtain ⟨zk,hzk⟩:∃ zk,zeroKb = zk:=⟨_,rfl⟩
      rw [hzc] at s1 s2 hl1
      rw [hzk] at s3 hl2
      rw [hzc,hzk]
      clear hb4 hbY HX3 hzc hzk
      go_wp2_with fail
      exact ⟨⟨k + 1,9,_,by omega,by go_num,rfl,.inr (.inr ⟨rfl,HSt.out⟩),HX4⟩,by simp [intOf];omega⟩
     ·obtain ⟨hE,hS⟩:=secondE (x) zer30 (by simp [hst])
      have HE:=ohid hE
      have HSt:=ohid hS
      have HS2:Hid ((NS.second (x) zer30).st ≠ 2):=by show _ ≠ _;rw [hS];decide
      clear hE hS
      go_wp2_with fail
      clear hmk hcell
      refine (nSecond_any gb _ (some ⟨wr.heap.size,0,none⟩) 30 30 zer30 U HXU.out.h HZ.out (fun e => by cases e) (by omega) (by omega) (by unfold maxLen;omega) (fun _ y o f e => by cases e;exact HUs.out) HXU.out.tab HXU.out.k).mono ?_
      intro e W3 hR3
      obtain ⟨v3,rfl,hX3⟩:=HXU.out.step hR3
      rw [HE.out]
      have HX3:=ohid hX3
      clear hR3 hX3 HXU HZ HUs
      go_wp2_with fail
      refine (nSplit_no gb _ W3 HX3.out.h HX3.out.tab HS2.out).mono ?_
      rintro e W4 ⟨rfl,hb4⟩
      obtain ⟨Y1,Y2,Y3,s1,s2,s3,hbY⟩:=sp_zero W4
      simp only [ciZ,zero32C,List.replicate] at s1
      have hl1:=zeroCi_length
      have hl2:zeroKb.length = 32:=rfl
      have HX4:=ohid ((HX3.out.later hb4).later hbY)
      obtain ⟨zc,hzc⟩:∃ zc,zeroCi = zc:=⟨_,rfl⟩
      obtain ⟨zk,hzk⟩:∃ zk,zeroKb = zk:=⟨_,rfl⟩
      rw [hzc] at s1 s2 hl1
      rw [hzk] at s3 hl2
      rw [hzc,hzk]
      clear hb4 hbY HX3 hzc hzk
      go_wp2_with fail
      exact ⟨⟨k + 1,9,_,by omega,by go_num,rfl,.inr (.inr ⟨rfl,HSt.out⟩),HX4⟩,by simp [intOf];omega⟩
     ·obtain ⟨hE,hS⟩:=doneE (x) zer30 (by simp [hst])
      have HE:=ohid hE
      have HSt:=ohid hS
      have HS2:Hid ((NS.done (x) zer30).st ≠ 2):=by show _ ≠ _;rw [hS];decide
      clear hE hS
      go_wp2_with fail
      clear hmk hcell
      refine (nDone_any gb _ (some ⟨wr.heap.size,0,none⟩) 30 30 zer30 U HXU.out.h HZ.out (fun e => by cases e) (by omega) (by omega) (by unfold maxLen;omega) (fun _ y o f e => by cases e;exact HUs.out) HXU.out.tab HXU.out.k).mono ?_
      intro e W3 hR3
      obtain ⟨v3,rfl,hX3⟩:=HXU.out.step hR3
      rw [HE.out]
      have HX3:=ohid hX3
      clear hR3 hX3 HXU HZ HUs
      go_wp2_with fail
      refine (nSplit_no gb _ W3 HX3.out.h HX3.out.tab HS2.out).mono ?_
      rintro e W4 ⟨rfl,hb4⟩
      obtain ⟨Y1,Y2,Y3,s1,s2,s3,hbY⟩:=sp_zero W4
      simp only [ciZ,zero32C,List.replicate] at s1
      have hl1:=zeroCi_length
      have hl2:zeroKb.length = 32:=rfl
      have HX4:=ohid ((HX3.out.later hb4).later hbY)
      obtain ⟨zc,hzc⟩:∃ zc,zeroCi = zc:=⟨_,rfl⟩
      obtain ⟨zk,hzk⟩:∃ zk,zeroKb = zk:=⟨_,rfl⟩
      rw [hzc] at s1 s2 hl1
      rw [hzk] at s3 hl2
      rw [hzc,hzk]
      clear hb4 hbY HX3 hzc hzk
      go_wp2_with fail
      exact ⟨⟨k + 1,9,_,by omega,by go_num,rfl,.inr (.inr ⟨rfl,HSt.out⟩),HX4⟩,by simp [intOf];omega⟩
   ·have HW:=ohid HX.out.bel
    clear HX HPh
    rcases Nat.lt_or_ge k len2 with hc1 | hc1
    ·have i1:(k:Int) < (len2:Int):=by omega
     have i2:¬ (k:Int) < 6:=by omega
     go_wp2
     go_ret
     exact ⟨rfl,HW.out⟩
    ·have i1:¬ (k:Int) < (len2:Int):=by omega
     go_wp2
     go_ret
     exact ⟨rfl,HW.out⟩
 | true =>
  clear HB2
  obtain ⟨W,hW⟩:∃ W,V2.drew = W:=⟨_,rfl⟩
  have hgr:Below V2.heap.size V2 W:=by rw [← hW];exact (Below.refl _ _).drew
  have HWe:=ohid hW
  have HKW:=ohid (HK2.out.later hgr)
  have HWW:=ohid (HW2.out.trans (hgr.mono HW2.out.size))
  clear hW hgr HK2 HW2
  go_wp2_with fail
  refine wp_region_sched' (G:=Grows) (by kernel_rfl) Grows.refl Grows.trans (by kernel_rfl) [(0,true),(1,true),(3,true),(2,false),(4,false),(5,true)] rfl (by kernel_rfl) ?_
  intro KK hKK
  rw [HWe.out]
  refine sched_take rfl (by rfl) (v:=.agg (l0.map bv).toArray) (fun w' hw' => exec_load_row 24 _ rfl w.heap.size rfl 24 _ (0,0) _ (HKW.out.later hw') Tryz.underlying24 rfl hIK.out) ?_
  go_simp
  iterate 2 (refine sched_take rfl (by rfl) (v:=?_) ?_ ?_;rotate_left;(intro w' hw';clear hw';go_simp;with_reducible rfl);go_simp)
  refine sched_call (f:=9) (args:=#[.agg (sevL.map bv).toArray]) rfl (by rfl) (by go_simp;rfl) ?_
  refine (public_any sevL W rfl (HT.out.later HWW.out).2).mono ?_
  rintro e V3 ⟨rfl,hb⟩
  refine ⟨_,rfl,hb,?_⟩
  have hRl:=pubB_length sevL
  obtain ⟨R,hR⟩:∃ R,pubB sevL = R:=⟨_,rfl⟩
  have hR':leB 32 (mX (clampK (leN sevL)) 9) = R:=hR
  rw [hR] at hRl
  rw [hR']
  have HRe:=ohid hR
  have HW3:=ohid (HWW.out.trans (hb.mono HWW.out.size))
  clear hb hR hR'
  go_simp
  refine sched_call (f:=10) (args:=#[.slice none 0 0,.agg (l0.map bv).toArray,.agg (R.map bv).toArray,.agg (fivL.map bv).toArray]) rfl (by rfl) (by go_simp;rfl) ?_
  refine (nStart_any none 0 0 [] l0 R fivL V3 w0 rfl hRl ⟨rfl,.inl rfl⟩ (fun _ => rfl) (by omega) (by omega) (by unfold maxLen;omega) (HT.out.later HW3.out)).mono ?_
  rintro e V4 ⟨ga,rfl,hga,hb,hA⟩
  refine ⟨_,rfl,hb,?_⟩
  rw [← HRe.out] at hA
  have HD:Hid (Tn w V4 ga (NS.begin_ noiseName [] l0 (pubB sevL) fivL)):=⟨hA,HW3.out.trans (hb.mono HW3.out.size),Nat.le_trans HW3.out.size hga,HT.out⟩
  clear hb hA hga HW3 HWW HKW HWe
  go_simp
  iterate 1 (refine sched_take rfl (by rfl) (v:=?_) ?_ ?_;rotate_left;(intro w' hw';clear hw';go_simp;with_reducible rfl);go_simp)
  refine sched_done hKK ?_
  clear hKK
  go_wp2_with fail
  go_loopw [9,10] (fun a i wr => ∃ (k at':Nat) (x:NS),k ≤ 6 ∧ i = .int .i64 k ∧ a = .int .i64 at' ∧ Hid (Ph at' true (NS.begin_ noiseName [] l0 (pubB sevL) fivL) x) ∧ Hid (Tn w wr ga x)) (fun _ i _ => 6 - (intOf i).toNat)
  case atStart => exact ⟨0,0,_,by omega,rfl,rfl,.inl ⟨rfl,rfl⟩,HD⟩
  case round =>
   clear HD
   obtain ⟨k,at',x,hk,rfl,rfl,HPh,HX⟩:=hrel
   by_cases hc:k < len2 ∧ k < 6
   ·obtain ⟨hc1,hc2⟩:=hc
    have i1:(k:Int) < (len2:Int):=by omega
    have i2:(k:Int) < 6:=by omega
    obtain ⟨z,xa,hxa,hcell⟩:∃ z xa,a2 = some xa ∧ wr.cell? (xa.add k) = some (.int .i64 z):=by
     rcases HR.out with ⟨_,h,_⟩ | ⟨xa,ha,hlc,hcm,hz,hcell,_⟩
     ·omega
     ·have h1:=hcell k (by omega)
      have h2:=World.block_lt_of_cell? w _ h1
      exact ⟨_,xa,ha,by rw [World.cell?_of_block (HX.out.bel.block _ h2)];exact h1⟩
    subst hxa
    obtain ⟨q,hq,hq4⟩:=cut16 z 3
    have hq':(bits .and .i64 z 65535).tmod 4 = (q:Int):=hq
    have hmk:(Instr.makeSlice 22 (.int .i64 30) (.int .i64 30)).run Tryz.prog wr = .ok (.slice (some ⟨wr.heap.size,0,none⟩) 30 30) (wr.alloc (.cells (zer30.map bv).toArray 5)):=make_zero wr 30 (by omega)
    have hal:Below wr.heap.size wr (wr.alloc (.cells (zer30.map bv).toArray 5)):=(Below.refl _ _).alloc (Nat.le_refl _) _
    have hzB:=(Arr.new wr 5 zer30).byt 30 rfl
    obtain ⟨U,hU⟩:∃ U,wr.alloc (.cells (zer30.map bv).toArray 5) = U:=⟨_,rfl⟩
    have hUs:wr.heap.size < U.heap.size:=by rw [← hU];simp
    rw [hU] at hmk hal hzB
    have HXU:=ohid (HX.out.later hal)
    have HZ:=ohid hzB
    have HWl:=ohid HX.out.lo
    have HUs:=ohid hUs
    have hqc:q = 0 ∨ q = 1 ∨ q = 2 ∨ q = 3:=by omega
    clear hq hq4 hal hzB hU hUs HX
    rcases HPh.out with ⟨rfl,rfl⟩ | ⟨rfl,hss,hst,hsr⟩ | ⟨rfl,hst⟩
    ·clear HPh
     rcases hqc with rfl | rfl | rfl | rfl
     ·have hE:=(firstO [] l0 zer30).1
      have hS:=(firstO [] l0 zer30).2
      have HE:=ohid hE
      have HSt:=ohid hS
      have HS2:Hid ((NS.first (NS.begin_ noiseName [] l0 (pubB sevL) fivL) zer30).st ≠ 2):=by show _ ≠ _;rw [hS.1];decide
      clear hE hS
      go_wp2_with fail
      clear hmk hcell
      refine (nFirst_any ga _ (some ⟨wr.heap.size,0,none⟩) 30 30 zer30 U HXU.out.h HZ.out (fun e => by cases e) (by omega) (by omega) (by unfold maxLen;omega) (fun _ y o f e => by cases e;exact HUs.out) HXU.out.tab HXU.out.k).mono ?_
      intro e W3 hR3
      obtain ⟨v3,rfl,hX3⟩:=HXU.out.step hR3
      rw [HE.out]
      have HX3:=ohid hX3
      clear hR3 hX3 HXU HZ HUs
      go_wp2_with fail
      refine (nSplit_no ga _ W3 HX3.out.h HX3.out.tab HS2.out).mono ?_
      rintro e W4 ⟨rfl,hb4⟩
      obtain ⟨Y1,Y2,Y3,s1,s2,s3,hbY⟩:=sp_zero W4
      simp only [ciZ,zero32C,List.replicate] at s1
      have hl1:=zeroCi_length
      have hl2:zeroKb.length = 32:=rfl
      have HX4:=ohid ((HX3.out.later hb4).later hbY)
      obtain ⟨zc,hzc⟩:∃ zc,zeroCi = zc:=⟨_,rfl⟩
      obtain ⟨zk,hzk⟩:∃ zk,zeroKb = zk:=⟨_,rfl⟩
      rw [hzc] at s1 s2 hl1
      rw [hzk] at s3 hl2
      rw [hzc,hzk]
      clear hb4 hbY HX3 hzc hzk
      go_wp2_with fail
      exact ⟨⟨k + 1,1,_,by omega,by go_num,rfl,.inr (.inl ⟨rfl,rfl,HSt.out⟩),HX4⟩,by simp [intOf];omega⟩
     ·obtain ⟨hE,hS⟩:=hearE (NS.begin_ noiseName [] l0 (pubB sevL) fivL) zer30 (by simp [NS.begin_])
      have HE:=ohid hE
      have HSt:=ohid hS
      have HS2:Hid ((NS.hear (NS.begin_ noiseName [] l0 (pubB sevL) fivL) zer30).st ≠ 2):=by show _ ≠ _;rw [hS];decide
      clear hE hS
      go_wp2_with fail
      clear hmk hcell
      refine (nHear_any ga _ (some ⟨wr.heap.size,0,none⟩) 30 30 zer30 U HXU.out.h HZ.out (fun e => by cases e) (by omega) (by omega) (by unfold maxLen;omega) (fun _ y o f e => by cases e;exact HUs.out) HXU.out.tab HXU.out.k).mono ?_
      intro e W3 hR3
      obtain ⟨v3,rfl,hX3⟩:=HXU.out.step hR3
      rw [HE.out]
      have HX3:=ohid hX3
      clear hR3 hX3 HXU HZ HUs
      go_wp2_with fail
      refine (nSplit_no ga _ W3 HX3.out.h HX3.out.tab HS2.out).mono ?_
      rintro e W4 ⟨rfl,hb4⟩
      obtain ⟨Y1,Y2,Y3,s1,s2,s3,hbY⟩:=sp_zero W4
      simp only [ciZ,zero32C,List.replicate] at s1
      have hl1:=zeroCi_length
      have hl2:zeroKb.length = 32:=rfl
      have HX4:=ohid ((HX3.out.later hb4).later hbY)
      obtain ⟨zc,hzc⟩:∃ zc,zeroCi = zc:=⟨_,rfl⟩
      obtain ⟨zk,hzk⟩:∃ zk,zeroKb = zk:=⟨_,rfl⟩
      rw [hzc] at s1 s2 hl1
      rw [hzk] at s3 hl2
      rw [hzc,hzk]
      clear hb4 hbY HX3 hzc hzk
      go_wp2_with fail
      exact ⟨⟨k + 1,9,_,by omega,by go_num,rfl,.inr (.inr ⟨rfl,HSt.out⟩),HX4⟩,by simp [intOf];omega⟩
     ·obtain ⟨hE,hS⟩:=secondE (NS.begin_ noiseName [] l0 (pubB sevL) fivL) zer30 (by simp [NS.begin_])
      have HE:=ohid hE
      have HSt:=ohid hS
      have HS2:Hid ((NS.second (NS.begin_ noiseName [] l0 (pubB sevL) fivL) zer30).st ≠ 2):=by show _ ≠ _;rw [hS];decide
      clear hE hS
      go_wp2_with fail
      clear hmk hcell
      refine (nSecond_any ga _ (some ⟨wr.heap.size,0,none⟩) 30 30 zer30 U HXU.out.h HZ.out (fun e => by cases e) (by omega) (by omega) (by unfold maxLen;omega) (fun _ y o f e => by cases e;exact HUs.out) HXU.out.tab HXU.out.k).mono ?_
      intro e W3 hR3
      obtain ⟨v3,rfl,hX3⟩:=HXU.out.step hR3
      rw [HE.out]
      have HX3:=ohid hX3
      clear hR3 hX3 HXU HZ HUs
      go_wp2_with fail
      refine (nSplit_no ga _ W3 HX3.out.h HX3.out.tab HS2.out).mono ?_
      rintro e W4 ⟨rfl,hb4⟩
      obtain ⟨Y1,Y2,Y3,s1,s2,s3,hbY⟩:=sp_zero W4
      simp only [ciZ,zero32C,List.replicate] at s1
      have hl1:=zeroCi_length
      have hl2:zeroKb.length = 32:=rfl
      have HX4:=ohid ((HX3.out.later hb4).later hbY)
      obtain ⟨zc,hzc⟩:∃ zc,zeroCi = zc:=⟨_,rfl⟩
      obtain ⟨zk,hzk⟩:∃ zk,zeroKb = zk:=⟨_,rfl⟩
      rw [hzc] at s1 s2 hl1
      rw [hzk] at s3 hl2
      rw [hzc,hzk]
      clear hb4 hbY HX3 hzc hzk
      go_wp2_with fail
      exact ⟨⟨k + 1,9,_,by omega,by go_num,rfl,.inr (.inr ⟨rfl,HSt.out⟩),HX4⟩,by simp [intOf];omega⟩
     ·obtain ⟨hE,hS⟩:=doneE (NS.begin_ noiseName [] l0 (pubB sevL) fivL) zer30 (by simp [NS.begin_])
      have HE:=ohid hE
      have HSt:=ohid hS
      have HS2:Hid ((NS.done (NS.begin_ noiseName [] l0 (pubB sevL) fivL) zer30).st ≠ 2):=by show _ ≠ _;rw [hS];decide
      clear hE hS
      go_wp2_with fail
      clear hmk hcell
      refine (nDone_any ga _ (some ⟨wr.heap.size,0,none⟩) 30 30 zer30 U HXU.out.h HZ.out (fun e => by cases e) (by omega) (by omega) (by unfold maxLen;omega) (fun _ y o f e => by cases e;exact HUs.out) HXU.out.tab HXU.out.k).mono ?_
      intro e W3 hR3
      obtain ⟨v3,rfl,hX3⟩:=HXU.out.step hR3
      rw [HE.out]
      have HX3:=ohid hX3
      clear hR3 hX3 HXU HZ HUs
      go_wp2_with fail
      refine (nSplit_no ga _ W3 HX3.out.h HX3.out.tab HS2.out).mono ?_
      rintro e W4 ⟨rfl,hb4⟩
      obtain ⟨Y1,Y2,Y3,s1,s2,s3,hbY⟩:=sp_zero W4
      simp only [ciZ,zero32C,List.replicate] at s1
      have hl1:=zeroCi_length
      have hl2:zeroKb.length = 32:=rfl
      have HX4:=ohid ((HX3.out.later hb4).later hbY)
      obtain ⟨zc,hzc⟩:∃ zc,zeroCi = zc:=⟨_,rfl⟩
      obtain ⟨zk,hzk⟩:∃ zk,zeroKb = zk:=⟨_,rfl⟩
      rw [hzc] at s1 s2 hl1
      rw [hzk] at s3 hl2
      rw [hzc,hzk]
      clear hb4 hbY HX3 hzc hzk
      go_wp2_with fail
      exact ⟨⟨k + 1,9,_,by omega,by go_num,rfl,.inr (.inr ⟨rfl,HSt.out⟩),HX4⟩,by simp [intOf];omega⟩
    ·clear HPh
     rcases hqc with rfl | rfl | rfl | rfl
     ·obtain ⟨hE,hS⟩:=firstE (x) zer30 (by simp [hst,hsr])
      have HE:=ohid hE
      have HSt:=ohid hS
      have HS2:Hid ((NS.first (x) zer30).st ≠ 2):=by show _ ≠ _;rw [hS];decide
      clear hE hS
      go_wp2_with fail
      clear hmk hcell
      refine (nFirst_any ga _ (some ⟨wr.heap.size,0,none⟩) 30 30 zer30 U HXU.out.h HZ.out (fun e => by cases e) (by omega) (by omega) (by unfold maxLen;omega) (fun _ y o f e => by cases e;exact HUs.out) HXU.out.tab HXU.out.k).mono ?_
      intro e W3 hR3
      obtain ⟨v3,rfl,hX3⟩:=HXU.out.step hR3
      rw [HE.out]
      have HX3:=ohid hX3
      clear hR3 hX3 HXU HZ HUs
      go_wp2_with fail
      refine (nSplit_no ga _ W3 HX3.out.h HX3.out.tab HS2.out).mono ?_
      rintro e W4 ⟨rfl,hb4⟩
      obtain ⟨Y1,Y2,Y3,s1,s2,s3,hbY⟩:=sp_zero W4
      simp only [ciZ,zero32C,List.replicate] at s1
      have hl1:=zeroCi_length
      have hl2:zeroKb.length = 32:=rfl
      have HX4:=ohid ((HX3.out.later hb4).later hbY)
      obtain ⟨zc,hzc⟩:∃ zc,zeroCi = zc:=⟨_,rfl⟩
      obtain ⟨zk,hzk⟩:∃ zk,zeroKb = zk:=⟨_,rfl⟩
      rw [hzc] at s1 s2 hl1
      rw [hzk] at s3 hl2
      rw [hzc,hzk]
      clear hb4 hbY HX3 hzc hzk
      go_wp2_with fail
      exact ⟨⟨k + 1,9,_,by omega,by go_num,rfl,.inr (.inr ⟨rfl,HSt.out⟩),HX4⟩,by simp [intOf];omega⟩
     ·obtain ⟨hE,hS⟩:=hearE (x) zer30 (by simp [hst,hsr])
      have HE:=ohid hE
      have HSt:=ohid hS
      have HS2:Hid ((NS.hear (x) zer30).st ≠ 2):=by show _ ≠ _;rw [hS];decide
      clear hE hS
      go_wp2_with fail
      clear hmk hcell
      refine (nHear_any ga _ (some ⟨wr.heap.size,0,none⟩) 30 30 zer30 U HXU.out.h HZ.out (fun e => by cases e) (by omega) (by omega) (by unfold maxLen;omega) (fun _ y o f e => by cases e;exact HUs.out) HXU.out.tab HXU.out.k).mono ?_
      intro e W3 hR3
      obtain ⟨v3,rfl,hX3⟩:=HXU.out.step hR3
      rw [HE.out]
      have HX3:=ohid hX3
      clear hR3 hX3 HXU HZ HUs
      go_wp2_with fail
      refine (nSplit_no ga _ W3 HX3.out.h HX3.out.tab HS2.out).mono ?_
      rintro e W4 ⟨rfl,hb4⟩
      obtain ⟨Y1,Y2,Y3,s1,s2,s3,hbY⟩:=sp_zero W4
      simp only [ciZ,zero32C,List.replicate] at s1
      have hl1:=zeroCi_length
      have hl2:zeroKb.length = 32:=rfl
      have HX4:=ohid ((HX3.out.later hb4).later hbY)
      obtain ⟨zc,hzc⟩:∃ zc,zeroCi = zc:=⟨_,rfl⟩
      obtain ⟨zk,hzk⟩:∃ zk,zeroKb = zk:=⟨_,rfl⟩
      rw [hzc] at s1 s2 hl1
      rw [hzk] at s3 hl2
      rw [hzc,hzk]
      clear hb4 hbY HX3 hzc hzk
      go_wp2_with fail
      exact ⟨⟨k + 1,9,_,by omega,by go_num,rfl,.inr (.inr ⟨rfl,HSt.out⟩),HX4⟩,by simp [intOf];omega⟩
     ·obtain ⟨hE,hS⟩:=secondE (x) zer30 (by simp [hst,hsr])
      have HE:=ohid hE
      have HSt:=ohid hS
      have HS2:Hid ((NS.second (x) zer30).st ≠ 2):=by show _ ≠ _;rw [hS];decide
      clear hE hS
      go_wp2_with fail
      clear hmk hcell
      refine (nSecond_any ga _ (some ⟨wr.heap.size,0,none⟩) 30 30 zer30 U HXU.out.h HZ.out (fun e => by cases e) (by omega) (by omega) (by unfold maxLen;omega) (fun _ y o f e => by cases e;exact HUs.out) HXU.out.tab HXU.out.k).mono ?_
      intro e W3 hR3
      obtain ⟨v3,rfl,hX3⟩:=HXU.out.step hR3
      rw [HE.out]
      have HX3:=ohid hX3
      clear hR3 hX3 HXU HZ HUs
      go_wp2_with fail
      refine (nSplit_no ga _ W3 HX3.out.h HX3.out.tab HS2.out).mono ?_
      rintro e W4 ⟨rfl,hb4⟩
      obtain ⟨Y1,Y2,Y3,s1,s2,s3,hbY⟩:=sp_zero W4
      simp only [ciZ,zero32C,List.replicate] at s1
      have hl1:=zeroCi_length
      have hl2:zeroKb.length = 32:=rfl
      have HX4:=ohid ((HX3.out.later hb4).later hbY)
      obtain ⟨zc,hzc⟩:∃ zc,zeroCi = zc:=⟨_,rfl⟩
      obtain ⟨zk,hzk⟩:∃ zk,zeroKb = zk:=⟨_,rfl⟩
      rw [hzc] at s1 s2 hl1
      rw [hzk] at s3 hl2
      rw [hzc,hzk]
      clear hb4 hbY HX3 hzc hzk
      go_wp2_with fail
      exact ⟨⟨k + 1,9,_,by omega,by go_num,rfl,.inr (.inr ⟨rfl,HSt.out⟩),HX4⟩,by simp [intOf];omega⟩
     ·obtain ⟨hE,hS⟩:=doneF x zer30 ⟨hsr,hst⟩ (by decide)
      have HE:=ohid hE
      have HSt:=ohid hS
      have HS2:Hid ((NS.done (x) zer30).st ≠ 2):=by show _ ≠ _;rw [hS];decide
      clear hE hS
      go_wp2_with fail
      clear hmk hcell
      refine (nDone_any ga _ (some ⟨wr.heap.size,0,none⟩) 30 30 zer30 U HXU.out.h HZ.out (fun e => by cases e) (by omega) (by omega) (by unfold maxLen;omega) (fun _ y o f e => by cases e;exact HUs.out) HXU.out.tab HXU.out.k).mono ?_
      intro e W3 hR3
      obtain ⟨v3,rfl,hX3⟩:=HXU.out.step hR3
      rw [HE.out]
      have HX3:=ohid hX3
      clear hR3 hX3 HXU HZ HUs
      go_wp2_with fail
      refine (nSplit_no ga _ W3 HX3.out.h HX3.out.tab HS2.out).mono ?_
      rintro e W4 ⟨rfl,hb4⟩
      obtain ⟨Y1,Y2,Y3,s1,s2,s3,hbY⟩:=sp_zero W4
      simp only [ciZ,zero32C,List.replicate] at s1
      have hl1:=zeroCi_length
      have hl2:zeroKb.length = 32:=rfl
      have HX4:=ohid ((HX3.out.later hb4).later hbY)
      obtain ⟨zc,hzc⟩:∃ zc,zeroCi = zc:=⟨_,rfl⟩
      obtain ⟨zk,hzk⟩:∃ zk,zeroKb = zk:=⟨_,rfl⟩
      rw [hzc] at s1 s2 hl1
      rw [hzk] at s3 hl2
      rw [hzc,hzk]
      clear hb4 hbY HX3 hzc hzk
      go_wp2_with fail
      exact ⟨⟨k + 1,9,_,by omega,by go_num,rfl,.inr (.inr ⟨rfl,HSt.out⟩),HX4⟩,by simp [intOf];omega⟩
    ·clear HPh
     rcases hqc with rfl | rfl | rfl | rfl
     ·obtain ⟨hE,hS⟩:=firstE (x) zer30 (by simp [hst])
      have HE:=ohid hE
      have HSt:=ohid hS
      have HS2:Hid ((NS.first (x) zer30).st ≠ 2):=by show _ ≠ _;rw [hS];decide
      clear hE hS
      go_wp2_with fail
      clear hmk hcell
      refine (nFirst_any ga _ (some ⟨wr.heap.size,0,none⟩) 30 30 zer30 U HXU.out.h HZ.out (fun e => by cases e) (by omega) (by omega) (by unfold maxLen;omega) (fun _ y o f e => by cases e;exact HUs.out) HXU.out.tab HXU.out.k).mono ?_
      intro e W3 hR3
      obtain ⟨v3,rfl,hX3⟩:=HXU.out.step hR3
      rw [HE.out]
      have HX3:=ohid hX3
      clear hR3 hX3 HXU HZ HUs
      go_wp2_with fail
      refine (nSplit_no ga _ W3 HX3.out.h HX3.out.tab HS2.out).mono ?_
      rintro e W4 ⟨rfl,hb4⟩
      obtain ⟨Y1,Y2,Y3,s1,s2,s3,hbY⟩:=sp_zero W4
      simp only [ciZ,zero32C,List.replicate] at s1
      have hl1:=zeroCi_length
      have hl2:zeroKb.length = 32:=rfl
      have HX4:=ohid ((HX3.out.later hb4).later hbY)
      obtain ⟨zc,hzc⟩:∃ zc,zeroCi = zc:=⟨_,rfl⟩
      obtain ⟨zk,hzk⟩:∃ zk,zeroKb = zk:=⟨_,rfl⟩
      rw [hzc] at s1 s2 hl1
      rw [hzk] at s3 hl2
      rw [hzc,hzk]
      clear hb4 hbY HX3 hzc hzk
      go_wp2_with fail
      exact ⟨⟨k + 1,9,_,by omega,by go_num,rfl,.inr (.inr ⟨rfl,HSt.out⟩),HX4⟩,by simp [intOf];omega⟩
     ·obtain ⟨hE,hS⟩:=hearE (x) zer30 (by simp [hst])
      have HE:=ohid hE
      have HSt:=ohid hS
      have HS2:Hid ((NS.hear (x) zer30).st ≠ 2):=by show _ ≠ _;rw [hS];decide
      clear hE hS
      go_wp2_with fail
      clear hmk hcell
      refine (nHear_any ga _ (some ⟨wr.heap.size,0,none⟩) 30 30 zer30 U HXU.out.h HZ.out (fun e => by cases e) (by omega) (by omega) (by unfold maxLen;omega) (fun _ y o f e => by cases e;exact HUs.out) HXU.out.tab HXU.out.k).mono ?_
      intro e W3 hR3
      obtain ⟨v3,rfl,hX3⟩:=HXU.out.step hR3
      rw [HE.out]
      have HX3:=ohid hX3
      clear hR3 hX3 HXU HZ HUs
      go_wp2_with fail
      refine (nSplit_no ga _ W3 HX3.out.h HX3.out.tab HS2.out).mono ?_
      rintro e W4 ⟨rfl,hb4⟩
      obtain ⟨Y1,Y2,Y3,s1,s2,s3,hbY⟩:=sp_zero W4
      simp only [ciZ,zero32C,List.replicate] at s1
      have hl1:=zeroCi_length
      have hl2:zeroKb.length = 32:=rfl
      have HX4:=ohid ((HX3.out.later hb4).later hbY)
      obtain ⟨zc,hzc⟩:∃ zc,zeroCi = zc:=⟨_,rfl⟩
      obtain ⟨zk,hzk⟩:∃ zk,zeroKb = zk:=⟨_,rfl⟩
      rw [hzc] at s1 s2 hl1
      rw [hzk] at s3 hl2
      rw [hzc,hzk]
      clear hb4 hbY HX3 hzc hzk
      go_wp2_with fail
      exact ⟨⟨k + 1,9,_,by omega,by go_num,rfl,.inr (.inr ⟨rfl,HSt.out⟩),HX4⟩,by simp [intOf];omega⟩
     ·obtain ⟨hE,hS⟩:=secondE (x) zer30 (by simp [hst])
      have HE:=ohid hE
      have HSt:=ohid hS
      have HS2:Hid ((NS.second (x) zer30).st ≠ 2):=by show _ ≠ _;rw [hS];decide
      clear hE hS
      go_wp2_with fail
      clear hmk hcell
      refine (nSecond_any ga _ (some ⟨wr.heap.size,0,none⟩) 30 30 zer30 U HXU.out.h HZ.out (fun e => by cases e) (by omega) (by omega) (by unfold maxLen;omega) (fun _ y o f e => by cases e;exact HUs.out) HXU.out.tab HXU.out.k).mono ?_
      intro e W3 hR3
      obtain ⟨v3,rfl,hX3⟩:=HXU.out.step hR3
      rw [HE.out]
      have HX3:=ohid hX3
      clear hR3 hX3 HXU HZ HUs
      go_wp2_with fail
      refine (nSplit_no ga _ W3 HX3.out.h HX3.out.tab HS2.out).mono ?_
      rintro e W4 ⟨rfl,hb4⟩
      obtain ⟨Y1,Y2,Y3,s1,s2,s3,hbY⟩:=sp_zero W4
      simp only [ciZ,zero32C,List.replicate] at s1
      have hl1:=zeroCi_length
      have hl2:zeroKb.length = 32:=rfl
      have HX4:=ohid ((HX3.out.later hb4).later hbY)
      obtain ⟨zc,hzc⟩:∃ zc,zeroCi = zc:=⟨_,rfl⟩
      obtain ⟨zk,hzk⟩:∃ zk,zeroKb = zk:=⟨_,rfl⟩
      rw [hzc] at s1 s2 hl1
      rw [hzk] at s3 hl2
      rw [hzc,hzk]
      clear hb4 hbY HX3 hzc hzk
      go_wp2_with fail
      exact ⟨⟨k + 1,9,_,by omega,by go_num,rfl,.inr (.inr ⟨rfl,HSt.out⟩),HX4⟩,by simp [intOf];omega⟩
     ·obtain ⟨hE,hS⟩:=doneE (x) zer30 (by simp [hst])
      have HE:=ohid hE
      have HSt:=ohid hS
      have HS2:Hid ((NS.done (x) zer30).st ≠ 2):=by show _ ≠ _;rw [hS];decide
      clear hE hS
      go_wp2_with fail
      clear hmk hcell
      refine (nDone_any ga _ (some ⟨wr.heap.size,0,none⟩) 30 30 zer30 U HXU.out.h HZ.out (fun e => by cases e) (by omega) (by omega) (by unfold maxLen;omega) (fun _ y o f e => by cases e;exact HUs.out) HXU.out.tab HXU.out.k).mono ?_
      intro e W3 hR3
      obtain ⟨v3,rfl,hX3⟩:=HXU.out.step hR3
      rw [HE.out]
      have HX3:=ohid hX3
      clear hR3 hX3 HXU HZ HUs
      go_wp2_with fail
      refine (nSplit_no ga _ W3 HX3.out.h HX3.out.tab HS2.out).mono ?_
      rintro e W4 ⟨rfl,hb4⟩
      obtain ⟨Y1,Y2,Y3,s1,s2,s3,hbY⟩:=sp_zero W4
      simp only [ciZ,zero32C,List.replicate] at s1
      have hl1:=zeroCi_length
      have hl2:zeroKb.length = 32:=rfl
      have HX4:=ohid ((HX3.out.later hb4).later hbY)
      obtain ⟨zc,hzc⟩:∃ zc,zeroCi = zc:=⟨_,rfl⟩
      obtain ⟨zk,hzk⟩:∃ zk,zeroKb = zk:=⟨_,rfl⟩
      rw [hzc] at s1 s2 hl1
      rw [hzk] at s3 hl2
      rw [hzc,hzk]
      clear hb4 hbY HX3 hzc hzk
      go_wp2_with fail
      exact ⟨⟨k + 1,9,_,by omega,by go_num,rfl,.inr (.inr ⟨rfl,HSt.out⟩),HX4⟩,by simp [intOf];omega⟩
   ·have HW:=ohid HX.out.bel
    clear HX HPh
    rcases Nat.lt_or_ge k len2 with hc1 | hc1
    ·have i1:(k:Int) < (len2:Int):=by omega
     have i2:¬ (k:Int) < 6:=by omega
     go_wp2
     go_ret
     exact ⟨rfl,HW.out⟩
    ·have i1:¬ (k:Int) < (len2:Int):=by omega
     go_wp2
     go_ret
     exact ⟨rfl,HW.out⟩
end Go.Proofs.YthmkhdnnljdglaaGreatDoor.noiseTurns
