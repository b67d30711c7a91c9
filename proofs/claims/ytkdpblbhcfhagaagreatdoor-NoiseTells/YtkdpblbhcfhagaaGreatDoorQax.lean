import Derived.Test.YtkdpblbhcfhagaaGreatDoorRows
import Derived.Test.YtkdpblbhcfhagaaGreatDoorQam
namespace Go.Proofs.YtkdpblbhcfhagaaGreatDoor
open Go.Proofs.Tryz
open _root_.Nat renaming le_refl → di, le_trans → kx, lt_of_lt_of_le → tV
open Go.RowKit.Below renaming refl → bZ, heap_alloc → jE
open Go.World renaming size_alloc → fx
open _root_.Array renaming getElem?_eq_some_iff → gD
open Go renaming undef → ag, World → aw, heap_alloc_new → eC
open _root_.List renaming replicate → cz, not_mem_nil → nj, mem_cons → mg, take_of_length_le → su
open Go.Exit renaming inBlock → nu
set_option maxHeartbeats 64000000
set_option linter.unusedVariables false
set_option maxRecDepth 100000
open Go.ChangeShapes Go.WideShapes Go.ChangeAt Go.RowKit
theorem RX {H:Type}{enc:TypeId×Value→H}{P:Program}{W:aw}{base:Nat}{sp:Nat→Bool}{held:Bool}{fuel n:Nat}{t e:TypeId}{k:IntKind}{cs:bK}{d:DataW H}{p:List MemPlace}
  (ht:P.underlying t=some (.array n e)) (he:P.underlying e=some (.int k)) (hc:P.cellsOf e=1) (hct:P.cellsOf t=n) (h:DataW.trod enc P W base sp held fuel t cs=some (d,p)) (zs:List Int) (hd:d= .agg (zs.map λz=> .lit (.int k z))):
  cs=zs.map λz=> .int k z:=by
 obtain⟨xs,m,rfl,hx,hlen,hn,J5⟩:=DataW.trod_array ht h;simp only[Prod.mk.injEq] at hx;have rm:=hx.1;rw[hd,DataW.agg.injEq] at rm;have hl:zs.length=n:=by
  have:=congrArg List.length rm
  simpa[hn] using this
 apply List.ext_getElem
 ·simp[hl,hlen,hct]
 ·intro i h1 h2;have hi:i<n:=by simp at h2;omega
  have I6:=J5 i hi;rw[hc,Nat.mul_one,List.getElem?_eq_getElem (by omega)] at I6;obtain⟨z,e1,e2,_⟩:=DataW.trod_int he I6;have e3:cs[i]= .int k z:=by
   have:=congrArg (λl:bK=>l[0]?) e1
   simpa[List.getElem?_take,List.getElem?_drop,h1] using this
  have e4:(DataW.lit (.int k (zs[i]'(by omega))):DataW H)=(xs[i]'(by omega)).1:=by
   have:=congrArg (λl:List (DataW H)=>l[i]?) rm
   simpa[show i<zs.length by omega,show i<xs.length by omega] using this
  rw[e2] at e4;have e5:zs[i]'(by omega)=z:=by simpa using e4
  rw[e3];simp[e5]
theorem Wp {P:Program}{w:aw}{n:String}{g:Nat}{cs:Array Value}(hg:P.globalNamed n=some g)(h:w.var? P n=some cs):∃t fr,w.heap[g]?=some (.cells cs t fr):=by
 simp only[World.var?,hg,Option.bind_some] at h;split at h
 ·rename_i hh
  cases h
  exact⟨_,_,hh⟩
 ·cases h
def twZ:List Int:=L9.map λx:Nat=>(x:Int)
theorem gTw:prog.globalNamed "hatchway/field.twiceP" =some 0:=by kernel_rfl
theorem tTw:(prog.globals[0]?).map (·.type)=some 80:=by kernel_rfl
theorem ZM:(Rows.laid_hatchway_field_twiceP:DataW Unit)= .agg (twZ.map λz=> .lit (.int .u64 z)):=by kernel_rfl
def pV:List (String×DataW Unit):=[("hatchway/blake.iv",Rows.laid_hatchway_blake_iv),("hatchway/blake.rows",Rows.laid_hatchway_blake_rows),("hatchway/field.twiceP",Rows.laid_hatchway_field_twiceP)]
theorem GO {W:aw}(h:laidMetH prog pV W):ke W∧tE W:=by
 unfold pV at h;rw[MakeChecks.laidMetH_plain _ _ _ (by kernel_rfl)] at h;obtain⟨ps,⟨g0,t0,cs0,f0,p0,q0,hg0,Xv,hv0,hd0,⟨g1,t1,ZZ,f1,p1,q1,uB,Xy,hv1,rb,⟨g2,t2,cs2,f2,p2,q2,kj,Mu,hv2,xi,_,_⟩,_⟩,_⟩,_,_⟩:=h;obtain rfl:=Option.some.inj (gIv.symm.trans hg0);obtain rfl:=Option.some.inj (ZY.symm.trans uB);obtain rfl:=Option.some.inj (gTw.symm.trans kj);obtain rfl:=Option.some.inj (tIv.symm.trans Xv);obtain rfl:=Option.some.inj (aga.symm.trans Xy);obtain rfl:=Option.some.inj (tTw.symm.trans Mu);refine⟨J6 hv0 hd0 hv1 rb,?_⟩;obtain⟨t,fr,h⟩:=Wp gTw hv2;have e:=RX underlying80 underlying40 (by kernel_rfl) (by kernel_rfl) xi twZ ZM;have e2:cs2=(L9.map nf).toArray:=by rw[←Array.toArray_toList (xs:=cs2),e,twZ,List.map_map];rfl
 rw[e2] at h;exact⟨t,fr,h⟩
theorem PR (os:Os)(args:Array Value):laidMetH prog pV ((World.doorLaid prog 400 os).forCall (λ_ _=>0) ⟨#[],args,[]⟩).memory:=
 laidMetH_of_parts3 (fuel:=8) (laidMet_of_run' 8 (by kernel_rfl) (by kernel_rfl)) (by kernel_rfl) (by kernel_rfl)
end Go.Proofs.YtkdpblbhcfhagaaGreatDoor
