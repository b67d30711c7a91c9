import Derived.Test.YthmkhdnnljdglaaGreatDoorRows
import Derived.Test.YthmkhdnnljdglaaGreatDoorQah
import Derived.ProofKit
import Derived.LaidMore
import Derived.OpenShut
import Derived.Stop.Joined
import Derived.Test.YthmkhdnnljdglaaGreatDoorQax
import Derived.Test.YthmkhdnnljdglaaGreatDoorQai
namespace Go.Proofs.YthmkhdnnljdglaaGreatDoor
set_option linter.unusedVariables false
set_option maxRecDepth 100000
open Go.ChangeShapes Go.WideShapes Go.ChangeAt Go.RowKit
theorem laid_ints {H:Type} {enc:TypeId × Value → H} {P:Program} {W:World} {base:Nat} {sp:Nat → Bool} {held:Bool} {fuel n:Nat} {t e:TypeId} {k:IntKind} {cs:List Value} {d:DataW H} {p:List MemPlace}
  (ht:P.underlying t = some (.array n e)) (he:P.underlying e = some (.int k)) (hc:P.cellsOf e = 1) (hct:P.cellsOf t = n) (h:DataW.trod enc P W base sp held fuel t cs = some (d,p)) (zs:List Int) (hd:d = .agg (zs.map fun z => .lit (.int k z))) :
  cs = zs.map fun z => .int k z:=by
 obtain ⟨xs,m,rfl,hx,hlen,hn,hel⟩:=DataW.trod_array ht h
 simp only [Prod.mk.injEq] at hx
 have hx1:=hx.1
 rw [hd,DataW.agg.injEq] at hx1
 have hl:zs.length = n:=by
  have:=congrArg List.length hx1
  simpa [hn] using this
 apply List.ext_getElem
 ·simp [hl,hlen,hct]
 ·intro i h1 h2
  have hi:i < n:=by simp at h2;omega
  have he1:=hel i hi
  rw [hc,Nat.mul_one,List.getElem?_eq_getElem (by omega)] at he1
  obtain ⟨z,e1,e2,_⟩:=DataW.trod_int he he1
  have e3:cs[i] = .int k z:=by
   have:=congrArg (fun l:List Value => l[0]?) e1
   simpa [List.getElem?_take,List.getElem?_drop,h1] using this
  have e4:(DataW.lit (.int k (zs[i]'(by omega))):DataW H) = (xs[i]'(by omega)).1:=by
   have:=congrArg (fun l:List (DataW H) => l[i]?) hx1
   simpa [show i < zs.length by omega,show i < xs.length by omega] using this
  rw [e2] at e4
  have e5:zs[i]'(by omega) = z:=by simpa using e4
  rw [e3]
  simp [e5]
theorem laid_row {P:Program} {w:World} {n:String} {g:Nat} {cs:Array Value} (hg:P.globalNamed n = some g) (h:w.var? P n = some cs):∃ t fr,w.heap[g]? = some (.cells cs t fr):=by
 simp only [World.var?,hg,Option.bind_some] at h
 split at h
 ·rename_i hh
  cases h
  exact ⟨_,_,hh⟩
 ·cases h
def twZ:List Int:=twP.map fun x:Nat => (x:Int)
theorem gTw:Tryz.prog.globalNamed "hatchway/field.twiceP" = some 0:=by kernel_rfl
theorem tTw:(Tryz.prog.globals[0]?).map (·.type) = some 94:=by kernel_rfl
theorem laid_tw:(Rows.laid_hatchway_field_twiceP:DataW Unit) = .agg (twZ.map fun z => .lit (.int .u64 z)):=by kernel_rfl
def noiseLaid:List (String × DataW Unit):=[("hatchway/blake.iv",Rows.laid_hatchway_blake_iv),("hatchway/blake.rows",Rows.laid_hatchway_blake_rows),("hatchway/field.twiceP",Rows.laid_hatchway_field_twiceP)]
theorem tabs_of_laid {W:World} (h:laidMetH Tryz.prog noiseLaid W):Tab W ∧ FTab W:=by
 unfold noiseLaid at h
 rw [MakeChecks.laidMetH_plain _ _ _ (by kernel_rfl)] at h
 obtain ⟨ps,⟨g0,t0,cs0,f0,p0,q0,hg0,ht0,hv0,hd0,⟨g1,t1,cs1,f1,p1,q1,hg1,ht1,hv1,hd1,⟨g2,t2,cs2,f2,p2,q2,hg2,ht2,hv2,hd2,_,_⟩,_⟩,_⟩,_,_⟩:=h
 obtain rfl:=Option.some.inj (gIv.symm.trans hg0)
 obtain rfl:=Option.some.inj (gRows.symm.trans hg1)
 obtain rfl:=Option.some.inj (gTw.symm.trans hg2)
 obtain rfl:=Option.some.inj (tIv.symm.trans ht0)
 obtain rfl:=Option.some.inj (tRows.symm.trans ht1)
 obtain rfl:=Option.some.inj (tTw.symm.trans ht2)
 refine ⟨tab_of_vars hv0 hd0 hv1 hd1,?_⟩
 obtain ⟨t,fr,h⟩:=laid_row gTw hv2
 have e:=laid_ints Tryz.underlying94 Tryz.underlying40 (by kernel_rfl) (by kernel_rfl) hd2 twZ laid_tw
 have e2:cs2 = (twP.map nf).toArray:=by
  rw [← Array.toArray_toList (xs:=cs2),e,twZ,List.map_map]
  rfl
 rw [e2] at h
 exact ⟨t,fr,h⟩
theorem ndoor_met (os:Os) (args:Array Value):laidMetH Tryz.prog noiseLaid ((World.doorLaid Tryz.prog 400 os).forCall (fun _ _ => 0) ⟨#[],args,[]⟩).memory:=
 laidMetH_of_parts3 (fuel:=8) (laidMet_of_run' 8 (by kernel_rfl) (by kernel_rfl)) (by kernel_rfl) (by kernel_rfl)
end Go.Proofs.YthmkhdnnljdglaaGreatDoor
