import Derived.Test.YthmkhdnnljdglaaGreatDoorQaf
import Derived.Test.YthmkhdnnljdglaaGreatDoorQbl
import Derived.Test.YthmkhdnnljdglaaGreatDoorQbm
import Derived.Test.YthmkhdnnljdglaaGreatDoorQbn
namespace Go.Proofs.YthmkhdnnljdglaaGreatDoor
set_option linter.unusedVariables false
set_option maxRecDepth 100000
open Go.RowKit
namespace NS
theorem first_is (x:NS) (t:List UInt8) (h:firstErr x = 0):first x t = ⟨(f2 x).sealed t,x.own,x.once,x.R,x.S,x.starts,1⟩:=by unfold first;rw [if_pos h]
def ag1 (name pro own other once t:List UInt8):NS:=first (begin_ name pro own (pubB other) once) t
def agX (name pro own other once t:List UInt8):List UInt8:=firstOut (begin_ name pro own (pubB other) once) t
def bg1 (name pro own other once one t:List UInt8):NS:=hear (answer name pro other one) (agX name pro own other once t)
def bg2 (name pro own other once one t t2:List UInt8):NS:=second (bg1 name pro own other once one t) t2
def agZ (name pro own other once one t t2:List UInt8):List UInt8:=secondOut (bg1 name pro own other once one t) t2
def ag2 (name pro own other once one t t2:List UInt8):NS:=done (ag1 name pro own other once t) (agZ name pro own other once one t t2)
structure Agreed (name pro own other once one t t2:List UInt8):Prop where
 e1:firstErr (begin_ name pro own (pubB other) once) = 0
 l1:(agX name pro own other once t).length = 96 + t.length
 e2:hearErr (answer name pro other one) (agX name pro own other once t) = 0
 o2:hearOut (answer name pro other one) (agX name pro own other once t) = t
 e3:secondErr (bg1 name pro own other once one t) = 0
 l3:(agZ name pro own other once one t t2).length = 48 + t2.length
 e4:doneErr (ag1 name pro own other once t) (agZ name pro own other once one t t2) = 0
 o4:doneOut (ag1 name pro own other once t) (agZ name pro own other once one t t2) = t2
 m:(ag2 name pro own other once one t t2).M = (bg2 name pro own other once one t t2).M
 sa:(ag2 name pro own other once one t t2).st = 2
 sb:(bg2 name pro own other once one t t2).st = 2
 ta:(ag2 name pro own other once one t t2).starts = true
 tb:(bg2 name pro own other once one t t2).starts = false
 Sa:(ag2 name pro own other once one t t2).S = pubB other
 Sb:(bg2 name pro own other once one t t2).S = pubB own
 ch:(bg2 name pro own other once one t t2).M.C = der1 (der1 (der1 (der1 (nameB name) (secB once (pubB other))) (secB own (pubB other))) (secB one (pubB once))) (secB one (pubB own))
theorem ag1_is (name pro own other once t:List UInt8):ag1 name pro own other once t = ⟨(f2 (begin_ name pro own (pubB other) once)).sealed t,own,once,[],pubB other,true,1⟩:=by
 unfold ag1
 rw [first_is _ t (first_ok name pro own other once)]
 simp only [begin_]
theorem bg1_is (name pro own other once one t:List UInt8):bg1 name pro own other once one t = ⟨(ag1 name pro own other once t).M,other,one,pubB once,pubB own,false,1⟩:=(hear_first name pro own other once one t).2.2.1
theorem bg2_is (M:MS) (own other once one t2:List UInt8) (h:secondErr ⟨M,other,one,pubB once,pubB own,false,1⟩ = 0):second ⟨M,other,one,pubB once,pubB own,false,1⟩ t2 = ⟨(s1 ⟨M,other,one,pubB once,pubB own,false,1⟩).sealed t2,other,one,pubB once,pubB own,false,2⟩:=by
 unfold second;rw [if_pos h]
theorem done_is (x:NS) (z:List UInt8) (h:doneErr x z = 0):(done x z).st = 2 ∧ (done x z).starts = x.starts ∧ (done x z).S = x.S:=by
 unfold done;rw [if_pos h];exact ⟨rfl,rfl,rfl⟩
theorem s1_chain (M:MS) (own other once one:List UInt8):(s1 ⟨M,other,one,pubB once,pubB own,false,1⟩).C = der1 (der1 M.C (secB one (pubB once))) (secB one (pubB own)):=by
 simp only [s1,MS.key,MS.hash]
theorem f2_chain (name pro own other once:List UInt8):(f2 (begin_ name pro own (pubB other) once)).C = der1 (der1 (nameB name) (secB once (pubB other))) (secB own (pubB other)):=by
 simp only [f2,f1,MS.key,MS.hash,MS.sealed,begin_,MS.start]
theorem agreed (name pro own other once one t t2:List UInt8):Agreed name pro own other once one t t2:=by
 have hh:=hear_first name pro own other once one t
 have hf:=first_ok name pro own other once
 have ha1:=ag1_is name pro own other once t
 have hb1:=bg1_is name pro own other once one t
 obtain ⟨M,hM⟩:∃ M,(f2 (begin_ name pro own (pubB other) once)).sealed t = M:=⟨_,rfl⟩
 rw [hM] at ha1
 rw [ha1] at hb1
 obtain ⟨k1,k2,k3,k4,k5,k6,k7⟩:=done_second M own other once one t2
 have hb1':bg1 name pro own other once one t = ⟨M,other,one,pubB once,pubB own,false,1⟩:=hb1
 have hz:agZ name pro own other once one t t2 = secondOut ⟨M,other,one,pubB once,pubB own,false,1⟩ t2:=by unfold agZ;rw [hb1']
 have ha2:ag2 name pro own other once one t t2 = done ⟨M,own,once,[],pubB other,true,1⟩ (secondOut ⟨M,other,one,pubB once,pubB own,false,1⟩ t2):=by unfold ag2;rw [ha1,hz]
 have hb2:bg2 name pro own other once one t t2 = second ⟨M,other,one,pubB once,pubB own,false,1⟩ t2:=by unfold bg2;rw [hb1']
 have hb3:=bg2_is M own other once one t2 k1
 obtain ⟨d1,d2,d3⟩:=done_is _ _ k2
 refine ⟨hf,hh.2.2.2,hh.1,hh.2.1,by rw [hb1'];exact k1,by rw [hz];exact k7,by rw [ha1,hz];exact k2,by rw [ha1,hz];exact k3,by rw [ha2,hb2];exact k4,by rw [ha2];exact d1,by rw [hb2];exact k6,by rw [ha2];exact d2,by rw [hb2,hb3],by rw [ha2];exact d3,by rw [hb2,hb3],?_⟩
 rw [hb2,hb3]
 show (s1 ⟨M,other,one,pubB once,pubB own,false,1⟩).C = _
 rw [s1_chain,← hM]
 show der1 (der1 (f2 (begin_ name pro own (pubB other) once)).C (secB one (pubB once))) (secB one (pubB own)) = _
 rw [f2_chain]
end NS
end Go.Proofs.YthmkhdnnljdglaaGreatDoor
namespace Go.Proofs.YthmkhdnnljdglaaGreatDoor
set_option linter.unusedVariables false
set_option maxRecDepth 100000
open Go.RowKit
structure Du (w W:World) (s ga gb:Nat) (x y:NS):Prop where
 bel:Below w.heap.size w W
 a1:w.heap.size ≤ ga
 a2:ga < s
 b1:w.heap.size ≤ gb
 b2:gb < s
 ne:ga ≠ gb
 sz:s ≤ W.heap.size
 a:HaIs W ga x
 b:HaIs W gb y
 t:TT w
section
variable {w W W':World} {s ga gb:Nat} {x y x':NS}
theorem Du.later (D:Du w W s ga gb x y) (hb:Below W.heap.size W W'):Du w W' s ga gb x y:=
 ⟨D.bel.trans (hb.mono D.bel.size),D.a1,D.a2,D.b1,D.b2,D.ne,Nat.le_trans D.sz hb.size,D.a.later hb,D.b.later hb,D.t⟩
theorem Du.tab (D:Du w W s ga gb x y):TT W:=D.t.later D.bel
theorem Du.ka (D:Du w W s ga gb x y):Gok ga:=D.t.new D.a1
theorem Du.kb (D:Du w W s ga gb x y):Gok gb:=D.t.new D.b1
theorem Du.left (D:Du w W s ga gb x y) (hG:W.grownBy W' (some ga)) (h:HaIs W' ga x'):Du w W' s ga gb x' y:=
 ⟨below_but D.bel hG D.a1,D.a1,D.a2,D.b1,D.b2,D.ne,Nat.le_trans D.sz hG.size,h,D.b.but hG (fun e => D.ne e.symm),D.t⟩
theorem Du.right (D:Du w W s ga gb x y) (hG:W.grownBy W' (some gb)) (h:HaIs W' gb x'):Du w W' s ga gb x x':=
 ⟨below_but D.bel hG D.b1,D.a1,D.a2,D.b1,D.b2,D.ne,Nat.le_trans D.sz hG.size,D.a.but hG D.ne,h,D.t⟩
theorem own_keep {v:Value} {n g:Nat} {xs:List Value} (h:W.ownsRow s 5 1 v n xs) (hG:W.grownBy W' (some g)) (hg:g < s):W'.ownsRow s 5 1 v n xs:=
 own_but h hG (fun b' hb' e => by have:=(own_base h b' hb').1;cases e;omega)
theorem own_later {v:Value} {n:Nat} {xs:List Value} (h:W.ownsRow s 5 1 v n xs) (hb:Below W.heap.size W W'):W'.ownsRow s 5 1 v n xs:=
 own_but h (grown_below hb) (fun b' _ e => by cases e)
theorem own_arg {v:Value} {n:Nat} {l:List UInt8} (h:W.ownsRow s 5 1 v n (l.map bv)) :
  ∃ a cap,v = .slice a n cap ∧ Byt W a n l ∧ n ≤ cap ∧ cap ≤ maxLen ∧ (a = none → cap = 0) ∧ (∀ z o f,a = some ⟨z,o,f⟩ → z < W.heap.size) ∧ (∀ z o f,a = some ⟨z,o,f⟩ → s ≤ z) ∧ l.length = n:=by
 obtain ⟨a,cap,rfl,h1,h2,h3,h4⟩:=own_parts h
 refine ⟨a,cap,rfl,h1,h2,h3,h4,fun z o f e => ?_,fun z o f e => ?_,h1.1⟩
 ·subst e
  rcases h.2 with ⟨e',_⟩ | ⟨g,cap',cur,e',hb,hg,_⟩
  ·cases e'
  ·cases e'
   exact (Array.getElem?_eq_some_iff.1 hg).1
 ·have:=own_new h z (by rw [e];rfl)
  exact this
theorem Du.stepA (D:Du w W s ga gb x y) {e:Ending} {er:Nat} {out:List UInt8} (h:HdE W W' ga e er x' out) :
  ∃ v q,e = .returned (.tuple #[v,.int .i64 (er:Int)]) ∧ Du w W' s ga gb x' y ∧ W'.ownsRow s 5 1 v q ((if er = 0 then out else []).map bv) ∧ W.grownBy W' (some ga):=by
 unfold HdE at h
 obtain ⟨v,q,he,hG,hI,ho⟩:=h
 exact ⟨v,q,he,D.left hG hI,own_lower ho D.sz,hG⟩
theorem Du.stepB (D:Du w W s ga gb x y) {e:Ending} {er:Nat} {out:List UInt8} (h:HdE W W' gb e er x' out) :
  ∃ v q,e = .returned (.tuple #[v,.int .i64 (er:Int)]) ∧ Du w W' s ga gb x x' ∧ W'.ownsRow s 5 1 v q ((if er = 0 then out else []).map bv) ∧ W.grownBy W' (some gb):=by
 unfold HdE at h
 obtain ⟨v,q,he,hG,hI,ho⟩:=h
 exact ⟨v,q,he,D.right hG hI,own_lower ho D.sz,hG⟩
end
theorem nrow_nil {w:World} {a:Option Addr} {len cap:Nat} {zs:List Int} (h:IsRow .u8 w a len cap zs):a = none → cap = 0:=fun e => by
 rcases h with ⟨_,_,h1,_⟩ | ⟨x,e2,_⟩
 ·exact h1
 ·rw [e] at e2;cases e2
theorem exec_append_run {P:Program} {w:World} {o:Oper} {ev:Operand → Value} (s x:Operand) (t:TypeId)
  (ho:o.op = .call { callee:=.builtin .append,args:=#[s,x],argTypes:=#[t,t] }) (vs vx v':Value) (w2:World) (hs:ev s = vs) (hx:ev x = vx)
  (hr:(Builtin.append_ #[t,t] o.type #[vs,vx]).run P w = .ok v' w2):(execOp ev o).run P w = .ok (.value v') w2:=by
 unfold execOp
 simp only [ho,resolve,invoke,builtin,Sem.run_bind,Sem.run_pure,Result.andThen_ok,List.map_toArray,List.map_cons,List.map_nil,hs,hx,hr]
theorem append_copy (W:World) (a:Option Addr) (n cap:Nat) (l:List UInt8) (hB:Byt W a n l) (hn:a = none → cap = 0) (hm:n ≤ 100000) :
  ∃ v w',(Builtin.append_ #[22,22] 22 #[.slice (some ⟨W.heap.size,0,none⟩) 0 0,.slice a n cap]).run Tryz.prog (W.alloc (.cells #[] 5)) = .ok v w' ∧ w'.ownsRow W.heap.size 5 1 v n (l.map bv) ∧ Below W.heap.size W w' ∧ Below W.heap.size W (W.alloc (.cells #[] 5)) ∧ Below W.heap.size (W.alloc (.cells #[] 5)) w':=by
 have hal:Below W.heap.size W (W.alloc (.cells #[] 5)):=(Below.refl _ _).alloc (Nat.le_refl _) _
 obtain ⟨v1,w1,hap1,own1,hg1⟩:=append_own_any (W.alloc (.cells #[] 5)) W.heap.size (.slice (some ⟨W.heap.size,0,none⟩) 0 0) 0 [] (World.ownsRow_made W #[] 0 (Nat.le_refl _) (Nat.zero_le _) rfl) a n cap l (hB.later hal) hn (by simp) (by omega)
 have h2:Below W.heap.size (W.alloc (.cells #[] 5)) w1:=⟨hg1.os,hg1.tape,hg1.output,hg1.size,fun k hk => hg1.block k (by simp;omega) (fun e => by simp [Value.ownBlock] at e;omega)⟩
 rw [Nat.zero_add,List.nil_append] at own1
 exact ⟨v1,w1,hap1,own1,hal.trans h2,hal,h2⟩
theorem Du.aside {w W W':World} {s ga gb g:Nat} {x y:NS} (D:Du w W s ga gb x y) (hG:W.grownBy W' (some g)) (h1:w.heap.size ≤ g) (h2:g ≠ ga) (h3:g ≠ gb):Du w W' s ga gb x y:=
 ⟨below_but D.bel hG h1,D.a1,D.a2,D.b1,D.b2,D.ne,Nat.le_trans D.sz hG.size,D.a.but hG (fun e => h2 e.symm),D.b.but hG (fun e => h3 e.symm),D.t⟩
theorem own_turn {W:World} {s n c g k:Nat} {X:List UInt8} (h:W.ownsRow s 5 1 (.slice (some ⟨g,0,none⟩) n c) n (X.map bv)) (hk:k < n) (x:UInt8) :
  W.cell? ⟨g,k,none⟩ = some (.int .u8 ((at8 X k).toNat:Int)) ∧ W.frozen? ⟨g,k,none⟩ = false ∧ (W.setCell ⟨g,k,none⟩ (.int .u8 (x.toNat:Int))).ownsRow s 5 1 (.slice (some ⟨g,0,none⟩) n c) n ((X.set k x).map bv) ∧ W.grownBy (W.setCell ⟨g,k,none⟩ (.int .u8 (x.toNat:Int))) (some g):=by
 have hl:X.length = n:=by
  have:=h.1
  rw [List.length_map,Nat.mul_one] at this
  exact this
 refine ⟨?_,h.frozenAt k,?_,But.setCell W g k _⟩
 ·rw [h.cellAt k (by omega),List.getElem?_map,List.getElem?_eq_getElem (by omega),at8_get X k (by omega)]
  rfl
 ·rw [List.map_set]
  exact (h.stored k _).1
end Go.Proofs.YthmkhdnnljdglaaGreatDoor
