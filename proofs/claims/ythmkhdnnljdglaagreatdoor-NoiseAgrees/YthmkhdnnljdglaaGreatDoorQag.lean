import Derived.WalkKit
import Derived.ArgAppend
import Derived.WalkSpells
namespace Go.Proofs.YthmkhdnnljdglaaGreatDoor
set_option maxRecDepth 100000
open Go.RowKit
def Seg (w:World) (e:TypeId) (a:Option Addr) (n cap:Nat) (vs:List Value):Prop:=
 vs.length = n ∧ ((a = none ∧ n = 0 ∧ cap = 0) ∨ ∃ g off cur,a = some ⟨g,off,none⟩ ∧ w.heap[g]? = some (.cells cur e (0,0)) ∧ off + cap ≤ cur.size ∧ n ≤ cap ∧ ∀ i,i < n → cur[off + i]? = vs[i]?)
def blockOf (a:Option Addr):Option Nat:=a.map (·.block)
theorem Seg.nil (w:World) (e:TypeId):Seg w e none 0 0 []:=⟨rfl,.inl ⟨rfl,rfl,rfl⟩⟩
theorem Seg.kept {w w':World} {e:TypeId} {a:Option Addr} {n cap:Nat} {vs:List Value} (h:Seg w e a n cap vs) (hk:∀ g,blockOf a = some g → w'.heap[g]? = w.heap[g]?):Seg w' e a n cap vs:=by
 refine ⟨h.1,?_⟩
 rcases h.2 with h0 | ⟨g,off,cur,rfl,hg,h1,h2,h3⟩
 ·exact .inl h0
 ·exact .inr ⟨g,off,cur,rfl,by rw [hk g rfl];exact hg,h1,h2,h3⟩
theorem Seg.lt {w:World} {e:TypeId} {a:Option Addr} {n cap:Nat} {vs:List Value} (h:Seg w e a n cap vs):∀ g,blockOf a = some g → g < w.heap.size:=by
 intro g hg
 rcases h.2 with ⟨rfl,_⟩ | ⟨g',off,cur,rfl,hh,_⟩
 ·simp [blockOf] at hg
 ·simp [blockOf] at hg
  subst hg
  exact (Array.getElem?_eq_some_iff.1 hh).1
theorem Seg.cell {w:World} {e:TypeId} {a:Option Addr} {n cap:Nat} {vs:List Value} (h:Seg w e a n cap vs) (i:Nat) (hi:i < n):∃ g off,a = some ⟨g,off,none⟩ ∧ w.cell? ⟨g,off + i,none⟩ = vs[i]? ∧ w.frozen? ⟨g,off + i,none⟩ = false:=by
 rcases h.2 with ⟨_,h0,_⟩ | ⟨g,off,cur,rfl,hg,h1,h2,h3⟩
 ·omega
 ·exact ⟨g,off,rfl,by rw [cell_of_row w g (off + i) cur e (0,0) hg];exact h3 i hi,frozen_of_row w g (off + i) cur e hg⟩
theorem Seg.ofOwn {w:World} {base:Nat} {e:TypeId} {v:Value} {n:Nat} {xs:List Value} (h:w.ownsRow base e 1 v n xs) (hn:0 < n) :
  ∃ g cap,v = .slice (some ⟨g,0,none⟩) n cap ∧ base ≤ g ∧ Seg w e (some ⟨g,0,none⟩) n cap xs:=by
 rcases h.2 with ⟨_,h0⟩ | ⟨g,cap,cur,rfl,hb,hg,hnc,hcm,hcs,htake⟩
 ·omega
 ·refine ⟨g,cap,rfl,hb,by have:=h.1;omega,.inr ⟨g,0,cur,rfl,hg,by omega,hnc,fun i hi => ?_⟩⟩
  rw [← htake,List.getElem?_take,if_pos (by omega)]
  simp
theorem addr_add (g off j:Nat):(⟨g,off,none⟩:Addr).add j = ⟨g,off + j,none⟩:=by unfold Addr.add;split <;> simp_all
theorem wpList_append_run {P:Program} {w:World} {ops:Array Oper} {rest:List Oper} {o:Oper} {a:Act} {Q:Exit → Act → World → Prop} (hgd:o.guard = none) (s x:Operand) (t:TypeId)
  (ho:o.op = .call { callee:=.builtin .append,args:=#[s,x],argTypes:=#[t,t] }) (vs vx v':Value) (w2:World) (hs:a.eval s = vs) (hx:a.eval x = vx)
  (hr:(Builtin.append_ #[t,t] o.type #[vs,vx]).run P w = .ok v' w2) (h:wpList P ops Q rest (a.put o.dst v') w2):wpList P ops Q (o :: rest) a w:=by
 refine wpList_plain hgd fun K hK => ?_
 unfold Oper.wp execOp
 simp only [ho,resolve,invoke,builtin,Sem.run_bind,Sem.run_pure,Result.andThen_ok,List.map_toArray,List.map_cons,List.map_nil,hs,hx,hr]
 exact hK _ _ h
def restAddr (g off cap:Nat):Addr:=if cap = 1 then ⟨g,off,none⟩ else ⟨g,off + 1,none⟩
theorem Seg.rest {w:World} {e:TypeId} {g off n cap:Nat} {v:Value} {vs:List Value} (h:Seg w e (some ⟨g,off,none⟩) (n + 1) cap (v :: vs)) :
  Seg w e (some (restAddr g off cap)) n (cap - 1) vs:=by
 have hl:=h.1
 rcases h.2 with ⟨e0,_⟩ | ⟨g',off',cur,e0,hg,hoc,hnc,hcs⟩
 ·cases e0
 ·cases e0
  simp at hl
  refine ⟨hl,.inr ?_⟩
  unfold restAddr
  by_cases hc:cap = 1
  ·rw [if_pos hc]
   exact ⟨g,off,cur,rfl,hg,by omega,by omega,fun i hi => by omega⟩
  ·rw [if_neg hc]
   refine ⟨g,off + 1,cur,rfl,hg,by omega,by omega,fun i hi => ?_⟩
   have:=hcs (i + 1) (by omega)
   rw [show off + 1 + i = off + (i + 1) by omega,this]
   simp
theorem Seg.over {w:World} {e:TypeId} {g off n cap:Nat} {v x:Value} {vs:List Value} (h:Seg w e (some ⟨g,off,none⟩) (n + 1) cap (v :: vs)) :
  Seg (w.setCell ⟨g,off,none⟩ x) e (some ⟨g,off,none⟩) (n + 1) cap (x :: vs):=by
 have hl:=h.1
 rcases h.2 with ⟨e0,_⟩ | ⟨g',off',cur,e0,hg,hoc,hnc,hcs⟩
 ·cases e0
 ·cases e0
  refine ⟨by simpa using hl,.inr ⟨g,off,cur.setIfInBounds off x,rfl,heap_setCell_same w g off cur e x hg,by simpa using hoc,hnc,fun i hi => ?_⟩⟩
  rw [Array.getElem?_setIfInBounds]
  cases i with
  | zero => rw [Nat.add_zero,if_pos rfl,if_pos (by omega)];simp
  | succ i =>
   rw [if_neg (by omega),hcs (i + 1) hi]
   simp
end Go.Proofs.YthmkhdnnljdglaaGreatDoor
