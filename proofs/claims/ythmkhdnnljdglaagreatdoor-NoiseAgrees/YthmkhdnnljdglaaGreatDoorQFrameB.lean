import Derived.Test.YthmkhdnnljdglaaGreatDoorQaj
namespace Go.Proofs.YthmkhdnnljdglaaGreatDoor
set_option maxRecDepth 100000
open Go.ChangeShapes Go.WideShapes Go.ChangeAt Go.RowKit
def IsRows (w:World) (a:Option Addr) (len cap:Nat):Prop:=
 (a = none ∧ len = 0 ∧ cap = 0) ∨
 ∃ x,a = some x ∧ len ≤ cap ∧ cap ≤ maxLen ∧ ∀ i,i < len → ∃ ai li ci zs,w.cell? (x.add i) = some (.slice ai li ci) ∧ IsRow .u8 w ai li ci zs
theorem isRows_of {H:Type} {enc:TypeId × Value → H} {P:Program} {W:World} {t e b:TypeId} {a:Option Addr} {len cap:Nat} {d:DataW H} {p:List MemPlace}
  (ht:P.underlying t = some (.slice e)) (he:P.underlying e = some (.slice b)) (hb:P.underlying b = some (.int .u8)) (hc:P.cellsOf e = 1) (hcb:P.cellsOf b = 1)
  (h:DataW.Trod enc P W 0 (fun _ => true) true t (.slice a len cap) d p):IsRows W a len cap:=by
 obtain ⟨fuel,hf⟩:=h
 rcases DataW.trod_slice ht hf with ⟨hcs,_⟩ | ⟨x,l,c,elems,rest,n,_,hcs,_,_,hl,hm,hlen,hel,_,_⟩
 ·simp [Value.cells] at hcs
  obtain ⟨rfl,rfl,rfl⟩:=hcs
  exact .inl ⟨rfl,rfl,rfl⟩
 ·simp [Value.cells] at hcs
  obtain ⟨rfl,rfl,rfl⟩:=hcs
  refine .inr ⟨x,rfl,hl,hm,fun i hi => ?_⟩
  have h1:=hel i hi
  rw [List.getElem?_eq_getElem (by omega),hc,Nat.mul_one,Option.bind_eq_some_iff] at h1
  obtain ⟨cs',hcs',hy⟩:=h1
  rcases open_ints he hb hcb hy with ⟨rfl,_⟩ | ⟨x',l',c',zs,rfl,_,hl',hm',hz,_,hcell,hwz⟩
  ·exact ⟨none,0,0,[],cell_of_cells?_one hcs',.inl ⟨rfl,rfl,rfl,rfl⟩⟩
  ·exact ⟨some x',l',c',zs,cell_of_cells?_one hcs',.inr ⟨_,rfl,hl',hm',by simpa using hz,hcell,hwz⟩⟩
theorem rows_at {w:World} {a:Option Addr} {len cap:Nat} (h:IsRows w a len cap) (hl:0 < len):∃ b off,a = some ⟨b,off,none⟩ ∧ b < w.heap.size ∧ ∀ i,i < len → ∃ ai li ci zs,w.cell? ⟨b,off + i,none⟩ = some (.slice ai li ci) ∧ IsRow .u8 w ai li ci zs:=by
 rcases h with ⟨_,h0,_⟩ | ⟨x,rfl,hlc,hcm,hc⟩
 ·omega
 ·obtain ⟨b,off,spot⟩:=x
  obtain ⟨a0,l0,c0,z0,hc0,_⟩:=hc 0 hl
  have hspot:spot = none:=by simpa [Addr.add] using World.cell?_spot hc0
  subst hspot
  refine ⟨b,off,rfl,?_,fun i hi => ?_⟩
  ·rcases Nat.lt_or_ge b w.heap.size with h' | h'
   ·exact h'
   ·simp [World.cell?,Addr.add,Array.getElem?_eq_none h'] at hc0
  ·obtain ⟨ai,li,ci,zs,h1,h2⟩:=hc i hi
   rw [addr_add] at h1
   exact ⟨ai,li,ci,zs,h1,h2⟩
end Go.Proofs.YthmkhdnnljdglaaGreatDoor
