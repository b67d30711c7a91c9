import Derived.Test.YtkdpblbhcfhagaaGreatDoorRows
import Derived.WalkKit
namespace Go.Proofs.YtkdpblbhcfhagaaGreatDoor
open Go.RowKit
def ae (p:Prop):Prop:=p
theorem ae.o {p:Prop}(h:ae p):p:=h
theorem ae.out {p:Prop}(h:ae p):p:=h
theorem aW {α:Sort _}(a:α):∃b,a=b:=⟨a,rfl⟩
theorem eF {w:World}{o:Obj}:Below w.heap.size w (w.alloc o):=(Below.refl _ _).alloc (Nat.le_refl _) _
theorem gl {w:World}:Below w.heap.size w w.drew:=(Below.refl _ _).drew
theorem dL {p:Prop}[Decidable p](h:decide p=true):p:=of_decide_eq_true h
abbrev aO:=List UInt8
abbrev bK:=List Value
abbrev bW:=Option Addr
end Go.Proofs.YtkdpblbhcfhagaaGreatDoor
