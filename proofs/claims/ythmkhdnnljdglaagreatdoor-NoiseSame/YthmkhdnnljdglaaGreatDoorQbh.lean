import Derived.Test.YthmkhdnnljdglaaGreatDoorQbf
import Derived.Test.YthmkhdnnljdglaaGreatDoorQaq
namespace Go.Proofs.YthmkhdnnljdglaaGreatDoor
set_option linter.unusedVariables false
set_option maxRecDepth 100000
open Go.RowKit
theorem fill_mid (place:Nat → Option (Nat × Nat)) (A old B vs:List Value) (i off:Nat) (rest:List (Nat × Value)) (hp:place i = some (off,vs.length)) (ha:A.length = off) (hl:old.length = vs.length) :
  Instr.fill place (A ++ (old ++ B)).toArray ((i,.agg vs.toArray) :: rest) = Instr.fill place (A ++ (vs ++ B)).toArray rest:=by
 rw [fill_part place _ i off vs rest hp (by simp;omega)]
 have e:(A ++ (old ++ B)).toArray.toList = A ++ (old ++ B):=rfl
 have h1:A.length = off:=ha
 have h2:(A ++ old).length = off + vs.length:=by simp [ha,hl]
 rw [e,List.take_left' h1,← List.append_assoc A old B,List.drop_left' h2,List.append_assoc]
def zk:List UInt8:=List.replicate 32 0
def ms0:MS:=⟨zk,zk,zk,false,0⟩
def sdZ:List Value:=SV ms0 zk zk zk zk
theorem sdZ_length:sdZ.length = 226:=by kernel_rfl
theorem sd_fill:∀ parts,Tryz.prog.built 67 parts = Instr.fill (#[(0,98),(98,32),(130,32),(162,32),(194,32)][·]?) sdZ.toArray parts:=fun parts => by kernel_rfl
theorem hd_fill:∀ parts,Tryz.prog.built 71 parts = Instr.fill (#[(0,226),(226,1)][·]?) (sdZ ++ [Value.int .i64 0]).toArray parts:=fun parts => by kernel_rfl
theorem sd_built3 (C H K:List UInt8) (has:Bool) (n:Nat) (own once:List UInt8) (hC:C.length = 32) (hH:H.length = 32) (hK:K.length = 32) (ho:own.length = 32) (hn:once.length = 32) :
  Tryz.prog.built 67 [(0,.agg (MiV C H K has n).toArray),(1,.agg (own.map bv).toArray),(2,.agg (once.map bv).toArray)] = some (SV ⟨C,H,K,has,n⟩ own once zk zk).toArray:=by
 have hz:(zk.map bv).length = 32:=rfl
 obtain ⟨Z,hZ⟩:∃ Z,zk.map bv = Z:=⟨_,rfl⟩
 obtain ⟨M0,hM0⟩:∃ M,MiV zk zk zk false 0 = M:=⟨_,rfl⟩
 have hM0l:M0.length = 98:=by rw [← hM0];exact MiV_length _ _ _ _ _ rfl rfl rfl
 have hMl:=MiV_length C H K has n hC hH hK
 rw [sd_fill,sdZ]
 simp only [SV,SKy,ms0,hZ,hM0]
 rw [hZ] at hz
 obtain ⟨M,hM⟩:∃ M,MiV C H K has n = M:=⟨_,rfl⟩
 rw [hM] at hMl ⊢
 have e0:=fill_mid (#[(0,98),(98,32),(130,32),(162,32),(194,32)][·]?) [] M0 (Z ++ (Z ++ (Z ++ Z))) M 0 0 [(1,.agg (own.map bv).toArray),(2,.agg (once.map bv).toArray)] (by rw [hMl];rfl) rfl (by rw [hM0l,hMl])
 simp only [List.nil_append] at e0
 rw [e0,fill_mid _ M Z (Z ++ (Z ++ Z)) (own.map bv) 1 98 _ (by rw [List.length_map,ho];rfl) hMl (by rw [hz,List.length_map,ho])]
 have e2:=fill_mid (#[(0,98),(98,32),(130,32),(162,32),(194,32)][·]?) (M ++ own.map bv) Z (Z ++ Z) (once.map bv) 2 130 [] (by rw [List.length_map,hn];rfl) (by rw [List.length_append,hMl,List.length_map,ho]) (by rw [hz,List.length_map,hn])
 simp only [List.append_assoc] at e2
 rw [e2]
 rfl
theorem hd_built (vs:List Value) (nx:Int) (hl:vs.length = 226):Tryz.prog.built 71 [(0,.agg vs.toArray),(1,.int .i64 nx)] = some (vs ++ [Value.int .i64 nx]).toArray:=by
 have hz:=sdZ_length
 rw [hd_fill]
 have e0:=fill_mid (#[(0,226),(226,1)][·]?) [] sdZ [Value.int .i64 0] vs 0 0 [(1,.int .i64 nx)] (by rw [hl];rfl) rfl (by rw [hz,hl])
 simp only [List.nil_append] at e0
 rw [e0]
 simp [Instr.fill,Value.cells,hl,List.set_append_right]
theorem exec_sd3 {ev:Operand → Value} {o:Oper} {w:World} (C H K:List UInt8) (has:Bool) (n:Nat) (own once:List UInt8) (hC:C.length = 32) (hH:H.length = 32) (hK:K.length = 32) (ho1:own.length = 32) (hn:once.length = 32) (x y z:Operand) (ho:o.op = .build 67 #[(0,x),(1,y),(2,z)])
  (hx:ev x = .agg (MiV C H K has n).toArray) (hy:ev y = .agg (own.map bv).toArray) (hz:ev z = .agg (once.map bv).toArray):(execOp ev o).run Tryz.prog w = .ok (.value (.agg (SV ⟨C,H,K,has,n⟩ own once zk zk).toArray)) w:=by
 have hb:=sd_built3 C H K has n own once hC hH hK ho1 hn
 unfold execOp
 simp only [ho,Sem.run_bind,run_build (P:=Tryz.prog) w 67 (#[(0,x),(1,y),(2,z)].map fun y => (y.fst,ev y.snd)) (SV ⟨C,H,K,has,n⟩ own once zk zk).toArray (by simp only [List.map_toArray,List.map_cons,List.map_nil,hx,hy,hz];exact hb),Result.andThen_ok,Sem.run_pure]
theorem exec_hd {ev:Operand → Value} {o:Oper} {w:World} (vs:List Value) (nx:Int) (hl:vs.length = 226) (x y:Operand) (ho:o.op = .build 71 #[(0,x),(1,y)])
  (hx:ev x = .agg vs.toArray) (hy:ev y = .int .i64 nx):(execOp ev o).run Tryz.prog w = .ok (.value (.agg (vs ++ [Value.int .i64 nx]).toArray)) w:=by
 have hb:=hd_built vs nx hl
 unfold execOp
 simp only [ho,Sem.run_bind,run_build (P:=Tryz.prog) w 71 (#[(0,x),(1,y)].map fun y => (y.fst,ev y.snd)) (vs ++ [Value.int .i64 nx]).toArray (by simp only [List.map_toArray,List.map_cons,List.map_nil,hx,hy];exact hb),Result.andThen_ok,Sem.run_pure]
theorem wpList_hd {ops:Array Oper} {rest:List Oper} {o:Oper} {a:Act} {w:World} {Q:Exit → Act → World → Prop} (vs:List Value) (nx:Int) (hl:vs.length = 226) (hg:o.guard = none) (x y:Operand) (ho:o.op = .build 71 #[(0,x),(1,y)])
  (hx:a.eval x = .agg vs.toArray) (hy:a.eval y = .int .i64 nx) (h:wpList Tryz.prog ops Q rest (a.put o.dst (.agg (vs ++ [Value.int .i64 nx]).toArray)) w):wpList Tryz.prog ops Q (o :: rest) a w:=
 wpList_buildTo hg _ _ ho _ rfl _ (by simp [hx,hy,hd_built vs nx hl]) h
end Go.Proofs.YthmkhdnnljdglaaGreatDoor
