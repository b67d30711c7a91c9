import Derived.Test.YthmkhdnnljdglaaGreatDoorQaz
import Derived.Test.YthmkhdnnljdglaaGreatDoorQba
import Derived.Test.YthmkhdnnljdglaaGreatDoorQah
namespace Go.Proofs.YthmkhdnnljdglaaGreatDoor
set_option linter.unusedVariables false
set_option maxRecDepth 100000
open Go.RowKit
theorem results_both {P:Program} {fn:Func} {p q:Tmp} {ty:TypeId} (h:fn.results = #[.cell p ty,.cell q ty]) (tmps:Array Value) (w:World) (g1 g2:Nat) (t:TypeId) (A B:Array Value) (d:TypeDesc)
  (hp:tmps.getD p undef = .pointer (some ⟨g1,0,none⟩)) (hq:tmps.getD q undef = .pointer (some ⟨g2,0,none⟩))
  (h1:w.heap[g1]? = some (.cells A t (0,0))) (h2:w.heap[g2]? = some (.cells B t (0,0)))
  (hu:P.underlying ty = some d) (hd:(match d with | .struct _ | .array _ _ => true | _ => false) = true) (hA:(P.info? ty).map (·.size) = some A.size) (hB:(P.info? ty).map (·.size) = some B.size) :
  (results fn tmps).run P w = .ok (.tuple #[.agg A,.agg B]) w:=by
 have hp':tmps[p]?.getD undef = .pointer (some ⟨g1,0,none⟩):=by simpa using hp
 have hq':tmps[q]?.getD undef = .pointer (some ⟨g2,0,none⟩):=by simpa using hq
 simp [results,h,hp',hq',asAddr,run_loadVar_row w g1 t ty A (0,0) d h1 hu hd hA,run_loadVar_row w g2 t ty B (0,0) d h2 hu hd hB]
structure Sp (w:World) (A B:List Value) (W:World):Prop where
 x:Cel W w.heap.size A
 y:Cel W (w.heap.size + 1) B
 r1:Cel W (w.heap.size + 1 + 1) zeroE
 r2:Cel W (w.heap.size + 1 + 1 + 1) zeroE
 bel:Below w.heap.size w W
theorem Sp.new (w:World) (A B:List Value):Sp w A B ((((w.alloc (.cells A.toArray 96)).alloc (.cells B.toArray 96)).alloc (.cells zeroE.toArray 96)).alloc (.cells zeroE.toArray 96)):=by
 have h1:=Cel.new w A
 have h2:=Cel.new (w.alloc (.cells A.toArray 96)) B
 have h3:=Cel.new ((w.alloc (.cells A.toArray 96)).alloc (.cells B.toArray 96)) zeroE
 have h4:=Cel.new (((w.alloc (.cells A.toArray 96)).alloc (.cells B.toArray 96)).alloc (.cells zeroE.toArray 96)) zeroE
 rw [World.size_alloc] at h2
 rw [World.size_alloc,World.size_alloc] at h3
 rw [World.size_alloc,World.size_alloc,World.size_alloc] at h4
 exact ⟨((h1.later ((Below.refl _ _).alloc (Nat.le_refl _) _)).later ((Below.refl _ _).alloc (Nat.le_refl _) _)).later ((Below.refl _ _).alloc (Nat.le_refl _) _),
  (h2.later ((Below.refl _ _).alloc (Nat.le_refl _) _)).later ((Below.refl _ _).alloc (Nat.le_refl _) _),h3.later ((Below.refl _ _).alloc (Nat.le_refl _) _),h4,
  ((((Below.refl _ _).alloc (Nat.le_refl _) _).alloc (by simp) _).alloc (by simp;omega) _).alloc (by simp;omega) _⟩
set_option maxHeartbeats 1000000 in
set_option maxRecDepth 100000 in
theorem fswap_any (is:Bool) (A B:List Value) (x y:Nat) (w:World) (hA:Elm A x) (hB:Elm B y) :
  Calls Tryz.prog 84 #[.bool is,.agg A.toArray,.agg B.toArray] w fun e w' => ∃ C D,e = .returned (.tuple #[.agg C.toArray,.agg D.toArray]) ∧ Elm C (if is then y else x) ∧ Elm D (if is then x else y) ∧ Below w.heap.size w w':=by
 have HA:Hid (Elm A x):=hA
 have HB:Hid (Elm B y):=hB
 have hAl:=hA.len
 have hBl:=hB.len
 have HS0:Hid (Sp w A B ((((w.alloc (.cells A.toArray 96)).alloc (.cells B.toArray 96)).alloc (.cells zeroE.toArray 96)).alloc (.cells zeroE.toArray 96))):=Sp.new w A B
 clear hA hB
 cases is with
 | true =>
  go_enter Tryz.func84,Tryz.ntmps84
  go_wp2
  refine from_world (P:=Code.wp Tryz.prog _ _ _) (R:=fun W => Hid (Sp w A B W)) _ HS0 ?_
  clear HS0
  intro W0 HS
  obtain ⟨W,hWd⟩:∃ W,W0.drew = W:=⟨_,rfl⟩
  have HWd:Hid (W0.drew = W):=hWd
  have hdr:Below W0.heap.size W0 W:=by rw [← hWd];exact (Below.refl _ _).drew
  have hS:Sp w A B W:=⟨HS.out.x.later hdr,HS.out.y.later hdr,HS.out.r1.later hdr,HS.out.r2.later hdr,HS.out.bel.trans (hdr.mono HS.out.bel.size)⟩
  have hst1:=store_row W (w.heap.size + 1 + 1) _ _ B hS.r1 (by simp [hBl,zeroE_len]) HB.out.one
  have c1:Cel (W.setRow (w.heap.size + 1 + 1) B.toArray) (w.heap.size + 1 + 1) B:=setRow_heap W _ _ _ _ _ hS.r1
  have c2:=hS.r2.put_other (g':=w.heap.size + 1 + 1) (by omega) B.toArray
  have b1:Below (w.heap.size + 1 + 1) W (W.setRow (w.heap.size + 1 + 1) B.toArray):=below_setRow (Below.refl _ _) (Nat.le_refl _) _
  obtain ⟨X1,hX1⟩:∃ X1,W.setRow (w.heap.size + 1 + 1) B.toArray = X1:=⟨_,rfl⟩
  rw [hX1] at hst1 c1 c2 b1
  have hst2:=store_row X1 (w.heap.size + 1 + 1 + 1) _ _ A c2 (by simp [hAl,zeroE_len]) HA.out.one
  have d2:Cel (X1.setRow (w.heap.size + 1 + 1 + 1) A.toArray) (w.heap.size + 1 + 1 + 1) A:=setRow_heap X1 _ _ _ _ _ c2
  have d1:=c1.put_other (g':=w.heap.size + 1 + 1 + 1) (by omega) A.toArray
  have b2:Below (w.heap.size + 1 + 1) X1 (X1.setRow (w.heap.size + 1 + 1 + 1) A.toArray):=below_setRow (Below.refl _ _) (by omega) _
  obtain ⟨X2,hX2⟩:∃ X2,X1.setRow (w.heap.size + 1 + 1 + 1) A.toArray = X2:=⟨_,rfl⟩
  rw [hX2] at hst2 d1 d2 b2
  have HBel:Hid (Below w.heap.size w X2):=(hS.bel.trans (b1.mono (by omega))).trans (b2.mono (by omega))
  have HS1:=hidup hS
  have D1:=hidup d1
  have D2:=hidup d2
  clear hWd hdr hS HS c1 c2 d1 d2 hX1 hX2
  refine wp_region_sched' (G:=Below (w.heap.size + 1 + 1)) (by kernel_rfl) (fun _ => Below.refl _ _) (fun _ _ _ h k => Below.trans h k) (by kernel_rfl) [(0,true),(1,true),(2,false),(3,false)] rfl (by kernel_rfl) ?_
  intro KK hKK
  rw [HWd.out]
  clear HWd
  refine sched_take rfl (by rfl) (v:=.agg B.toArray) (fun w' hw' => exec_load_row 96 _ rfl (w.heap.size + 1) rfl 96 _ (0,0) _ (HS1.out.y.below hw' (by omega)) Tryz.underlying96 rfl (elm_info HB.out)) ?_
  go_simp
  refine sched_take rfl (by rfl) (v:=.agg A.toArray) (fun w' hw' => exec_load_row 96 _ rfl w.heap.size rfl 96 _ (0,0) _ (HS1.out.x.below hw' (by omega)) Tryz.underlying96 rfl (elm_info HA.out)) ?_
  go_simp
  refine sched_put rfl (by rfl) (w':=X1) (by go_simp) b1 ?_
  go_simp
  refine sched_put rfl (by rfl) (w':=X2) (by go_simp) b2 ?_
  clear hst1 hst2 b1 b2
  go_simp
  refine sched_done hKK ?_
  clear hKK
  (try go_wp2)
  (try simp only [Exit.inBlock,Exit.then])
  refine bodyPost_ret (results_both rfl _ _ (w.heap.size + 1 + 1) (w.heap.size + 1 + 1 + 1) 96 _ _ _ rfl rfl D1.out D2.out Tryz.underlying96 rfl (elm_info HB.out) (elm_info HA.out)) rfl ?_
  exact ⟨B,A,rfl,HB.out,HA.out,HBel.out⟩
 | false =>
  go_enter Tryz.func84,Tryz.ntmps84
  go_wp2
  refine from_world (P:=Code.wp Tryz.prog _ _ _) (R:=fun W => Hid (Sp w A B W)) _ HS0 ?_
  clear HS0
  intro W0 HS
  obtain ⟨W,hWd⟩:∃ W,W0.drew = W:=⟨_,rfl⟩
  have HWd:Hid (W0.drew = W):=hWd
  have hdr:Below W0.heap.size W0 W:=by rw [← hWd];exact (Below.refl _ _).drew
  have hS:Sp w A B W:=⟨HS.out.x.later hdr,HS.out.y.later hdr,HS.out.r1.later hdr,HS.out.r2.later hdr,HS.out.bel.trans (hdr.mono HS.out.bel.size)⟩
  have hst1:=store_row W (w.heap.size + 1 + 1) _ _ A hS.r1 (by simp [hAl,zeroE_len]) HA.out.one
  have c1:Cel (W.setRow (w.heap.size + 1 + 1) A.toArray) (w.heap.size + 1 + 1) A:=setRow_heap W _ _ _ _ _ hS.r1
  have c2:=hS.r2.put_other (g':=w.heap.size + 1 + 1) (by omega) A.toArray
  have b1:Below (w.heap.size + 1 + 1) W (W.setRow (w.heap.size + 1 + 1) A.toArray):=below_setRow (Below.refl _ _) (Nat.le_refl _) _
  obtain ⟨X1,hX1⟩:∃ X1,W.setRow (w.heap.size + 1 + 1) A.toArray = X1:=⟨_,rfl⟩
  rw [hX1] at hst1 c1 c2 b1
  have hst2:=store_row X1 (w.heap.size + 1 + 1 + 1) _ _ B c2 (by simp [hBl,zeroE_len]) HB.out.one
  have d2:Cel (X1.setRow (w.heap.size + 1 + 1 + 1) B.toArray) (w.heap.size + 1 + 1 + 1) B:=setRow_heap X1 _ _ _ _ _ c2
  have d1:=c1.put_other (g':=w.heap.size + 1 + 1 + 1) (by omega) B.toArray
  have b2:Below (w.heap.size + 1 + 1) X1 (X1.setRow (w.heap.size + 1 + 1 + 1) B.toArray):=below_setRow (Below.refl _ _) (by omega) _
  obtain ⟨X2,hX2⟩:∃ X2,X1.setRow (w.heap.size + 1 + 1 + 1) B.toArray = X2:=⟨_,rfl⟩
  rw [hX2] at hst2 d1 d2 b2
  have HBel:Hid (Below w.heap.size w X2):=(hS.bel.trans (b1.mono (by omega))).trans (b2.mono (by omega))
  have HS1:=hidup hS
  have D1:=hidup d1
  have D2:=hidup d2
  clear hWd hdr hS HS c1 c2 d1 d2 hX1 hX2
  refine wp_region_sched' (G:=Below (w.heap.size + 1 + 1)) (by kernel_rfl) (fun _ => Below.refl _ _) (fun _ _ _ h k => Below.trans h k) (by kernel_rfl) [(0,true),(1,true),(2,false),(3,false)] rfl (by kernel_rfl) ?_
  intro KK hKK
  rw [HWd.out]
  clear HWd
  refine sched_take rfl (by rfl) (v:=.agg A.toArray) (fun w' hw' => exec_load_row 96 _ rfl w.heap.size rfl 96 _ (0,0) _ (HS1.out.x.below hw' (by omega)) Tryz.underlying96 rfl (elm_info HA.out)) ?_
  go_simp
  refine sched_take rfl (by rfl) (v:=.agg B.toArray) (fun w' hw' => exec_load_row 96 _ rfl (w.heap.size + 1) rfl 96 _ (0,0) _ (HS1.out.y.below hw' (by omega)) Tryz.underlying96 rfl (elm_info HB.out)) ?_
  go_simp
  refine sched_put rfl (by rfl) (w':=X1) (by go_simp) b1 ?_
  go_simp
  refine sched_put rfl (by rfl) (w':=X2) (by go_simp) b2 ?_
  clear hst1 hst2 b1 b2
  go_simp
  refine sched_done hKK ?_
  clear hKK
  (try go_wp2)
  (try simp only [Exit.inBlock,Exit.then])
  refine bodyPost_ret (results_both rfl _ _ (w.heap.size + 1 + 1) (w.heap.size + 1 + 1 + 1) 96 _ _ _ rfl rfl D1.out D2.out Tryz.underlying96 rfl (elm_info HA.out) (elm_info HB.out)) rfl ?_
  exact ⟨A,B,rfl,HA.out,HB.out,HBel.out⟩
structure PtC (c:List Value) (n:Nat):Prop where
 len:c.length = 10
 one:∀ v ∈ c,v.oneCell' = true
def PtE (c:List Value) (x z:Nat):Prop:=∃ a b,c = a ++ b ∧ Elm a x ∧ Elm b z
theorem PtE.ptc {c:List Value} {x z:Nat} (h:PtE c x z):PtC c 0:=by
 obtain ⟨a,b,rfl,h1,h2⟩:=h
 refine ⟨by rw [List.length_append,h1.len,h2.len],fun v hv => ?_⟩
 rcases List.mem_append.1 hv with h | h
 ·exact h1.one v h
 ·exact h2.one v h
def zeroP:List Value:=[.int .u64 0,.int .u64 0,.int .u64 0,.int .u64 0,.int .u64 0,.int .u64 0,.int .u64 0,.int .u64 0,.int .u64 0,.int .u64 0]
theorem zeroP_len:zeroP.length = 10:=by decide
def CelP (W:World) (g:Nat) (vs:List Value):Prop:=W.heap[g]? = some (.cells vs.toArray 101 (0,0))
theorem CelP.lt {w:World} {g:Nat} {l:List Value} (h:CelP w g l):g < w.heap.size:=(Array.getElem?_eq_some_iff.1 h).1
theorem CelP.later {w w':World} {g:Nat} {l:List Value} (h:CelP w g l) (hb:Below w.heap.size w w'):CelP w' g l:=by
 unfold CelP
 rw [hb.block g h.lt]
 exact h
theorem CelP.put_other {w:World} {g g':Nat} {l:List Value} (h:CelP w g l) (hne:g ≠ g') (cs:Array Value):CelP (w.setRow g' cs) g l:=by
 unfold CelP
 rw [setRow_other _ _ _ _ hne]
 exact h
theorem CelP.new (w:World) (l:List Value):CelP (w.alloc (.cells l.toArray 101)) w.heap.size l:=heap_alloc_new w _
theorem pt_info {c:List Value} {n:Nat} (h:PtC c n):(Tryz.prog.info? 101).map (·.size) = some c.toArray.size:=by
 have e1:(Tryz.prog.info? 101).map (·.size) = some 10:=by kernel_rfl
 rw [e1];simp [h.len]
theorem built_two (a b:List Value) (x z:Nat) (ha:Elm a x) (hb:Elm b z):Tryz.prog.built 101 [(0,.agg a.toArray),(1,.agg b.toArray)] = some (a ++ b).toArray:=by
 have h:∀ parts,Tryz.prog.built 101 parts = Instr.fill (#[(0,5),(5,5)][·]?) zeroP.toArray parts:=fun parts => by kernel_rfl
 have h1:=ha.len
 have h2:=hb.len
 obtain ⟨Z,hZ⟩:∃ Z,zeroP = Z:=⟨_,rfl⟩
 have hZl:Z.length = 10:=by rw [← hZ];rfl
 rw [h,hZ,fill_part _ _ 0 0 a _ (by simp [h1]) (by simp;omega),fill_part _ _ 1 5 b _ (by simp [h2]) (by simp;omega)]
 simp only [Instr.fill,List.take_zero,List.nil_append,h1,h2,Nat.zero_add]
 rw [List.take_left' (by simp [h1]),List.drop_eq_nil_of_le (by simp;omega),List.append_nil]
theorem built_one (a:List Value) (x:Nat) (ha:Elm a x):Tryz.prog.built 101 [(0,.agg a.toArray)] = some (a ++ zeroE).toArray:=by
 have h:∀ parts,Tryz.prog.built 101 parts = Instr.fill (#[(0,5),(5,5)][·]?) zeroP.toArray parts:=fun parts => by kernel_rfl
 have h1:=ha.len
 rw [h,fill_part _ _ 0 0 a _ (by simp [h1]) (by simp [zeroP];omega)]
 simp only [Instr.fill,List.take_zero,List.nil_append,h1,Nat.zero_add]
 rfl
theorem exec_build2 {ev:Operand → Value} {o:Oper} {w:World} {x y:Operand} {a b:List Value} {m n:Nat} (ho:o.op = .build 101 #[(0,x),(1,y)]) (hx:ev x = .agg a.toArray) (hy:ev y = .agg b.toArray) (ha:Elm a m) (hb:Elm b n) :
  (execOp ev o).run Tryz.prog w = .ok (.value (.agg (a ++ b).toArray)) w:=by
 unfold execOp
 simp only [ho,Sem.run_bind,run_build (P:=Tryz.prog) w 101 (#[(0,x),(1,y)].map fun x => (x.fst,ev x.snd)) (a ++ b).toArray (by simp [hx,hy,built_two a b m n ha hb]),Result.andThen_ok,Sem.run_pure]
theorem exec_build1 {ev:Operand → Value} {o:Oper} {w:World} {x:Operand} {a:List Value} {m:Nat} (ho:o.op = .build 101 #[(0,x)]) (hx:ev x = .agg a.toArray) (ha:Elm a m) :
  (execOp ev o).run Tryz.prog w = .ok (.value (.agg (a ++ zeroE).toArray)) w:=by
 unfold execOp
 simp only [ho,Sem.run_bind,run_build (P:=Tryz.prog) w 101 (#[(0,x)].map fun x => (x.fst,ev x.snd)) (a ++ zeroE).toArray (by simp [hx,built_one a m ha]),Result.andThen_ok,Sem.run_pure]
theorem exec_px {ev:Operand → Value} {o:Oper} {w:World} {x:Operand} {g:Nat} (ho:o.op = .fieldAddr 101 x 0) (hx:ev x = .pointer (some ⟨g,0,none⟩)) :
  (execOp ev o).run Tryz.prog w = .ok (.value (.pointer (some ⟨g,0,none⟩))) w:=by
 unfold execOp
 simp only [ho,hx]
 go_simp
theorem exec_pz {ev:Operand → Value} {o:Oper} {w:World} {x:Operand} {g:Nat} (ho:o.op = .fieldAddr 101 x 1) (hx:ev x = .pointer (some ⟨g,0,none⟩)) :
  (execOp ev o).run Tryz.prog w = .ok (.value (.pointer (some ⟨g,5,none⟩))) w:=by
 unfold execOp
 simp only [ho,hx]
 go_simp
theorem px_cells {w:World} {g:Nat} {t:TypeId} {fr:Nat × Nat} {c a b:List Value} (hc:w.heap[g]? = some (.cells c.toArray t fr)) (he:c = a ++ b):∀ j v,a[j]? = some v → w.cell? ⟨g,0 + j,none⟩ = some v:=
 part_cells [] a b (by rw [he] at hc;exact hc) 0 rfl
theorem pz_cells {w:World} {g:Nat} {t:TypeId} {fr:Nat × Nat} {c a b:List Value} {n:Nat} (hc:w.heap[g]? = some (.cells c.toArray t fr)) (he:c = a ++ b) (ha:Elm a n):∀ j v,b[j]? = some v → w.cell? ⟨g,5 + j,none⟩ = some v:=
 part_cells a b [] (by rw [he] at hc;rw [List.append_nil];exact hc) 5 ha.len
theorem elm_size {cs:List Value} {x:Nat} (h:Elm cs x):(Tryz.prog.info? 96).map (·.size) = some cs.length:=by rw [elm_info h];simp
theorem exec_load_x {a:Act} {o:Oper} {w:World} {x:Operand} {g:Nat} {c a1 a2:List Value} {m:Nat} {t:TypeId} {fr:Nat × Nat} (ho:o.op = .load 96 x) (hx:a.eval x = .pointer (some ⟨g,0,none⟩)) (hc:w.heap[g]? = some (.cells c.toArray t fr)) (he:c = a1 ++ a2) (h1:Elm a1 m) :
  (execOp a.eval o).run Tryz.prog w = .ok (.value (.agg a1.toArray)) w:=
 exec_load_part 96 x ho g 0 hx a1 _ (px_cells hc he) Tryz.underlying96 rfl (elm_size h1)
theorem exec_load_z {a:Act} {o:Oper} {w:World} {x:Operand} {g:Nat} {c a1 a2:List Value} {m n:Nat} {t:TypeId} {fr:Nat × Nat} (ho:o.op = .load 96 x) (hx:a.eval x = .pointer (some ⟨g,5,none⟩)) (hc:w.heap[g]? = some (.cells c.toArray t fr)) (he:c = a1 ++ a2) (h1:Elm a1 m) (h2:Elm a2 n) :
  (execOp a.eval o).run Tryz.prog w = .ok (.value (.agg a2.toArray)) w:=
 exec_load_part 96 x ho g 5 hx a2 _ (pz_cells hc he h1) Tryz.underlying96 rfl (elm_size h2)
theorem store_x (w:World) (g:Nat) (c a1 a2 b:List Value) {m n:Nat} (hc:w.heap[g]? = some (.cells c.toArray 101 (0,0))) (he:c = a1 ++ a2) (h1:Elm a1 m) (hb:Elm b n) :
  (storeCells ⟨g,0,none⟩ b).run Tryz.prog w = .ok () (w.setRow g (b ++ a2).toArray):=by
 have h:=run_storeCells_part (P:=Tryz.prog) g 0 _ b 0 c.toArray w hc (by rw [he];simp [h1.len,hb.len]) hb.one
 rw [h,he]
 congr 2
 simp only [Nat.add_zero,Nat.zero_add,List.take_zero,List.nil_append,hb.len]
 rw [List.drop_left' h1.len]
theorem store_z (w:World) (g:Nat) (c a1 a2 b:List Value) {m k n:Nat} (hc:w.heap[g]? = some (.cells c.toArray 101 (0,0))) (he:c = a1 ++ a2) (h1:Elm a1 m) (h2:Elm a2 k) (hb:Elm b n) :
  (storeCells ⟨g,5,none⟩ b).run Tryz.prog w = .ok () (w.setRow g (a1 ++ b).toArray):=by
 have h:=run_storeCells_part (P:=Tryz.prog) g 5 _ b 0 c.toArray w hc (by rw [he];simp [h1.len,h2.len,hb.len]) hb.one
 rw [h,he]
 congr 2
 simp only [Nat.add_zero,hb.len]
 rw [List.take_left' h1.len,List.drop_eq_nil_of_le (by simp [h1.len,h2.len]),List.append_nil]
theorem exec_placeP {ev:Operand → Value} {o:Oper} {w:World} (ho:o.op = .alloc 101) :
  (execOp ev o).run Tryz.prog w = .ok (.value (.pointer (some ⟨w.heap.size,0,none⟩))) (w.alloc (.cells zeroP.toArray 101)):=by
 unfold execOp
 simp only [ho]
 go_simp
 rfl
theorem exec_intoP {ev:Operand → Value} {o:Oper} {w:World} {x y:Operand} {g:Nat} {c c0:List Value} {n:Nat} (ho:o.op = .store 101 x y) (hx:ev x = .pointer (some ⟨g,0,none⟩)) (hy:ev y = .agg c.toArray) (hE:PtC c n) (hl:c0.length = 10) (hc:CelP w g c0) :
  (execOp ev o).run Tryz.prog w = .ok .skip (w.setRow g c.toArray):=by
 have hst:=store_row w g _ _ c hc (by rw [hE.len];simp [hl]) hE.one
 have hlen:=hE.len
 have hu:=Tryz.underlying101
 unfold execOp
 simp only [ho,hx,hy]
 go_simp
structure PlcP (ops:Array Oper) (m sz:Nat) (als:List Nat) (so vq:Nat → Nat):Prop where
 mak:∀ p ∈ als,p < m ∧ ∃ o,ops[p]? = some o ∧ o.op = .alloc 101 ∧ o.guard = none
 st:∀ p ∈ als,so p < m ∧ vq p < m ∧ so p ∉ als ∧ vq p ∉ als ∧ ∃ o x y,ops[so p]? = some o ∧ o.op = .store 101 (.tmp x) (.tmp y) ∧ o.guard = none ∧ dstOf ops p = some x ∧ dstOf ops (vq p) = some y ∧ x < sz ∧ y < sz ∧
  (∃ e ∈ o.after,Region.binds .any e = true ∧ e.on = p) ∧ (∃ e ∈ o.after,Region.binds .any e = true ∧ e.on = vq p)
 one:∀ p ∈ als,∀ q ∈ als,so p = so q → p = q
 vs:∀ p ∈ als,∀ q ∈ als,vq p ≠ so q
def plcBP (ops:Array Oper) (m sz:Nat) (als:List Nat) (so vq:Nat → Nat):Bool:=
 als.all fun p => decide (p < m) && (match ops[p]? with | some o => (match o.op with | .alloc t => t == 101 | _ => false) && o.guard == none | none => false) && decide (so p < m) && decide (vq p < m) && !als.contains (so p) && !als.contains (vq p) &&
  (match ops[so p]? with
   | some o => (match o.op with
    | .store t (.tmp x) (.tmp y) => t == 101 && o.guard == none && dstOf ops p == some x && dstOf ops (vq p) == some y && decide (x < sz) && decide (y < sz) && (o.after.any fun e => Region.binds .any e && e.on == p) && (o.after.any fun e => Region.binds .any e && e.on == vq p)
    | _ => false)
   | none => false) && als.all fun q => (so p != so q || p == q) && vq p != so q
theorem plc_ofP {ops:Array Oper} {m sz:Nat} {als:List Nat} {so vq:Nat → Nat} (h:plcBP ops m sz als so vq = true):PlcP ops m sz als so vq:=by
 unfold plcBP at h
 rw [List.all_eq_true] at h
 have h':∀ p ∈ als,_:=fun p hp => by
  have:=h p hp
  simp only [Bool.and_eq_true] at this
  exact this
 refine ⟨fun p hp => ?_,fun p hp => ?_,fun p hp q hq e => ?_,fun p hp q hq => ?_⟩
 ·obtain ⟨⟨⟨⟨⟨⟨⟨h1,h2⟩,h3⟩,h4⟩,h5⟩,h6⟩,h7⟩,h8⟩:=h' p hp
  refine ⟨of_decide_eq_true h1,?_⟩
  split at h2
  ·rename_i o ho
   obtain ⟨h9,h10⟩:=Bool.and_eq_true_iff.1 h2
   split at h9
   ·rename_i t hop
    refine ⟨o,ho,?_,by simpa using h10⟩
    rw [hop]
    congr 1
    simpa using h9
   ·cases h9
  ·cases h2
 ·obtain ⟨⟨⟨⟨⟨⟨⟨h1,h2⟩,h3⟩,h4⟩,h5⟩,h6⟩,h7⟩,h8⟩:=h' p hp
  refine ⟨of_decide_eq_true h3,of_decide_eq_true h4,by simpa using h5,by simpa using h6,?_⟩
  split at h7
  ·rename_i o ho
   split at h7
   ·rename_i t x y hop
    simp only [Bool.and_eq_true] at h7
    obtain ⟨⟨⟨⟨⟨⟨⟨k1,k2⟩,k3⟩,k4⟩,k5⟩,k6⟩,k7⟩,k8⟩:=h7
    refine ⟨o,x,y,ho,?_,by simpa using k2,by simpa using k3,by simpa using k4,of_decide_eq_true k5,of_decide_eq_true k6,after_has k7,after_has k8⟩
    rw [hop]
    congr 1
    simpa using k1
   ·cases h7
  ·cases h7
 ·obtain ⟨⟨⟨⟨⟨⟨⟨h1,h2⟩,h3⟩,h4⟩,h5⟩,h6⟩,h7⟩,h8⟩:=h' p hp
  rw [List.all_eq_true] at h8
  have h9:=h8 q hq
  simp only [Bool.and_eq_true,Bool.or_eq_true,bne_iff_ne,beq_iff_eq] at h9
  rcases h9.1 with h10 | h10
  ·exact absurd e h10
  ·exact h10
 ·obtain ⟨⟨⟨⟨⟨⟨⟨h1,h2⟩,h3⟩,h4⟩,h5⟩,h6⟩,h7⟩,h8⟩:=h' p hp
  rw [List.all_eq_true] at h8
  have h9:=h8 q hq
  simp only [Bool.and_eq_true,bne_iff_ne] at h9
  exact h9.2
structure KnowsP (w0:World) (m:Nat) (als:List Nat) (so vq:Nat → Nat) (Sp:Nat → Value → Prop) (g:Nat → Nat) (d:Nat → Bool) (v:Nat → Value) (W:World):Prop where
 bel:Below w0.heap.size w0 W
 val:∀ j,j ∉ als → j ∉ als.map so → d j = true → j < m → Sp j (v j)
 ptr:∀ p ∈ als,d p = true → v p = .pointer (some ⟨g p,0,none⟩) ∧ w0.heap.size ≤ g p
 zer:∀ p ∈ als,d p = true → d (so p) = false → CelP W (g p) zeroP
 ful:∀ p ∈ als,d (so p) = true → d p = true ∧ d (vq p) = true ∧ ∃ c n,v (vq p) = .agg c.toArray ∧ PtC c n ∧ CelP W (g p) c
 dis:∀ p ∈ als,∀ q ∈ als,d p = true → d q = true → p ≠ q → g p ≠ g q
theorem KnowsP.old {w0:World} {m:Nat} {als:List Nat} {so vq:Nat → Nat} {Sp:Nat → Value → Prop} {g:Nat → Nat} {d:Nat → Bool} {v:Nat → Value} {W:World} (k:KnowsP w0 m als so vq Sp g d v W):∀ p ∈ als,d p = true → g p < W.heap.size:=fun p hp hd => by
 cases hs:d (so p) with
 | false => exact (k.zer p hp hd hs).lt
 | true =>
  obtain ⟨_,_,c,n,_,_,hc⟩:=k.ful p hp hs
  exact hc.lt
theorem KnowsP.value {ops:Array Oper} {w0:World} {m sz:Nat} {als:List Nat} {so vq:Nat → Nat} {Sp:Nat → Value → Prop} {g:Nat → Nat} {d:Nat → Bool} {v:Nat → Value} {W W':World} (k:KnowsP w0 m als so vq Sp g d v W) (P:PlcP ops m sz als so vq) {i:Nat} (hi:i ∉ als) (hs:i ∉ als.map so) (hd:d i = false) {x:Value} (hx:Sp i x) (hb:Below W.heap.size W W') :
  KnowsP w0 m als so vq Sp g (also d i) (upd v i x) W':=by
 have na:∀ p ∈ als,p ≠ i:=fun p hp e => hi (by rw [← e];exact hp)
 have ns:∀ p ∈ als,so p ≠ i:=fun p hp e => hs (by rw [← e];exact List.mem_map_of_mem hp)
 refine ⟨k.bel.trans (hb.mono k.bel.size),?_,?_,?_,?_,?_⟩
 ·intro j h1 h2 h3 h4
  by_cases e:j = i
  ·subst e;rw [upd_eq];exact hx
  ·rw [upd_ne e];rw [also_ne e] at h3;exact k.val j h1 h2 h3 h4
 ·intro p hp hdp
  rw [also_ne (na p hp)] at hdp
  rw [upd_ne (na p hp)]
  exact k.ptr p hp hdp
 ·intro p hp hdp hds
  rw [also_ne (na p hp)] at hdp
  rw [also_ne (ns p hp)] at hds
  exact (k.zer p hp hdp hds).later hb
 ·intro p hp hds
  rw [also_ne (ns p hp)] at hds
  obtain ⟨h1,h2,c,n,h3,h4,h5⟩:=k.ful p hp hds
  have hq:vq p ≠ i:=fun e => by rw [e,hd] at h2;cases h2
  rw [also_ne (na p hp),also_ne hq,upd_ne hq]
  exact ⟨h1,h2,c,n,h3,h4,h5.later hb⟩
 ·intro p hp q hq hdp hdq
  rw [also_ne (na p hp)] at hdp
  rw [also_ne (na q hq)] at hdq
  exact k.dis p hp q hq hdp hdq
theorem KnowsP.place {ops:Array Oper} {w0:World} {m sz:Nat} {als:List Nat} {so vq:Nat → Nat} {Sp:Nat → Value → Prop} {g:Nat → Nat} {d:Nat → Bool} {v:Nat → Value} {W:World} (k:KnowsP w0 m als so vq Sp g d v W) (P:PlcP ops m sz als so vq) {i:Nat} (hi:i ∈ als) (hd:d i = false) :
  KnowsP w0 m als so vq Sp (fun j => if j = i then W.heap.size else g j) (also d i) (upd v i (.pointer (some ⟨W.heap.size,0,none⟩))) (W.alloc (.cells zeroP.toArray 101)):=by
 have hb:Below W.heap.size W (W.alloc (.cells zeroP.toArray 101)):=(Below.refl _ _).alloc (Nat.le_refl _) _
 have ns:∀ p ∈ als,so p ≠ i:=fun p hp e => (P.st p hp).2.2.1 (by rw [e];exact hi)
 have nv:∀ p ∈ als,vq p ≠ i:=fun p hp e => (P.st p hp).2.2.2.1 (by rw [e];exact hi)
 have hdsi:d (so i) = false:=by
  cases h:d (so i) with
  | false => rfl
  | true =>
   have:=(k.ful i hi h).1
   rw [hd] at this
   cases this
 refine ⟨k.bel.trans (hb.mono k.bel.size),?_,?_,?_,?_,?_⟩
 ·intro j h1 h2 h3 h4
  have e:j ≠ i:=fun e => h1 (by rw [e];exact hi)
  rw [upd_ne e];rw [also_ne e] at h3;exact k.val j h1 h2 h3 h4
 ·intro p hp hdp
  by_cases e:p = i
  ·subst e
   simp only [upd_eq,if_true]
   exact ⟨by first | rfl | trivial,k.bel.size⟩
  ·rw [also_ne e] at hdp
   simp only [upd_ne e,e,if_false]
   exact k.ptr p hp hdp
 ·intro p hp hdp hds
  rw [also_ne (ns p hp)] at hds
  by_cases e:p = i
  ·subst e
   simp only [if_true]
   exact CelP.new W zeroP
  ·rw [also_ne e] at hdp
   simp only [e,if_false]
   exact (k.zer p hp hdp hds).later hb
 ·intro p hp hds
  rw [also_ne (ns p hp)] at hds
  obtain ⟨h1,h2,c,n,h3,h4,h5⟩:=k.ful p hp hds
  have e:p ≠ i:=fun e => by rw [e,hd] at h1;cases h1
  rw [also_ne e,also_ne (nv p hp),upd_ne (nv p hp)]
  simp only [e,if_false]
  exact ⟨h1,h2,c,n,h3,h4,h5.later hb⟩
 ·intro p hp q hq hdp hdq hpq
  by_cases e:p = i
  ·by_cases e2:q = i
   ·exact absurd (e.trans e2.symm) hpq
   ·have:=k.old q hq (by rwa [also_ne e2] at hdq)
    simp only [e,e2,if_true,if_false]
    omega
  ·have h1:=k.old p hp (by rwa [also_ne e] at hdp)
   by_cases e2:q = i
   ·simp only [e,e2,if_true,if_false]
    omega
   ·simp only [e,e2,if_false]
    exact k.dis p hp q hq (by rwa [also_ne e] at hdp) (by rwa [also_ne e2] at hdq) hpq
theorem KnowsP.store {ops:Array Oper} {w0:World} {m sz:Nat} {als:List Nat} {so vq:Nat → Nat} {Sp:Nat → Value → Prop} {g:Nat → Nat} {d:Nat → Bool} {v:Nat → Value} {W:World} (k:KnowsP w0 m als so vq Sp g d v W) (P:PlcP ops m sz als so vq) {p:Nat} (hp:p ∈ als) (hd:d (so p) = false) (hdp:d p = true) (hdq:d (vq p) = true) {c:List Value} {n:Nat} (hv:v (vq p) = .agg c.toArray) (hE:PtC c n) :
  KnowsP w0 m als so vq Sp g (also d (so p)) (upd v (so p) undef) (W.setRow (g p) c.toArray):=by
 have nsa:∀ q ∈ als,q ≠ so p:=fun q hq e => (P.st p hp).2.2.1 (by rw [← e];exact hq)
 have nvs:∀ q ∈ als,vq q ≠ so p:=fun q hq => P.vs q hq p hp
 have hz:=k.zer p hp hdp hd
 refine ⟨below_setRow k.bel (k.ptr p hp hdp).2 _,?_,?_,?_,?_,?_⟩
 ·intro j h1 h2 h3 h4
  have e:j ≠ so p:=fun e => h2 (by rw [e];exact List.mem_map_of_mem hp)
  rw [upd_ne e];rw [also_ne e] at h3;exact k.val j h1 h2 h3 h4
 ·intro q hq hdq'
  rw [also_ne (nsa q hq)] at hdq'
  rw [upd_ne (nsa q hq)]
  exact k.ptr q hq hdq'
 ·intro q hq hdq' hds
  rw [also_ne (nsa q hq)] at hdq'
  have e:so q ≠ so p:=fun e => by rw [e,also_eq] at hds;cases hds
  have e2:q ≠ p:=fun e2 => e (by rw [e2])
  rw [also_ne e] at hds
  exact (k.zer q hq hdq' hds).put_other (k.dis q hq p hp hdq' hdp e2) _
 ·intro q hq hds
  by_cases e:q = p
  ·subst e
   rw [also_ne (nsa q hq),also_ne (nvs q hq),upd_ne (nvs q hq)]
   exact ⟨hdp,hdq,c,n,hv,hE,setRow_heap W _ _ _ _ _ hz⟩
  ·have e2:so q ≠ so p:=fun e2 => e (P.one q hq p hp e2)
   rw [also_ne e2] at hds
   obtain ⟨h1,h2,c',n',h3,h4,h5⟩:=k.ful q hq hds
   rw [also_ne (nsa q hq),also_ne (nvs q hq),upd_ne (nvs q hq)]
   exact ⟨h1,h2,c',n',h3,h4,h5.put_other (k.dis q hq p hp h1 hdp e) _⟩
 ·intro q hq r hr h1 h2
  rw [also_ne (nsa q hq)] at h1
  rw [also_ne (nsa r hr)] at h2
  exact k.dis q hq r hr h1 h2
theorem wp_region_points {ops:Array Oper} {Q:Exit → Act → World → Prop} {id:Nat} {a:Act} {w:World} (m:Nat) (hm:m ≤ ops.size) (hdown:downB .any ops = true) (hap:apartB ops m = true) (htl:tailB .any ops m = true) (hmx:Tryz.prog.follows .mixedOrders = true)
  (als:List Nat) (so vq:Nat → Nat) (P:PlcP ops m a.tmps.size als so vq) (Sp:Nat → Value → Prop) (hSp:∀ p ∈ als,∀ x,Sp (vq p) x → ∃ c n,x = .agg c.toArray ∧ PtC c n)
  (hval:∀ (d:Nat → Bool) (v:Nat → Value) (W:World) (i:Nat) (o:Oper) (A:Act),i < m → i ∉ als → i ∉ als.map so → ops[i]? = some o → (∀ j,j ∉ als → j ∉ als.map so → d j = true → j < m → Sp j (v j)) → (∀ e ∈ o.after,Region.binds .any e = true → d e.on = true) → Here ops m v d a A → Below w.drew.heap.size w.drew W →
   Region.wanted o (yielded ops A.tmps) = true ∧ o.wp Tryz.prog A W (fun a' W' => ∃ x,a' = A.put o.dst x ∧ Sp i x ∧ Below W.heap.size W W') Q)
  (hend:∀ (v:Nat → Value) (g:Nat → Nat) (W:World),(∀ j,j < m → j ∉ als → j ∉ als.map so → Sp j (v j)) → (∀ p ∈ als,v p = .pointer (some ⟨g p,0,none⟩) ∧ w.drew.heap.size ≤ g p ∧ ∃ c n,v (vq p) = .agg c.toArray ∧ PtC c n ∧ CelP W (g p) c) → (∀ p ∈ als,∀ q ∈ als,p ≠ q → g p ≠ g q) → Below w.drew.heap.size w.drew W →
   wpList Tryz.prog ops Q (ops.toList.drop m) (putAll ops v (fun _ => true) m a) W) :
  (Code.region id ops true).wp Tryz.prog Q a w:=by
 refine wp_region_free hmx m hm hdown hap htl (fun d v W => ∃ g,KnowsP w.drew m als so vq Sp g d v W) (fun _ => undef)
  ⟨fun _ => 0,Below.refl _ _,fun j _ _ h => (by cases h),fun p _ h => (by cases h),fun p _ h => (by cases h),fun p _ h => (by cases h),fun p _ q _ h => (by cases h)⟩ ?_ ?_
 ·rintro d v W i o A ⟨g,k⟩ hi ho hdi hall hA
  by_cases hia:i ∈ als
  ·obtain ⟨_,o',ho',hop,hgu⟩:=P.mak i hia
   obtain rfl:o' = o:=Option.some.inj (ho'.symm.trans ho)
   exact ⟨by unfold Region.wanted;rw [hgu],oper_val (exec_placeP hop) ⟨_,rfl,_,k.place P hia hdi⟩⟩
  ·by_cases his:i ∈ als.map so
   ·obtain ⟨p,hp,rfl⟩:=List.mem_map.1 his
    obtain ⟨h1,h2,h3,h4,o',x,y,ho',hop,hgu,hx,hy,hxs,hys,⟨e1,he1,hb1,hon1⟩,⟨e2,he2,hb2,hon2⟩⟩:=P.st p hp
    obtain rfl:o' = o:=Option.some.inj (ho'.symm.trans ho)
    have hdp:=hall e1 he1 hb1
    have hdq:=hall e2 he2 hb2
    rw [hon1] at hdp
    rw [hon2] at hdq
    have hvp:=k.ptr p hp hdp
    have hqs:vq p ∉ als.map so:=fun hh => by
     obtain ⟨q,hq,e⟩:=List.mem_map.1 hh
     exact P.vs p hp q hq e.symm
    obtain ⟨c,n,hc,hE⟩:=hSp p hp _ (k.val (vq p) h4 hqs hdq h2)
    have ex:=hA.new p x (P.mak p hp).1 hdp hx hxs
    have ey:=hA.new (vq p) y h2 hdq hy hys
    rw [hvp.1] at ex
    rw [hc] at ey
    have hz:=k.zer p hp hdp hdi
    exact ⟨by unfold Region.wanted;rw [hgu],oper_skip (exec_intoP hop ex ey hE zeroP_len hz) ⟨undef,rfl,g,k.store P hp hdi hdp hdq hc hE⟩⟩
   ·obtain ⟨hw,hwp⟩:=hval d v W i o A hi hia his ho k.val hall hA k.bel
    refine ⟨hw,Oper.wp_mono ?_ hwp⟩
    rintro a' W' ⟨x,rfl,hx,hb⟩
    exact ⟨x,rfl,g,k.value P hia his hdi hx hb⟩
 ·rintro d v W hall ⟨g,k⟩
  refine hend v g W (fun j hj h1 h2 => k.val j h1 h2 (hall j hj) hj) (fun p hp => ?_) (fun p hp q hq hpq => k.dis p hp q hq (hall p (P.mak p hp).1) (hall q (P.mak q hq).1) hpq) k.bel
  have h1:=k.ptr p hp (hall p (P.mak p hp).1)
  obtain ⟨_,_,c,n,h3,h4,h5⟩:=k.ful p hp (hall _ (P.st p hp).1)
  exact ⟨h1.1,h1.2,c,n,h3,h4,h5⟩
end Go.Proofs.YthmkhdnnljdglaaGreatDoor
