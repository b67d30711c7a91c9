import Derived.Test.YthmkhdnnljdglaaGreatDoorQaq
import Derived.Test.YthmkhdnnljdglaaGreatDoorQaz
namespace Go.Proofs.YthmkhdnnljdglaaGreatDoor
set_option linter.unusedVariables false
set_option maxRecDepth 100000
open Go.RowKit
structure Vr (W:World) (L:List (Nat × TypeId × List Value)):Prop where
 cell:∀ p ∈ L,W.heap[p.1]? = some (.cells p.2.2.toArray p.2.1 (0,0))
 nd:(L.map (·.1)).Nodup
theorem Vr.lt {W:World} {L:List (Nat × TypeId × List Value)} (h:Vr W L):∀ p ∈ L,p.1 < W.heap.size:=fun p hp => (Array.getElem?_eq_some_iff.1 (h.cell p hp)).1
theorem Vr.later {W W':World} {L:List (Nat × TypeId × List Value)} (h:Vr W L) (hb:Below W.heap.size W W'):Vr W' L:=
 ⟨fun p hp => by rw [hb.block _ (h.lt p hp)];exact h.cell p hp,h.nd⟩
theorem Vr.add {W:World} {L:List (Nat × TypeId × List Value)} (h:Vr W L) (g:Nat) (t:TypeId) (c:List Value) (hc:W.heap[g]? = some (.cells c.toArray t (0,0))) (hn:∀ p ∈ L,p.1 ≠ g):Vr W (L ++ [(g,t,c)]):=by
 refine ⟨fun p hp => ?_,?_⟩
 ·rcases List.mem_append.1 hp with h1 | h1
  ·exact h.cell p h1
  ·rw [List.mem_singleton.1 h1];exact hc
 ·rw [List.map_append,List.nodup_append]
  refine ⟨h.nd,by simp,?_⟩
  intro x hx y hy
  obtain ⟨p,hp,rfl⟩:=List.mem_map.1 hx
  simp only [List.map_cons,List.map_nil,List.mem_singleton] at hy
  rw [hy]
  exact hn p hp
theorem Vr.put {W:World} {L:List (Nat × TypeId × List Value)} (h:Vr W L) (i:Nat) (g:Nat) (t:TypeId) (c c':List Value) (hi:L[i]? = some (g,t,c)):Vr (W.setRow g c'.toArray) (L.set i (g,t,c')):=by
 have hil:i < L.length:=(List.getElem?_eq_some_iff.1 hi).1
 have hgi:L[i] = (g,t,c):=(List.getElem?_eq_some_iff.1 hi).2
 refine ⟨fun p hp => ?_,?_⟩
 ·obtain ⟨k,hk,hkp⟩:=List.mem_iff_getElem.1 hp
  rw [List.getElem_set] at hkp
  split at hkp
  ·rw [← hkp]
   exact setRow_heap W g _ _ _ _ (h.cell (g,t,c) (by rw [← hgi];exact List.getElem_mem hil))
  ·rename_i hik
   have hkl:k < L.length:=by simpa using hk
   have hpm:p ∈ L:=by rw [← hkp];exact List.getElem_mem hkl
   have hne:p.1 ≠ g:=by
    intro e
    have h1:=List.pairwise_iff_getElem.1 h.nd
    rcases Nat.lt_or_ge i k with hlt | hge
    ·exact h1 i k (by simpa using hil) (by simpa using hkl) hlt (by simp [hgi,hkp,e])
    ·exact h1 k i (by simpa using hkl) (by simpa using hil) (by omega) (by simp [hgi,hkp,e])
   rw [setRow_other _ _ _ _ hne]
   exact h.cell p hpm
 ·have:(L.set i (g,t,c')).map (·.1) = L.map (·.1):=by
   rw [List.map_set]
   apply List.ext_getElem
   ·simp
   ·intro n h1 h2
    rw [List.getElem_set]
    split
    ·rename_i hin
     subst hin
     simp [hgi]
    ·rfl
  rw [this]
  exact h.nd
theorem Vr.sub {W:World} {L L':List (Nat × TypeId × List Value)} (h:Vr W L) (hs:L'.Sublist L):Vr W L':=
 ⟨fun p hp => h.cell p (hs.subset hp),(hs.map _).nodup h.nd⟩
structure Vw (w W:World) (L:List (Nat × TypeId × List Value)):Prop where
 vr:Vr W L
 lo:∀ p ∈ L,w.heap.size ≤ p.1
 bel:Below w.heap.size w W
theorem Vw.later {w W W':World} {L:List (Nat × TypeId × List Value)} (h:Vw w W L) (hb:Below W.heap.size W W'):Vw w W' L:=⟨h.vr.later hb,h.lo,h.bel.trans (hb.mono h.bel.size)⟩
theorem Vw.drew {w W:World} {L:List (Nat × TypeId × List Value)} (h:Vw w W L):Vw w W.drew L:=⟨h.vr.later ((Below.refl _ _).drew),h.lo,h.bel.drew⟩
theorem Vw.cell {w W:World} {L:List (Nat × TypeId × List Value)} (h:Vw w W L) (p:Nat × TypeId × List Value) (hp:p ∈ L):W.heap[p.1]? = some (.cells p.2.2.toArray p.2.1 (0,0)):=h.vr.cell p hp
theorem Vw.put {w W:World} {L:List (Nat × TypeId × List Value)} (h:Vw w W L) (i:Nat) (g:Nat) (t:TypeId) (c c':List Value) (hi:L[i]? = some (g,t,c)):Vw w (W.setRow g c'.toArray) (L.set i (g,t,c')):=by
 have hlo:w.heap.size ≤ g:=h.lo (g,t,c) (List.mem_of_getElem? hi)
 refine ⟨h.vr.put i g t c c' hi,fun p hp => ?_,below_setRow h.bel hlo _⟩
 rcases List.mem_or_eq_of_mem_set hp with h1 | h1
 ·exact h.lo p h1
 ·rw [h1];exact hlo
theorem Vw.setCell {w W:World} {L:List (Nat × TypeId × List Value)} (h:Vw w W L) (i:Nat) (g:Nat) (t:TypeId) (c:List Value) (n:Nat) (v:Value) (hi:L[i]? = some (g,t,c)):Vw w (W.setCell ⟨g,n,none⟩ v) (L.set i (g,t,c.set n v)):=by
 have h1:=h.put i g t c (c.set n v) hi
 have h2:=h.cell (g,t,c) (List.mem_of_getElem? hi)
 have h3:W.setCell ⟨g,n,none⟩ v = W.setRow g (c.set n v).toArray:=by
  rw [setCell_eq_setRow W g n c.toArray t (0,0) v h2]
  simp
 rw [h3]
 exact h1
theorem Vw.sub {w W:World} {L L':List (Nat × TypeId × List Value)} (h:Vw w W L) (hs:L'.Sublist L):Vw w W L':=⟨h.vr.sub hs,fun p hp => h.lo p (hs.subset hp),h.bel⟩
theorem Vw.add {w W:World} {L:List (Nat × TypeId × List Value)} (h:Vw w W L) (g:Nat) (t:TypeId) (c:List Value) (hc:W.heap[g]? = some (.cells c.toArray t (0,0))) (hn:∀ p ∈ L,p.1 ≠ g) (hg:w.heap.size ≤ g):Vw w W (L ++ [(g,t,c)]):=by
 refine ⟨h.vr.add g t c hc hn,fun p hp => ?_,h.bel⟩
 rcases List.mem_append.1 hp with h1 | h1
 ·exact h.lo p h1
 ·rw [List.mem_singleton.1 h1];exact hg
theorem Vw.alloc {w W:World} {L:List (Nat × TypeId × List Value)} (h:Vw w W L) (t:TypeId) (c:List Value):Vw w (W.alloc (.cells c.toArray t)) (L ++ [(W.heap.size,t,c)]):=
 (h.later ((Below.refl _ _).alloc (Nat.le_refl _) _)).add _ _ _ (heap_alloc_new W _) (fun p hp => Nat.ne_of_lt (h.vr.lt p hp)) h.bel.size
theorem Vw.none (w:World):Vw w w []:=⟨⟨fun p hp => (by cases hp),by simp⟩,fun p hp => (by cases hp),Below.refl _ _⟩
theorem Vw.more {w W:World} (t:TypeId) (g:Nat → Nat) (cont:Nat → List Value):∀ (als:List Nat) (L:List (Nat × TypeId × List Value)),Vw w W L → als.Nodup → (∀ p ∈ als,w.heap.size ≤ g p ∧ W.heap[g p]? = some (.cells (cont p).toArray t (0,0)) ∧ ∀ q ∈ L,q.1 ≠ g p) → (∀ p ∈ als,∀ q ∈ als,p ≠ q → g p ≠ g q) →
  Vw w W (L ++ als.map fun p => (g p,t,cont p))
 | [],L,h,_,_,_ => by rw [List.map_nil,List.append_nil];exact h
 | p :: r,L,h,hnd,hc,hd => by
  obtain ⟨hn1,hn2⟩:=List.nodup_cons.1 hnd
  obtain ⟨h1,h2,h3⟩:=hc p (by simp)
  have:=Vw.more t g cont r (L ++ [(g p,t,cont p)]) (h.add _ _ _ h2 h3 h1) hn2 (fun q hq => by
   obtain ⟨k1,k2,k3⟩:=hc q (by simp [hq])
   refine ⟨k1,k2,fun x hx => ?_⟩
   rcases List.mem_append.1 hx with hx | hx
   ·exact k3 x hx
   ·rw [List.mem_singleton.1 hx]
    exact hd p (by simp) q (by simp [hq]) (fun e => hn1 (by rw [e];exact hq))) (fun q hq x hx => hd q (by simp [hq]) x (by simp [hx]))
  rw [List.append_assoc] at this
  exact this
theorem Vw.places {w W0 W:World} {L:List (Nat × TypeId × List Value)} (h0:Vw w W0 L) (hb:Below W0.heap.size W0 W) (t:TypeId) (g:Nat → Nat) (cont:Nat → List Value) (als:List Nat) (hnd:als.Nodup) (hc:∀ p ∈ als,W0.heap.size ≤ g p ∧ W.heap[g p]? = some (.cells (cont p).toArray t (0,0))) (hd:∀ p ∈ als,∀ q ∈ als,p ≠ q → g p ≠ g q) :
  Vw w W (L ++ als.map fun p => (g p,t,cont p)):=
 Vw.more t g cont als L (h0.later hb) hnd (fun p hp => ⟨Nat.le_trans h0.bel.size (hc p hp).1,(hc p hp).2,fun q hq e => by
  have h1:=h0.vr.lt q hq
  have h2:=(hc p hp).1
  omega⟩) hd
def oldB (ops:Array Oper) (m p:Nat):Bool:=(List.range m).all fun j => dstOf ops j != some p
theorem Here.slot {ops:Array Oper} {m:Nat} {v:Nat → Value} {d:Nat → Bool} {a A:Act} (h:Here ops m v d a A) (p:Nat) (hp:oldB ops m p = true):A.eval (.tmp p) = a.tmps.getD p undef:=
 h.old p fun j hj e => by
  unfold oldB at hp
  rw [List.all_eq_true] at hp
  have:=hp j (List.mem_range.2 hj)
  rw [e] at this
  simp at this
theorem oper_skip {P:Program} {Q:Exit → Act → World → Prop} {o:Oper} {a:Act} {w w':World} {K:Act → World → Prop} (hrun:(execOp a.eval o).run P w = .ok .skip w') (h:K (a.put o.dst undef) w'):o.wp P a w K Q:=by
 unfold Oper.wp
 rw [hrun]
 exact h
theorem exec_enter2 {P:Program} {ev:Operand → Value} {o:Oper} {w:World} {f:FuncId} {x y:Operand} {t u:TypeId} {vx vy:Value} (ho:o.op = .call { callee:=.value (.func f),args:=#[x,y],argTypes:=#[t,u] }) (hf:ev (.func f) = .func (.func f) #[] #[]) (hx:ev x = vx) (hy:ev y = vy) (hc:(callFunc f #[vx,vy]).run P w = .ok (.enter f #[vx,vy]) w) :
  (execOp ev o).run P w = .ok (.enter f #[vx,vy]) w:=by
 unfold execOp
 simp [ho,resolve,invoke,hf,hx,hy,Deferred.ofValue,hc]
theorem exec_enter1 {P:Program} {ev:Operand → Value} {o:Oper} {w:World} {f:FuncId} {x:Operand} {t:TypeId} {vx:Value} (ho:o.op = .call { callee:=.value (.func f),args:=#[x],argTypes:=#[t] }) (hf:ev (.func f) = .func (.func f) #[] #[]) (hx:ev x = vx) (hc:(callFunc f #[vx]).run P w = .ok (.enter f #[vx]) w) :
  (execOp ev o).run P w = .ok (.enter f #[vx]) w:=by
 unfold execOp
 simp [ho,resolve,invoke,hf,hx,Deferred.ofValue,hc]
theorem exec_place {ev:Operand → Value} {o:Oper} {w:World} (ho:o.op = .alloc 96) :
  (execOp ev o).run Tryz.prog w = .ok (.value (.pointer (some ⟨w.heap.size,0,none⟩))) (w.alloc (.cells zeroE.toArray 96)):=by
 unfold execOp
 simp only [ho]
 go_simp
 rfl
theorem exec_into {ev:Operand → Value} {o:Oper} {w:World} {x y:Operand} {g:Nat} {c c0:List Value} {n:Nat} (ho:o.op = .store 96 x y) (hx:ev x = .pointer (some ⟨g,0,none⟩)) (hy:ev y = .agg c.toArray) (hE:Elm c n) (hl:c0.length = 5) (hc:Cel w g c0) :
  (execOp ev o).run Tryz.prog w = .ok .skip (w.setRow g c.toArray):=by
 have hst:=store_row w g _ _ c hc (by rw [hE.len];simp [hl]) hE.one
 have hlen:=hE.len
 have hu:=Tryz.underlying96
 unfold execOp
 simp only [ho,hx,hy]
 go_simp
theorem agg_inj {c c':List Value} (h:Value.agg c.toArray = .agg c'.toArray):c = c':=by
 have h1:c.toArray = c'.toArray:=by injection h
 have h2:=congrArg Array.toList h1
 simpa using h2
theorem wp_tail_eq {P:Program} {ops:Array Oper} {Q:Exit → Act → World → Prop} {l l':List Oper} {a a':Act} {w:World} (hl:l = l') (ha:a = a') (h:wpList P ops Q l' a' w):wpList P ops Q l a w:=by rw [hl,ha];exact h
structure Plc (ops:Array Oper) (m sz:Nat) (als:List Nat) (so vq:Nat → Nat):Prop where
 mak:∀ p ∈ als,p < m ∧ ∃ o,ops[p]? = some o ∧ o.op = .alloc 96 ∧ o.guard = none
 st:∀ p ∈ als,so p < m ∧ vq p < m ∧ so p ∉ als ∧ vq p ∉ als ∧ ∃ o x y,ops[so p]? = some o ∧ o.op = .store 96 (.tmp x) (.tmp y) ∧ o.guard = none ∧ dstOf ops p = some x ∧ dstOf ops (vq p) = some y ∧ x < sz ∧ y < sz ∧
  (∃ e ∈ o.after,Region.binds .any e = true ∧ e.on = p) ∧ (∃ e ∈ o.after,Region.binds .any e = true ∧ e.on = vq p)
 one:∀ p ∈ als,∀ q ∈ als,so p = so q → p = q
 vs:∀ p ∈ als,∀ q ∈ als,vq p ≠ so q
theorem none_stores {ops:Array Oper} {m sz:Nat} {so vq:Nat → Nat}:Plc ops m sz [] so vq:=⟨fun p h => (by cases h),fun p h => (by cases h),fun p h => (by cases h),fun p h => (by cases h)⟩
def plcB (ops:Array Oper) (m sz:Nat) (als:List Nat) (so vq:Nat → Nat):Bool:=
 als.all fun p => decide (p < m) && (match ops[p]? with | some o => (match o.op with | .alloc t => t == 96 | _ => false) && o.guard == none | none => false) && decide (so p < m) && decide (vq p < m) && !als.contains (so p) && !als.contains (vq p) &&
  (match ops[so p]? with
   | some o => (match o.op with
    | .store t (.tmp x) (.tmp y) => t == 96 && o.guard == none && dstOf ops p == some x && dstOf ops (vq p) == some y && decide (x < sz) && decide (y < sz) && (o.after.any fun e => Region.binds .any e && e.on == p) && (o.after.any fun e => Region.binds .any e && e.on == vq p)
    | _ => false)
   | none => false) && als.all fun q => (so p != so q || p == q) && vq p != so q
theorem after_has {o:Oper} {j:Nat} (h:(o.after.any fun e => Region.binds .any e && e.on == j) = true):∃ e ∈ o.after,Region.binds .any e = true ∧ e.on = j:=by
 obtain ⟨q,hq,hqq⟩:=Array.any_eq_true.1 h
 obtain ⟨hb,hon⟩:=Bool.and_eq_true_iff.1 hqq
 exact ⟨o.after[q],Array.getElem_mem hq,hb,by simpa using hon⟩
theorem dep_done {o:Oper} {d:Nat → Bool} (hd:∀ e ∈ o.after,Region.binds .any e = true → d e.on = true) (j:Nat) (h:(o.after.any fun e => Region.binds .any e && e.on == j) = true):d j = true:=by
 obtain ⟨e,he,hb,hon⟩:=after_has h
 rw [← hon]
 exact hd e he hb
theorem plc_of {ops:Array Oper} {m sz:Nat} {als:List Nat} {so vq:Nat → Nat} (h:plcB ops m sz als so vq = true):Plc ops m sz als so vq:=by
 unfold plcB at h
 rw [List.all_eq_true] at h
 have h':∀ p ∈ als,_:=fun p hp => by
  have:=h p hp
  simp only [Bool.and_eq_true] at this
  exact this
 refine ⟨fun p hp => ?_,fun p hp => ?_,fun p hp q hq e => ?_,fun p hp q hq => ?_⟩
 ·obtain ⟨⟨⟨⟨⟨⟨⟨h1,h2⟩,h3⟩,h4⟩,h5⟩,h6⟩,h7⟩,h8⟩:=h' p hp
  refine ⟨of_decide_eq_true h1,?_⟩
  split at h2
  ·rename_i o ho
   obtain ⟨h9,h10⟩:=Bool.and_eq_true_iff.1 h2
   split at h9
   ·rename_i t hop
    refine ⟨o,ho,?_,by simpa using h10⟩
    rw [hop]
    congr 1
    simpa using h9
   ·cases h9
  ·cases h2
 ·obtain ⟨⟨⟨⟨⟨⟨⟨h1,h2⟩,h3⟩,h4⟩,h5⟩,h6⟩,h7⟩,h8⟩:=h' p hp
  refine ⟨of_decide_eq_true h3,of_decide_eq_true h4,by simpa using h5,by simpa using h6,?_⟩
  split at h7
  ·rename_i o ho
   split at h7
   ·rename_i t x y hop
    simp only [Bool.and_eq_true] at h7
    obtain ⟨⟨⟨⟨⟨⟨⟨k1,k2⟩,k3⟩,k4⟩,k5⟩,k6⟩,k7⟩,k8⟩:=h7
    refine ⟨o,x,y,ho,?_,by simpa using k2,by simpa using k3,by simpa using k4,of_decide_eq_true k5,of_decide_eq_true k6,after_has k7,after_has k8⟩
    rw [hop]
    congr 1
    simpa using k1
   ·cases h7
  ·cases h7
 ·obtain ⟨⟨⟨⟨⟨⟨⟨h1,h2⟩,h3⟩,h4⟩,h5⟩,h6⟩,h7⟩,h8⟩:=h' p hp
  rw [List.all_eq_true] at h8
  have h9:=h8 q hq
  simp only [Bool.and_eq_true,Bool.or_eq_true,bne_iff_ne,beq_iff_eq] at h9
  rcases h9.1 with h10 | h10
  ·exact absurd e h10
  ·exact h10
 ·obtain ⟨⟨⟨⟨⟨⟨⟨h1,h2⟩,h3⟩,h4⟩,h5⟩,h6⟩,h7⟩,h8⟩:=h' p hp
  rw [List.all_eq_true] at h8
  have h9:=h8 q hq
  simp only [Bool.and_eq_true,bne_iff_ne] at h9
  exact h9.2
structure Knows (w0:World) (m:Nat) (als:List Nat) (so vq:Nat → Nat) (Sp:Nat → Value → Prop) (g:Nat → Nat) (d:Nat → Bool) (v:Nat → Value) (W:World):Prop where
 bel:Below w0.heap.size w0 W
 val:∀ j,j ∉ als → j ∉ als.map so → d j = true → j < m → Sp j (v j)
 ptr:∀ p ∈ als,d p = true → v p = .pointer (some ⟨g p,0,none⟩) ∧ w0.heap.size ≤ g p
 zer:∀ p ∈ als,d p = true → d (so p) = false → Cel W (g p) zeroE
 ful:∀ p ∈ als,d (so p) = true → d p = true ∧ d (vq p) = true ∧ ∃ c n,v (vq p) = .agg c.toArray ∧ Elm c n ∧ Cel W (g p) c
 dis:∀ p ∈ als,∀ q ∈ als,d p = true → d q = true → p ≠ q → g p ≠ g q
theorem Knows.old {w0:World} {m:Nat} {als:List Nat} {so vq:Nat → Nat} {Sp:Nat → Value → Prop} {g:Nat → Nat} {d:Nat → Bool} {v:Nat → Value} {W:World} (k:Knows w0 m als so vq Sp g d v W):∀ p ∈ als,d p = true → g p < W.heap.size:=fun p hp hd => by
 cases hs:d (so p) with
 | false => exact (k.zer p hp hd hs).lt
 | true =>
  obtain ⟨_,_,c,n,_,_,hc⟩:=k.ful p hp hs
  exact hc.lt
theorem also_ne {d:Nat → Bool} {i j:Nat} (h:j ≠ i):also d i j = d j:=by simp [also,h]
theorem also_eq {d:Nat → Bool} {i:Nat}:also d i i = true:=by simp [also]
theorem upd_ne {v:Nat → Value} {i j:Nat} {x:Value} (h:j ≠ i):upd v i x j = v j:=by simp [upd,h]
theorem upd_eq {v:Nat → Value} {i:Nat} {x:Value}:upd v i x i = x:=by simp [upd]
theorem Knows.value {ops:Array Oper} {w0:World} {m sz:Nat} {als:List Nat} {so vq:Nat → Nat} {Sp:Nat → Value → Prop} {g:Nat → Nat} {d:Nat → Bool} {v:Nat → Value} {W W':World} (k:Knows w0 m als so vq Sp g d v W) (P:Plc ops m sz als so vq) {i:Nat} (hi:i ∉ als) (hs:i ∉ als.map so) (hd:d i = false) {x:Value} (hx:Sp i x) (hb:Below W.heap.size W W') :
  Knows w0 m als so vq Sp g (also d i) (upd v i x) W':=by
 have na:∀ p ∈ als,p ≠ i:=fun p hp e => hi (by rw [← e];exact hp)
 have ns:∀ p ∈ als,so p ≠ i:=fun p hp e => hs (by rw [← e];exact List.mem_map_of_mem hp)
 refine ⟨k.bel.trans (hb.mono k.bel.size),?_,?_,?_,?_,?_⟩
 ·intro j h1 h2 h3 h4
  by_cases e:j = i
  ·subst e;rw [upd_eq];exact hx
  ·rw [upd_ne e];rw [also_ne e] at h3;exact k.val j h1 h2 h3 h4
 ·intro p hp hdp
  rw [also_ne (na p hp)] at hdp
  rw [upd_ne (na p hp)]
  exact k.ptr p hp hdp
 ·intro p hp hdp hds
  rw [also_ne (na p hp)] at hdp
  rw [also_ne (ns p hp)] at hds
  exact (k.zer p hp hdp hds).later hb
 ·intro p hp hds
  rw [also_ne (ns p hp)] at hds
  obtain ⟨h1,h2,c,n,h3,h4,h5⟩:=k.ful p hp hds
  have hq:vq p ≠ i:=fun e => by rw [e,hd] at h2;cases h2
  rw [also_ne (na p hp),also_ne hq,upd_ne hq]
  exact ⟨h1,h2,c,n,h3,h4,h5.later hb⟩
 ·intro p hp q hq hdp hdq
  rw [also_ne (na p hp)] at hdp
  rw [also_ne (na q hq)] at hdq
  exact k.dis p hp q hq hdp hdq
theorem Knows.place {ops:Array Oper} {w0:World} {m sz:Nat} {als:List Nat} {so vq:Nat → Nat} {Sp:Nat → Value → Prop} {g:Nat → Nat} {d:Nat → Bool} {v:Nat → Value} {W:World} (k:Knows w0 m als so vq Sp g d v W) (P:Plc ops m sz als so vq) {i:Nat} (hi:i ∈ als) (hd:d i = false) :
  Knows w0 m als so vq Sp (fun j => if j = i then W.heap.size else g j) (also d i) (upd v i (.pointer (some ⟨W.heap.size,0,none⟩))) (W.alloc (.cells zeroE.toArray 96)):=by
 have hb:Below W.heap.size W (W.alloc (.cells zeroE.toArray 96)):=(Below.refl _ _).alloc (Nat.le_refl _) _
 have ns:∀ p ∈ als,so p ≠ i:=fun p hp e => (P.st p hp).2.2.1 (by rw [e];exact hi)
 have nv:∀ p ∈ als,vq p ≠ i:=fun p hp e => (P.st p hp).2.2.2.1 (by rw [e];exact hi)
 have hdsi:d (so i) = false:=by
  cases h:d (so i) with
  | false => rfl
  | true =>
   have:=(k.ful i hi h).1
   rw [hd] at this
   cases this
 refine ⟨k.bel.trans (hb.mono k.bel.size),?_,?_,?_,?_,?_⟩
 ·intro j h1 h2 h3 h4
  have e:j ≠ i:=fun e => h1 (by rw [e];exact hi)
  rw [upd_ne e];rw [also_ne e] at h3;exact k.val j h1 h2 h3 h4
 ·intro p hp hdp
  by_cases e:p = i
  ·subst e
   simp only [upd_eq,if_true]
   exact ⟨by first | rfl | trivial,k.bel.size⟩
  ·rw [also_ne e] at hdp
   simp only [upd_ne e,e,if_false]
   exact k.ptr p hp hdp
 ·intro p hp hdp hds
  rw [also_ne (ns p hp)] at hds
  by_cases e:p = i
  ·subst e
   simp only [if_true]
   exact Cel.new W zeroE
  ·rw [also_ne e] at hdp
   simp only [e,if_false]
   exact (k.zer p hp hdp hds).later hb
 ·intro p hp hds
  rw [also_ne (ns p hp)] at hds
  obtain ⟨h1,h2,c,n,h3,h4,h5⟩:=k.ful p hp hds
  have e:p ≠ i:=fun e => by rw [e,hd] at h1;cases h1
  rw [also_ne e,also_ne (nv p hp),upd_ne (nv p hp)]
  simp only [e,if_false]
  exact ⟨h1,h2,c,n,h3,h4,h5.later hb⟩
 ·intro p hp q hq hdp hdq hpq
  by_cases e:p = i
  ·by_cases e2:q = i
   ·exact absurd (e.trans e2.symm) hpq
   ·have:=k.old q hq (by rwa [also_ne e2] at hdq)
    simp only [e,e2,if_true,if_false]
    omega
  ·have h1:=k.old p hp (by rwa [also_ne e] at hdp)
   by_cases e2:q = i
   ·simp only [e,e2,if_true,if_false]
    omega
   ·simp only [e,e2,if_false]
    exact k.dis p hp q hq (by rwa [also_ne e] at hdp) (by rwa [also_ne e2] at hdq) hpq
theorem Knows.store {ops:Array Oper} {w0:World} {m sz:Nat} {als:List Nat} {so vq:Nat → Nat} {Sp:Nat → Value → Prop} {g:Nat → Nat} {d:Nat → Bool} {v:Nat → Value} {W:World} (k:Knows w0 m als so vq Sp g d v W) (P:Plc ops m sz als so vq) {p:Nat} (hp:p ∈ als) (hd:d (so p) = false) (hdp:d p = true) (hdq:d (vq p) = true) {c:List Value} {n:Nat} (hv:v (vq p) = .agg c.toArray) (hE:Elm c n) :
  Knows w0 m als so vq Sp g (also d (so p)) (upd v (so p) undef) (W.setRow (g p) c.toArray):=by
 have nsa:∀ q ∈ als,q ≠ so p:=fun q hq e => (P.st p hp).2.2.1 (by rw [← e];exact hq)
 have nvs:∀ q ∈ als,vq q ≠ so p:=fun q hq => P.vs q hq p hp
 have hz:=k.zer p hp hdp hd
 refine ⟨below_setRow k.bel (k.ptr p hp hdp).2 _,?_,?_,?_,?_,?_⟩
 ·intro j h1 h2 h3 h4
  have e:j ≠ so p:=fun e => h2 (by rw [e];exact List.mem_map_of_mem hp)
  rw [upd_ne e];rw [also_ne e] at h3;exact k.val j h1 h2 h3 h4
 ·intro q hq hdq'
  rw [also_ne (nsa q hq)] at hdq'
  rw [upd_ne (nsa q hq)]
  exact k.ptr q hq hdq'
 ·intro q hq hdq' hds
  rw [also_ne (nsa q hq)] at hdq'
  have e:so q ≠ so p:=fun e => by rw [e,also_eq] at hds;cases hds
  have e2:q ≠ p:=fun e2 => e (by rw [e2])
  rw [also_ne e] at hds
  exact (k.zer q hq hdq' hds).put_other (k.dis q hq p hp hdq' hdp e2) _
 ·intro q hq hds
  by_cases e:q = p
  ·subst e
   rw [also_ne (nsa q hq),also_ne (nvs q hq),upd_ne (nvs q hq)]
   exact ⟨hdp,hdq,c,n,hv,hE,setRow_heap W _ _ _ _ _ hz⟩
  ·have e2:so q ≠ so p:=fun e2 => e (P.one q hq p hp e2)
   rw [also_ne e2] at hds
   obtain ⟨h1,h2,c',n',h3,h4,h5⟩:=k.ful q hq hds
   rw [also_ne (nsa q hq),also_ne (nvs q hq),upd_ne (nvs q hq)]
   exact ⟨h1,h2,c',n',h3,h4,h5.put_other (k.dis q hq p hp h1 hdp e) _⟩
 ·intro q hq r hr h1 h2
  rw [also_ne (nsa q hq)] at h1
  rw [also_ne (nsa r hr)] at h2
  exact k.dis q hq r hr h1 h2
theorem wp_region_elems {ops:Array Oper} {Q:Exit → Act → World → Prop} {id:Nat} {a:Act} {w:World} (m:Nat) (hm:m ≤ ops.size) (hdown:downB .any ops = true) (hap:apartB ops m = true) (htl:tailB .any ops m = true) (hmx:Tryz.prog.follows .mixedOrders = true)
  (als:List Nat) (so vq:Nat → Nat) (P:Plc ops m a.tmps.size als so vq) (Sp:Nat → Value → Prop) (hSp:∀ p ∈ als,∀ x,Sp (vq p) x → ∃ c n,x = .agg c.toArray ∧ Elm c n)
  (hval:∀ (d:Nat → Bool) (v:Nat → Value) (W:World) (i:Nat) (o:Oper) (A:Act),i < m → i ∉ als → i ∉ als.map so → ops[i]? = some o → (∀ j,j ∉ als → j ∉ als.map so → d j = true → j < m → Sp j (v j)) → (∀ e ∈ o.after,Region.binds .any e = true → d e.on = true) → Here ops m v d a A → Below w.drew.heap.size w.drew W →
   Region.wanted o (yielded ops A.tmps) = true ∧ o.wp Tryz.prog A W (fun a' W' => ∃ x,a' = A.put o.dst x ∧ Sp i x ∧ Below W.heap.size W W') Q)
  (hend:∀ (v:Nat → Value) (g:Nat → Nat) (W:World),(∀ j,j < m → j ∉ als → j ∉ als.map so → Sp j (v j)) → (∀ p ∈ als,v p = .pointer (some ⟨g p,0,none⟩) ∧ w.drew.heap.size ≤ g p ∧ ∃ c n,v (vq p) = .agg c.toArray ∧ Elm c n ∧ Cel W (g p) c) → (∀ p ∈ als,∀ q ∈ als,p ≠ q → g p ≠ g q) → Below w.drew.heap.size w.drew W →
   wpList Tryz.prog ops Q (ops.toList.drop m) (putAll ops v (fun _ => true) m a) W) :
  (Code.region id ops true).wp Tryz.prog Q a w:=by
 refine wp_region_free hmx m hm hdown hap htl (fun d v W => ∃ g,Knows w.drew m als so vq Sp g d v W) (fun _ => undef)
  ⟨fun _ => 0,Below.refl _ _,fun j _ _ h => (by cases h),fun p _ h => (by cases h),fun p _ h => (by cases h),fun p _ h => (by cases h),fun p _ q _ h => (by cases h)⟩ ?_ ?_
 ·rintro d v W i o A ⟨g,k⟩ hi ho hdi hall hA
  by_cases hia:i ∈ als
  ·obtain ⟨_,o',ho',hop,hgu⟩:=P.mak i hia
   obtain rfl:o' = o:=Option.some.inj (ho'.symm.trans ho)
   exact ⟨by unfold Region.wanted;rw [hgu],oper_val (exec_place hop) ⟨_,rfl,_,k.place P hia hdi⟩⟩
  ·by_cases his:i ∈ als.map so
   ·obtain ⟨p,hp,rfl⟩:=List.mem_map.1 his
    obtain ⟨h1,h2,h3,h4,o',x,y,ho',hop,hgu,hx,hy,hxs,hys,⟨e1,he1,hb1,hon1⟩,⟨e2,he2,hb2,hon2⟩⟩:=P.st p hp
    obtain rfl:o' = o:=Option.some.inj (ho'.symm.trans ho)
    have hdp:=hall e1 he1 hb1
    have hdq:=hall e2 he2 hb2
    rw [hon1] at hdp
    rw [hon2] at hdq
    have hvp:=k.ptr p hp hdp
    have hqs:vq p ∉ als.map so:=fun hh => by
     obtain ⟨q,hq,e⟩:=List.mem_map.1 hh
     exact P.vs p hp q hq e.symm
    obtain ⟨c,n,hc,hE⟩:=hSp p hp _ (k.val (vq p) h4 hqs hdq h2)
    have ex:=hA.new p x (P.mak p hp).1 hdp hx hxs
    have ey:=hA.new (vq p) y h2 hdq hy hys
    rw [hvp.1] at ex
    rw [hc] at ey
    have hz:=k.zer p hp hdp hdi
    exact ⟨by unfold Region.wanted;rw [hgu],oper_skip (exec_into hop ex ey hE zeroE_len hz) ⟨undef,rfl,g,k.store P hp hdi hdp hdq hc hE⟩⟩
   ·obtain ⟨hw,hwp⟩:=hval d v W i o A hi hia his ho k.val hall hA k.bel
    refine ⟨hw,Oper.wp_mono ?_ hwp⟩
    rintro a' W' ⟨x,rfl,hx,hb⟩
    exact ⟨x,rfl,g,k.value P hia his hdi hx hb⟩
 ·rintro d v W hall ⟨g,k⟩
  refine hend v g W (fun j hj h1 h2 => k.val j h1 h2 (hall j hj) hj) (fun p hp => ?_) (fun p hp q hq hpq => k.dis p hp q hq (hall p (P.mak p hp).1) (hall q (P.mak q hq).1) hpq) k.bel
  have h1:=k.ptr p hp (hall p (P.mak p hp).1)
  obtain ⟨_,_,c,n,h3,h4,h5⟩:=k.ful p hp (hall _ (P.st p hp).1)
  exact ⟨h1.1,h1.2,c,n,h3,h4,h5⟩
end Go.Proofs.YthmkhdnnljdglaaGreatDoor
