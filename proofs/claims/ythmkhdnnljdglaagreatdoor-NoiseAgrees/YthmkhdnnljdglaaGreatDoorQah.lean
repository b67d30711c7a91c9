import Derived.OrdersHeld
import Derived.Deep.RegionHeld3
import Derived.WalkKit
import Derived.Test.YthmkhdnnljdglaaGreatDoorQad
import Derived.Test.YthmkhdnnljdglaaGreatDoorQag
import Derived.Laws.OwnMore
import Derived.Deep.WholeRow
import Derived.Lib.SlBytesConst
import Derived.ChangeKeysEq
import Derived.Laws.StructEq
import Derived.Great.BuildSlice
import Derived.DeepKeys
import Derived.Test.YthmkhdnnljdglaaGreatDoorQaa
namespace Go.Proofs.YthmkhdnnljdglaaGreatDoor
set_option maxRecDepth 100000
open Go.RowKit
section
variable {P:Program} {ops:Array Oper} {Q:Exit → Act → World → Prop} {md:Region.Mode} {G:World → World → Prop}
def endsB (md:Region.Mode) (ops:Array Oper) (i:Nat):Bool:=
 match ops[i]? with
 | none => false
 | some o => (List.range ops.size).all fun k => k == i || o.after.any fun e => Region.binds md e && e.on == k
theorem ends_spec {listed:Array Bool} {i j:Nat} (h:endsB md ops j = true) (hj:j ∈ Region.ready md ops listed) (hi:i ∈ Region.ready md ops listed) (hij:j ≠ i):False:=by
 obtain ⟨_,oj,hoj,hall⟩:=mem_ready.1 hj
 obtain ⟨hiun,oi,hoi,_⟩:=mem_ready.1 hi
 simp only [endsB,hoj,List.all_eq_true,List.mem_range] at h
 have hlt:i < ops.size:=(Array.getElem?_eq_some_iff.1 hoi).1
 have h1:=h i hlt
 simp only [Bool.or_eq_true,beq_iff_eq] at h1
 rcases h1 with h1 | h1
 ·exact hij h1.symm
 ·obtain ⟨q,hq,hb,hon⟩:∃ (q:Nat) (hq:q < oj.after.size),Region.binds md oj.after[q] = true ∧ oj.after[q].on = i:=by simpa using h1
  have h2:=hall _ (Array.getElem_mem hq) hb
  rw [hon] at h2
  rcases Nat.lt_or_ge i listed.size with h' | h'
  ·simp [h'] at hiun h2;rw [hiun] at h2;cases h2
  ·simp [Array.getElem?_eq_none h'] at h2
def wpAnyG (P:Program) (md:Region.Mode) (ops:Array Oper) (Q:Exit → Act → World → Prop) (G:World → World → Prop):Nat → Array Bool → Act → World → Prop
 | 0,listed,a,w => Region.ready md ops listed = [] ∧ Q .normal a w
 | fuel + 1,listed,a,w =>
  (Region.ready md ops listed = [] → Q .normal a w) ∧
  ∀ i ∈ Region.ready md ops listed,wpOp P ops Q i (fun a' w' => (G w w' ∨ endsB md ops i = true) ∧ wpAnyG P md ops Q G fuel (listed.setIfInBounds i true) a' w') a w
theorem wpAny_of_G:∀ (fuel:Nat) (listed:Array Bool) (a:Act) (w:World),wpAnyG P md ops Q G fuel listed a w → wpAny P md ops Q fuel listed a w
 | 0,_,_,_,h => h
 | fuel + 1,_,_,_,h => ⟨h.1,fun i hi => wpOp_mono (fun a' w' h' => wpAny_of_G fuel _ a' w' h'.2) (h.2 i hi)⟩
theorem yieldsIf_weaken {S S':World → Prop} {o:Oper} {v:Value} {a:Act} (h:YieldsIf P ops S o v a) (hs:∀ w,S' w → S w):YieldsIf P ops S' o v a:=by
 rcases h with ⟨h1,h2⟩ | h
 ·exact .inl ⟨h1,fun w hw => h2 w (hs w hw)⟩
 ·exact .inr h
theorem wpAnyG_first (hrefl:∀ w,G w w) (htrans:∀ a b c,G a b → G b c → G a c) {i:Nat} {oi:Oper} {v:Value} (hi:ops[i]? = some oi) (hsel:∀ (j:Nat) (o:Oper) cs b,ops[j]? = some o → o.op ≠ .select cs b)
  (hQ:∀ c a w,Q (.panic c) (a.put oi.dst v) w → Q (.panic c) a w) :
  ∀ (fuel:Nat) (listed:Array Bool) (a:Act) (w:World),
   (∀ j oj,ops[j]? = some oj → j ≠ i → listed.getD j true = false → (∀ e ∈ oj.after,Region.binds md e = true → e.on ≠ i) → oi.apart ops oj = true) →
   i ∈ Region.ready md ops listed → YieldsIf P ops (G w) oi v a →
   wpAnyG P md ops Q G fuel (listed.setIfInBounds i true) (a.put oi.dst v) w → wpAnyG P md ops Q G (fuel + 1) listed a w:=by
 intro fuel
 induction fuel with
 | zero =>
  intro listed a w _ hr hy H
  refine ⟨fun h => (by rw [h] at hr;cases hr),fun j hj => ?_⟩
  by_cases hji:j = i
  ·subst hji;exact hy.wpOp hi (hrefl w) ⟨.inl (hrefl w),H⟩
  ·have:=ready_mono hj hji
   rw [H.1] at this
   cases this
 | succ fuel ih =>
  intro listed a w hfree hr hy H
  refine ⟨fun h => (by rw [h] at hr;cases hr),fun j hj => ?_⟩
  by_cases hji:j = i
  ·subst hji;exact hy.wpOp hi (hrefl w) ⟨.inl (hrefl w),H⟩
  ·have h1:=H.2 j (ready_mono hj hji)
   obtain ⟨hjun,oj,hoj,hall⟩:=mem_ready.1 hj
   have hnot:∀ e ∈ oj.after,Region.binds md e = true → e.on ≠ i:=fun e he hb heq => by
    have h1:=hall e he hb
    have h0:=(mem_ready.1 hr).1
    rw [heq] at h1
    rcases Nat.lt_or_ge i listed.size with h' | h'
    ·simp [h'] at h0 h1;rw [h0] at h1;cases h1
    ·simp [Array.getElem?_eq_none h'] at h1
   have h2:=wpOp_putIf hoj (hfree j oj hoj hji hjun hnot) (fun cs b => hsel i oi cs b hi) (fun cs b => hsel j oj cs b hoj) hQ hy h1
   have hfree':∀ k ok,ops[k]? = some ok → k ≠ i → (listed.setIfInBounds j true).getD k true = false →
     (∀ e ∈ ok.after,Region.binds md e = true → e.on ≠ i) → oi.apart ops ok = true:=fun k ok hk hki hun hno => by
    refine hfree k ok hk hki ?_ hno
    by_cases hjk:j = k
    ·subst hjk;exact hjun
    ·rw [getD_set_ne true hjk] at hun;exact hun
   refine wpOp_mono (fun a' w' h3 => ?_) h2
   have hG:G w w':=h3.2.1.resolve_right (fun he => ends_spec he hj hr hji)
   refine ⟨.inl hG,ih (listed.setIfInBounds j true) a' w' hfree' (ready_mono hr (Ne.symm hji)) (yieldsIf_weaken h3.1 (fun w2 hw2 => htrans _ _ _ hG hw2)) ?_⟩
   rw [Array.setIfInBounds_comm _ _ hji]
   exact h3.2.2
def wpSched (P:Program) (ops:Array Oper) (Q:Exit → Act → World → Prop) (G:World → World → Prop) (K:Act → World → Prop):List (Nat × Bool) → Act → World → Prop
 | [],a,w => K a w
 |(i,b) :: r,a,w => ∃ o,ops[i]? = some o ∧
  ((Region.wanted o (yielded ops a.tmps) = false ∧ wpSched P ops Q G K r (a.put o.dst undef) w) ∨
   (Region.wanted o (yielded ops a.tmps) = true ∧
    ((∃ v,(∀ w',G w w' → (execOp a.eval o).run P w' = .ok (.value v) w') ∧ wpSched P ops Q G K r (a.put o.dst v) w) ∨
    (b = false ∧ o.wp P a w (fun a' w' => (G w w' ∨ endsB .any ops i = true) ∧ wpSched P ops Q G K r a' w') Q))))
def schedTo (md:Region.Mode) (ops:Array Oper):List (Nat × Bool) → Array Bool → Option (Array Bool)
 | [],listed => some listed
 |(i,b) :: r,listed => if (bif b then (Region.ready md ops listed).contains i && Region.free md ops listed i else Region.ready md ops listed == [i] && Region.free md ops listed i) then schedTo md ops r (listed.setIfInBounds i true) else none
theorem sched_sound {md:Region.Mode} (hmd:md = .any) (hrefl:∀ w,G w w) (htrans:∀ a b c,G a b → G b c → G a c) (hs:Region.noSelect ops = true) (hQ:∀ c a w d v,Q (.panic c) (a.put d v) w → Q (.panic c) a w) (fuel:Nat) (listed':Array Bool) :
  ∀ (s:List (Nat × Bool)) (listed:Array Bool) (a:Act) (w:World),schedTo md ops s listed = some listed' →
   wpSched P ops Q G (fun a w => wpAnyG P md ops Q G fuel listed' a w) s a w → wpAnyG P md ops Q G (fuel + s.length) listed a w
 | [],listed,a,w,h,H => by
  simp only [schedTo,Option.some.injEq] at h
  subst h
  exact H
 |(i,b) :: r,listed,a,w,h,H => by
  obtain ⟨o,ho,H⟩:=H
  unfold schedTo at h
  split at h
  case isFalse => cases h
  rename_i hc
  have hfr:i ∈ Region.ready md ops listed ∧ Region.free md ops listed i = true ∧ (b = false → Region.ready md ops listed = [i]):=by
   cases b
   ·simp only [cond_false,Bool.and_eq_true,beq_iff_eq] at hc
    exact ⟨by rw [hc.1];simp,hc.2,fun _ => hc.1⟩
   ·simp only [cond_true,Bool.and_eq_true] at hc
    exact ⟨by simpa using hc.1,hc.2,fun e => by cases e⟩
  obtain ⟨hr,hf,honly⟩:=hfr
  have ih:=fun a w H => sched_sound hmd hrefl htrans hs hQ fuel listed' r (listed.setIfInBounds i true) a w h H
  show wpAnyG P md ops Q G ((fuel + r.length) + 1) listed a w
  rcases H with ⟨hw,H⟩ | ⟨hw,⟨v,hv,H⟩ | ⟨hb,H⟩⟩
  ·exact wpAnyG_first hrefl htrans ho (Region.noSelect_spec hs) (fun c a w => hQ c a w _ _) _ listed a w (Region.free_spec ho hf) hr (.inr ⟨hw,rfl⟩) (ih _ _ H)
  ·exact wpAnyG_first hrefl htrans ho (Region.noSelect_spec hs) (fun c a w => hQ c a w _ _) _ listed a w (Region.free_spec ho hf) hr (.inl ⟨hw,hv⟩) (ih _ _ H)
  ·refine ⟨fun h0 => absurd h0 (by rw [honly hb];simp),fun j hj => ?_⟩
   rw [honly hb] at hj
   simp only [List.mem_singleton] at hj
   subst hj
   unfold wpOp
   simp only [ho,hw,if_true]
   exact .inl (Oper.wp_mono (fun a' w' h' => ⟨by rw [hmd];exact h'.1,ih a' w' h'.2⟩) H)
theorem wp_region_sched {id:Nat} {a:Act} {w:World} (hm:P.follows .mixedOrders = true) (hrefl:∀ w,G w w) (htrans:∀ a b c,G a b → G b c → G a c) (hs:Region.noSelect ops = true)
  (hQ:∀ c a w d v,Q (.panic c) (a.put d v) w → Q (.panic c) a w) (s:List (Nat × Bool)) (hsz:s.length = ops.size)
  (hto:((schedTo .any ops s (Array.replicate ops.size false)).map fun l => (Region.ready .any ops l).isEmpty) = some true)
  (h:wpSched P ops Q G (fun a w => Q .normal a w) s a { w with drawn:=w.drawn + 1 }):(Code.region id ops true).wp P Q a w:=by
 cases hx:schedTo .any ops s (Array.replicate ops.size false) with
 | none => rw [hx] at hto;cases hto
 | some l =>
  rw [hx] at hto
  have hready:Region.ready .any ops l = []:=by simpa using hto
  have hK:∀ a w,Q .normal a w → wpAnyG P .any ops Q G 0 l a w:=fun a w hq => ⟨hready,hq⟩
  have hmono:∀ (s:List (Nat × Bool)) a w,wpSched P ops Q G (fun a w => Q .normal a w) s a w → wpSched P ops Q G (fun a w => wpAnyG P .any ops Q G 0 l a w) s a w:=by
   intro s
   induction s with
   | nil => intro a w h;exact hK a w h
   | cons x r ih =>
    intro a w ⟨o,ho,H⟩
    refine ⟨o,ho,?_⟩
    rcases H with ⟨hw,H⟩ | ⟨hw,⟨v,hv,H⟩ | ⟨hb,H⟩⟩
    ·exact .inl ⟨hw,ih _ _ H⟩
    ·exact .inr ⟨hw,.inl ⟨v,hv,ih _ _ H⟩⟩
    ·exact .inr ⟨hw,.inr ⟨hb,Oper.wp_mono (fun a' w' h' => ⟨h'.1,ih _ _ h'.2⟩) H⟩⟩
  have:=sched_sound rfl hrefl htrans hs hQ 0 l s (Array.replicate ops.size false) a _ hx (hmono s a _ h)
  rw [Nat.zero_add,hsz] at this
  exact wp_region_any hm (wpAny_of_G _ _ _ _ this)
theorem wp_region_sched' {id:Nat} {a:Act} {w:World} (hm:P.follows .mixedOrders = true) (hrefl:∀ w,G w w) (htrans:∀ a b c,G a b → G b c → G a c) (hs:Region.noSelect ops = true)
  (s:List (Nat × Bool)) (hsz:s.length = ops.size)
  (hto:((schedTo .any ops s (Array.replicate ops.size false)).map fun l => (Region.ready .any ops l).isEmpty) = some true)
  (h:∀ K:Act → World → Prop,Hid (∀ a w,Q .normal a w → K a w) → wpSched P ops (NoPanic Q) G K s a w.drew):(Code.region id ops true).wp P Q a w:=
 wp_region_noPanic (wp_region_sched hm hrefl htrans hs (fun _ _ _ _ _ h => h) s hsz hto (h _ (fun _ _ h => h)))
theorem wpSched_mono {K K':Act → World → Prop} (h:∀ a w,K a w → K' a w):∀ (s:List (Nat × Bool)) a w,wpSched P ops Q G K s a w → wpSched P ops Q G K' s a w:=by
 intro s
 induction s with
 | nil => intro a w H;exact h a w H
 | cons x r ih =>
  intro a w ⟨o,ho,H⟩
  refine ⟨o,ho,?_⟩
  rcases H with ⟨hw,H⟩ | ⟨hw,⟨v,hv,H⟩ | ⟨hb,H⟩⟩
  ·exact .inl ⟨hw,ih _ _ H⟩
  ·exact .inr ⟨hw,.inl ⟨v,hv,ih _ _ H⟩⟩
  ·exact .inr ⟨hw,.inr ⟨hb,Oper.wp_mono (fun a' w' h' => ⟨h'.1,ih _ _ h'.2⟩) H⟩⟩
theorem sched_begin {id:Nat} {a:Act} {w:World} (hm:P.follows .mixedOrders = true) (hrefl:∀ w,G w w) (htrans:∀ a b c,G a b → G b c → G a c) (hs:Region.noSelect ops = true)
  (s:List (Nat × Bool)) (fuel:Nat) (listed':Array Bool) (hsz:fuel + s.length = ops.size) (hto:schedTo .any ops s (Array.replicate ops.size false) = some listed')
  (h:∀ K:Act → World → Prop,Hid (∀ a w,wpAnyG P .any ops (NoPanic Q) G fuel listed' a w → K a w) → wpSched P ops (NoPanic Q) G K s a w.drew):(Code.region id ops true).wp P Q a w:=by
 refine wp_region_noPanic (wp_region_any hm (wpAny_of_G (G:=G) _ _ _ _ ?_))
 have:=sched_sound (Q:=NoPanic Q) rfl hrefl htrans hs (fun _ _ _ _ _ h => h) fuel listed' s (Array.replicate ops.size false) a w.drew hto (h _ (fun _ _ h => h))
 rw [hsz] at this
 exact this
theorem sched_end {fuel:Nat} {listed:Array Bool} {a:Act} {w:World} (hrefl:∀ w,G w w) (htrans:∀ a b c,G a b → G b c → G a c) (hs:Region.noSelect ops = true)
  (s:List (Nat × Bool)) (hsz:s.length = fuel) (hto:((schedTo .any ops s listed).map fun l => (Region.ready .any ops l).isEmpty) = some true)
  (h:∀ K:Act → World → Prop,Hid (∀ a w,Q .normal a w → K a w) → wpSched P ops (NoPanic Q) G K s a w):wpAnyG P .any ops (NoPanic Q) G fuel listed a w:=by
 cases hx:schedTo .any ops s listed with
 | none => rw [hx] at hto;cases hto
 | some l =>
  rw [hx] at hto
  have hready:Region.ready .any ops l = []:=by simpa using hto
  have:=sched_sound (Q:=NoPanic Q) rfl hrefl htrans hs (fun _ _ _ _ _ h => h) 0 l s listed a w hx (wpSched_mono (fun a w hq => ⟨hready,hq⟩) s a w (h (fun a w => Q .normal a w) (fun _ _ h => h)))
  rw [Nat.zero_add,hsz] at this
  exact this
theorem sched_two {md:Region.Mode} {fuel i j:Nat} {listed:Array Bool} {oi oj:Oper} {a:Act} {w:World} (hr:Region.ready md ops listed = [i,j]) (hi:ops[i]? = some oi) (hwi:Region.wanted oi (yielded ops a.tmps) = true)
  (hj:ops[j]? = some oj) (hwj:Region.wanted oj (yielded ops a.tmps) = true)
  (hI:oi.wp P a w (fun a' w' => G w w' ∧ wpAnyG P md ops Q G fuel (listed.setIfInBounds i true) a' w') Q) (hJ:oj.wp P a w (fun a' w' => G w w' ∧ wpAnyG P md ops Q G fuel (listed.setIfInBounds j true) a' w') Q) :
  wpAnyG P md ops Q G (fuel + 1) listed a w:=by
 refine ⟨fun h => (by rw [hr] at h;cases h),fun k hk => ?_⟩
 rw [hr] at hk
 simp only [List.mem_cons,List.not_mem_nil,or_false] at hk
 rcases hk with rfl | rfl
 ·unfold wpOp
  simp only [hi,hwi,if_true]
  exact .inl (Oper.wp_mono (fun a' w' h => ⟨.inl h.1,h.2⟩) hI)
 ·unfold wpOp
  simp only [hj,hwj,if_true]
  exact .inl (Oper.wp_mono (fun a' w' h => ⟨.inl h.1,h.2⟩) hJ)
theorem oper_call {o:Oper} {a:Act} {w:World} {K:Act → World → Prop} {f:FuncId} {args:Array Value} (hrun:(execOp a.eval o).run P w = .ok (.enter f args) w)
  (hc:Calls P f args w fun e w' => ∃ v,e = .returned v ∧ K (a.put o.dst v) w'):o.wp P a w K Q:=by
 unfold Oper.wp
 rw [hrun]
 simp only [Oper.upon]
 refine hc.mono ?_
 rintro e w' ⟨v,rfl,h⟩
 exact h
theorem oper_val {o:Oper} {a:Act} {w w':World} {K:Act → World → Prop} {v:Value} (hrun:(execOp a.eval o).run P w = .ok (.value v) w') (h:K (a.put o.dst v) w'):o.wp P a w K Q:=by
 unfold Oper.wp
 rw [hrun]
 exact h
variable {K:Act → World → Prop} {r:List (Nat × Bool)} {i:Nat} {b:Bool} {o:Oper} {a:Act} {w:World}
theorem sched_take {v:Value} (ho:ops[i]? = some o) (hw:Region.wanted o (yielded ops a.tmps) = true) (hv:∀ w',G w w' → (execOp a.eval o).run P w' = .ok (.value v) w') (h:wpSched P ops Q G K r (a.put o.dst v) w) :
  wpSched P ops Q G K ((i,b) :: r) a w:=⟨o,ho,.inr ⟨hw,.inl ⟨v,hv,h⟩⟩⟩
theorem sched_call {f:FuncId} {args:Array Value} (ho:ops[i]? = some o) (hw:Region.wanted o (yielded ops a.tmps) = true) (hrun:(execOp a.eval o).run P w = .ok (.enter f args) w)
  (hc:Calls P f args w fun e w' => ∃ v,e = .returned v ∧ G w w' ∧ wpSched P ops Q G K r (a.put o.dst v) w'):wpSched P ops Q G K ((i,false) :: r) a w:=by
 refine ⟨o,ho,.inr ⟨hw,.inr ⟨rfl,?_⟩⟩⟩
 unfold Oper.wp
 rw [hrun]
 simp only [Oper.upon]
 refine hc.mono ?_
 rintro e w' ⟨v,rfl,hG,h⟩
 exact ⟨.inl hG,h⟩
theorem sched_val {v:Value} {w':World} (ho:ops[i]? = some o) (hw:Region.wanted o (yielded ops a.tmps) = true) (hrun:(execOp a.eval o).run P w = .ok (.value v) w') (hG:G w w') (h:wpSched P ops Q G K r (a.put o.dst v) w') :
  wpSched P ops Q G K ((i,false) :: r) a w:=by
 refine ⟨o,ho,.inr ⟨hw,.inr ⟨rfl,?_⟩⟩⟩
 unfold Oper.wp
 rw [hrun]
 exact ⟨.inl hG,h⟩
theorem sched_store {w':World} (ho:ops[i]? = some o) (hw:Region.wanted o (yielded ops a.tmps) = true) (hrun:(execOp a.eval o).run P w = .ok .skip w') (he:endsB .any ops i = true) (h:wpSched P ops Q G K r (a.put o.dst undef) w') :
  wpSched P ops Q G K ((i,false) :: r) a w:=by
 refine ⟨o,ho,.inr ⟨hw,.inr ⟨rfl,?_⟩⟩⟩
 unfold Oper.wp
 rw [hrun]
 exact ⟨.inr he,h⟩
theorem sched_append {s x:Operand} {t:TypeId} {vs vx v:Value} {w2:World} (ho:ops[i]? = some o) (hw:Region.wanted o (yielded ops a.tmps) = true)
  (hop:o.op = .call { callee:=.builtin .append,args:=#[s,x],argTypes:=#[t,t] }) (hs:a.eval s = vs) (hx:a.eval x = vx)
  (hr:(Builtin.append_ #[t,t] o.type #[vs,vx]).run P w = .ok v w2) (hG:G w w2) (h:wpSched P ops Q G K r (a.put o.dst v) w2) :
  wpSched P ops Q G K ((i,false) :: r) a w:=by
 refine sched_val ho hw ?_ hG h
 unfold execOp
 simp only [hop,resolve,invoke,builtin,Sem.run_bind,Sem.run_pure,Result.andThen_ok,List.map_toArray,List.map_cons,List.map_nil,hs,hx,hr]
theorem sched_done {Q':Exit → Act → World → Prop} (hK:Hid (∀ a w,Q' .normal a w → K a w)) (h:Q' .normal a w):wpSched P ops Q G K [] a w:=hK.out a w h
end
end Go.Proofs.YthmkhdnnljdglaaGreatDoor
namespace Go.Proofs.YthmkhdnnljdglaaGreatDoor
set_option linter.unusedVariables false
set_option maxRecDepth 100000
open Go.RowKit
def Grows (w w':World):Prop:=Below w.heap.size w w'
theorem Grows.refl (w:World):Grows w w:=Below.refl _ _
theorem Grows.trans (a b c:World) (h:Grows a b) (k:Grows b c):Grows a c:=Below.trans h (Below.mono k h.size)
theorem Byt.on {w w':World} {a:Option Addr} {len:Nat} {l:List UInt8} (h:Byt w a len l) (hb:Grows w w'):Byt w' a len l:=h.later hb
theorem byt_lit (w:World) (l:List UInt8) (b:Nat) (cs:Array Value) (e:TypeId) (fr:Nat × Nat) (h:w.heap[b]? = some (.cells cs e fr)) (hc:cs = (l.map bv).toArray):Byt w (some ⟨b,0,none⟩) l.length l:=by
 refine ⟨rfl,.inr ⟨b,0,rfl,fun i hi => ?_⟩⟩
 rw [cell_of_row w b (0 + i) cs e fr h,Nat.zero_add,hc,at8_get l i hi]
 simp [bv,hi]
theorem grown_below {w w':World} (h:Below w.heap.size w w'):w.grownBy w' none:=⟨h.os,h.tape,h.output,h.size,fun k hk _ => h.block k hk⟩
theorem own_slice {w:World} {base:Nat} {e:TypeId} {v:Value} {n:Nat} {xs:List Value} (h:w.ownsRow base e 1 v n xs) (hn:0 < n) :
  ∃ g cap,v = .slice (some ⟨g,0,none⟩) n cap ∧ base ≤ g ∧ Seg w e (some ⟨g,0,none⟩) n cap xs:=Seg.ofOwn h hn
theorem Byt.below {w w':World} {B:Nat} {b off n:Nat} {l:List UInt8} (h:Byt w (some ⟨b,off,none⟩) n l) (hbB:b < B) (hb:Below B w w'):Byt w' (some ⟨b,off,none⟩) n l:=by
 refine ⟨h.1,?_⟩
 rcases h.2 with h0 | ⟨b',off',e,hc⟩
 ·exact .inl h0
 ·cases e
  refine .inr ⟨b,off,rfl,fun i hi => ?_⟩
  rw [hb.cell (p:=⟨b,off + i,none⟩) hbB]
  exact hc i hi
theorem Byt.lt {w:World} {b off n:Nat} {l:List UInt8} (h:Byt w (some ⟨b,off,none⟩) n l) (hn:0 < n):b < w.heap.size:=by
 rcases h.2 with h0 | ⟨b',off',e,hc⟩
 ·omega
 ·cases e
  exact World.block_lt_of_cell? w _ (hc 0 hn)
theorem append_bytes (w:World) (base:Nat) (v:Value) (n:Nat) (xs:List UInt8) (hown:w.ownsRow base 5 1 v n (xs.map bv)) (x:Addr) (m c:Nat) (ys:List UInt8) (hs:Byt w (some x) m ys) (hb:base ≤ w.heap.size) (hsm:n + m ≤ 1000000) :
  ∃ v' w',(Builtin.append_ #[22,22] 22 #[v,.slice (some x) m c]).run Tryz.prog w = .ok v' w' ∧ w'.ownsRow base 5 1 v' (n + m) ((xs ++ ys).map bv) ∧ w.grownBy w' v.ownBlock:=by
 obtain ⟨i0,hi,hz0,hz1,hz2⟩:=info_parts Tryz.infoU8
 have hl:=hs.1
 obtain ⟨v',w',hr,ho,hg,_⟩:=run_append_own (P:=Tryz.prog) w base 22 22 5 i0 (.int .u8 0) 1 1 Tryz.underlying22 hi hz0 hz1 hz2 rfl (by decide) v n _ hown x m c (ys.map bv) (by rw [List.length_map];omega) (hs.cells x rfl) (bv_oneCell ys) (by unfold maxLen;omega) (by omega) hb
 exact ⟨v',w',hr,by rw [List.map_append];exact ho,hg⟩
theorem Byt.sub {w:World} {b off len n q:Nat} {l:List UInt8} (h:Byt w (some ⟨b,off,none⟩) len l) (h1:n ≤ q) (h2:q ≤ len):Byt w (some ⟨b,off + n,none⟩) (q - n) ((l.drop n).take (q - n)):=by
 have hl:=h.1
 refine ⟨by simp;omega,?_⟩
 rcases h.2 with h0 | ⟨b',off',e,hc⟩
 ·exact .inl (by omega)
 ·cases e
  refine .inr ⟨b,off + n,rfl,fun i hi => ?_⟩
  rw [Nat.add_assoc,hc (n + i) (by omega)]
  simp [at8,hi]
theorem Seg.set {w:World} {e:TypeId} {g off n cap:Nat} {vs:List Value} (h:Seg w e (some ⟨g,off,none⟩) n cap vs) (i:Nat) (hi:i < n) (v:Value) :
  Seg (w.setCell ⟨g,off + i,none⟩ v) e (some ⟨g,off,none⟩) n cap (vs.set i v):=by
 refine ⟨by rw [List.length_set];exact h.1,?_⟩
 have hl:=h.1
 rcases h.2 with ⟨e0,_⟩ | ⟨g',off',cur,e0,hg,h1,h2,h3⟩
 ·cases e0
 ·cases e0
  refine .inr ⟨g,off,cur.setIfInBounds (off + i) v,rfl,heap_setCell_same w g (off + i) cur e v hg,by simpa using h1,h2,fun j hj => ?_⟩
  rw [Array.getElem?_setIfInBounds,List.getElem?_set]
  by_cases hij:i = j
  ·subst hij
   rw [if_pos rfl,if_pos (by omega),if_pos rfl,if_pos (by omega)]
  ·rw [if_neg (by omega),if_neg hij,h3 j hj]
theorem Seg.drew {w:World} {e:TypeId} {a:Option Addr} {n cap:Nat} {vs:List Value} (h:Seg w e a n cap vs):Seg w.drew e a n cap vs:=h.kept fun g _ => rfl
def Stays (w w':World):Prop:=w' = w
theorem Stays.refl (w:World):Stays w w:=rfl
theorem Stays.trans (a b c:World) (h:Stays a b) (k:Stays b c):Stays a c:=by unfold Stays at *;rw [k,h]
def But (g:Nat) (w w':World):Prop:=w.grownBy w' (some g)
theorem grownBy_drew (w:World) (b:Option Nat):w.grownBy w.drew b:=⟨rfl,rfl,rfl,Nat.le_refl _,fun _ _ _ => rfl⟩
theorem grownBy_refl (w:World) (b:Option Nat):w.grownBy w b:=⟨rfl,rfl,rfl,Nat.le_refl _,fun _ _ _ => rfl⟩
theorem But.refl (g:Nat) (w:World):But g w w:=grownBy_refl w _
theorem But.trans (g:Nat) (a b c:World) (h:But g a b) (k:But g b c):But g a c:=World.grownBy.trans h k
theorem Byt.but {w w':World} {b off n g:Nat} {l:List UInt8} (h:Byt w (some ⟨b,off,none⟩) n l) (hg:w.grownBy w' (some g)) (hb:b ≠ g):Byt w' (some ⟨b,off,none⟩) n l:=by
 refine ⟨h.1,?_⟩
 rcases h.2 with h0 | ⟨b',off',e,hc⟩
 ·exact .inl h0
 ·cases e
  exact .inr ⟨b,off,rfl,fun i hi => hg.cell (hc i hi) (fun e => hb (by cases e;rfl))⟩
theorem byt_row {W:World} {b t:Nat} {l:List UInt8} (n:Nat) (hn:l.length = n) (h:W.heap[b]? = some (.cells (l.map bv).toArray t (0,0))):Byt W (some ⟨b,0,none⟩) n l:=by
 refine ⟨hn,.inr ⟨b,0,rfl,fun i hi => ?_⟩⟩
 rw [cell_of_row W b (0 + i) _ t (0,0) h,at8_get l i (by omega)]
 simp [show i < l.length by omega,bv]
theorem store_row (W:World) (g:Nat) (t:TypeId) (old:Array Value) (vs:List Value) (h:W.heap[g]? = some (.cells old t (0,0))) (hl:vs.length = old.size) (h1:∀ v ∈ vs,v.oneCell' = true) :
  (storeCells ⟨g,0,none⟩ vs).run Tryz.prog W = .ok () (W.setRow g vs.toArray):=by
 have:=run_storeCells_from (P:=Tryz.prog) g t vs 0 old W h (by omega) h1
 simpa using this
theorem from_world {P R:World → Prop} (W:World) (h:R W) (H:∀ W0,R W0 → P W0):P W:=H W h
theorem But.below {w w':World} (g:Nat) (hb:Below w.heap.size w w'):But g w w':=⟨hb.os,hb.tape,hb.output,hb.size,fun k hk _ => hb.block k hk⟩
theorem But.setRow (w:World) (g:Nat) (cs:Array Value):But g w (w.setRow g cs):=⟨rfl,rfl,rfl,by simp [World.setRow],fun k hk hne => setRow_other w g k cs (fun e => hne (by rw [e]))⟩
theorem make_room (w:World) (n:Nat) (h:n ≤ 2000000) :
  ∃ Z:List Value,Z.length = n ∧ (Instr.makeSlice 22 (.int .i64 0) (.int .i64 (n:Int))).run Tryz.prog w = .ok (.slice (some ⟨w.heap.size,0,none⟩) 0 n) (w.alloc (.cells Z.toArray 5)):=by
 have:=make_bytes w 0 n (by omega)
 simpa using this
def Rest (v:Value) (w w':World):Prop:=w.grownBy w' v.ownBlock
theorem Rest.refl (v:Value) (w:World):Rest v w w:=grownBy_refl w _
theorem Rest.trans (v:Value) (a b c:World) (h:Rest v a b) (k:Rest v b c):Rest v a c:=World.grownBy.trans h k
theorem Rest.below (v:Value) {w w':World} (hb:Below w.heap.size w w'):Rest v w w':=⟨hb.os,hb.tape,hb.output,hb.size,fun k hk _ => hb.block k hk⟩
theorem own_out {w:World} {base:Nat} {v:Value} {n:Nat} {l:List UInt8} (h:w.ownsRow base 5 1 v n (l.map bv)) :
  ∃ a cap,v = .slice a n cap ∧ Byt w a n l ∧ n ≤ cap ∧ cap ≤ maxLen:=by
 have hl:=h.1
 rw [List.length_map,Nat.mul_one] at hl
 rcases h.2 with ⟨e,h0⟩ | ⟨g,cap,cur,rfl,hb,hg,hnc,hcm,hcs,htake⟩
 ·refine ⟨none,0,?_,⟨hl,.inl h0⟩,by omega,by omega⟩
  rw [e,h0]
 ·exact ⟨_,cap,rfl,Byt.ofOwn h,hnc,hcm⟩
theorem run_store_arr (w:World) (t:TypeId) (B:List UInt8) (n:Nat) (hn:B.length = n) (hi:(Tryz.prog.info? t).map (·.size) = some n) (c:Array Value) (hc:c.size = n) :
  (storeCells ⟨w.heap.size,0,none⟩ (B.map bv)).run Tryz.prog (w.alloc (.cells c t)) = .ok () (w.alloc (.cells (B.map bv).toArray t)):=by
 have:=run_storeCells_new (P:=Tryz.prog) w t c (B.map bv).toArray (by rw [hi];simp [hn]) (by simp [hc,hn]) (by
  rw [Array.all_eq_true_iff_forall_mem]
  intro u hu
  simp only [List.mem_toArray] at hu
  exact bv_oneCell B u hu)
 exact this
theorem exec_load_row {P:Program} {o:Oper} {a:Act} {w:World} (ty:TypeId) (x:Operand) (ho:o.op = .load ty x) (g:Nat) (hx:a.eval x = .pointer (some ⟨g,0,none⟩)) (t:TypeId) (cs:Array Value) (fr:Nat × Nat) (d:TypeDesc) (hg:w.heap[g]? = some (.cells cs t fr))
  (hu:P.underlying ty = some d) (hd:(match d with | .struct _ | .array _ _ => true | _ => false) = true) (hi:(P.info? ty).map (·.size) = some cs.size):(execOp a.eval o).run P w = .ok (.value (.agg cs)) w:=by
 unfold execOp
 simp only [ho,hx,Instr.loadAt,Instr.sureAddr,Sem.run_bind,Sem.run_pure,Result.andThen_ok,run_loadVar_row w g t ty cs fr d hg hu hd hi]
theorem Byt.cut {w:World} {a:Option Addr} {len q:Nat} {l:List UInt8} (h:Byt w a len l) (hq:q ≤ len):Byt w a q (l.take q):=by
 have hl:=h.1
 refine ⟨by simp;omega,?_⟩
 rcases h.2 with h0 | ⟨b,off,e,hc⟩
 ·exact .inl (by omega)
 ·refine .inr ⟨b,off,e,fun i hi => ?_⟩
  rw [hc i (by omega)]
  simp [at8,hi]
theorem Byt.at_ {w:World} {a:Option Addr} {len:Nat} {l:List UInt8} (h:Byt w a len l) (k:Nat) (hk:k < len):∃ b off,a = some ⟨b,off,none⟩ ∧ w.cell? ⟨b,off + k,none⟩ = some (.int .u8 ((at8 l k).toNat:Int)):=by
 rcases h.2 with h0 | ⟨b,off,e,hc⟩
 ·omega
 ·exact ⟨b,off,e,hc k hk⟩
theorem and16 (x:Int):bits .and .i64 x 65535 = x % 65536:=by
 have e:(BitVec.ofInt 64 x &&& BitVec.ofInt 64 65535).toNat = (x % 65536).toNat:=by
  rw [BitVec.toNat_and,BitVec.toNat_ofInt]
  have h7:(BitVec.ofInt 64 65535).toNat = 2 ^ 16 - 1:=by decide
  rw [h7,Nat.and_two_pow_sub_one_eq_mod]
  omega
 show IntKind.i64.wrap ((BitVec.ofInt 64 x &&& BitVec.ofInt 64 65535).toNat:Int) = _
 rw [e,IntKind.wrap_i64]
 omega
theorem cut16 (x:Int) (n:Nat):∃ q:Nat,(bits .and .i64 x 65535).tmod ((n:Int) + 1) = (q:Int) ∧ q ≤ n:=by
 refine ⟨((x % 65536).toNat % (n + 1)),?_,by have:=Nat.mod_lt (x % 65536).toNat (show 0 < n + 1 by omega);omega⟩
 have h0:(((x % 65536).toNat:Nat):Int) = x % 65536:=by omega
 rw [and16,Int.tmod_eq_emod_of_nonneg (by omega),← h0]
 simp
theorem own_lower {w:World} {base base':Nat} {e:TypeId} {v:Value} {n:Nat} {xs:List Value} (h:w.ownsRow base e 1 v n xs) (hb:base' ≤ base):w.ownsRow base' e 1 v n xs:=by
 refine ⟨h.1,?_⟩
 rcases h.2 with h0 | ⟨g,cap,cur,e1,hbg,h2⟩
 ·exact .inl h0
 ·exact .inr ⟨g,cap,cur,e1,Nat.le_trans hb hbg,h2⟩
theorem own_parts {w:World} {base:Nat} {v:Value} {n:Nat} {l:List UInt8} (h:w.ownsRow base 5 1 v n (l.map bv)) :
  ∃ a cap,v = .slice a n cap ∧ Byt w a n l ∧ n ≤ cap ∧ cap ≤ maxLen ∧ (a = none → cap = 0):=by
 have hl:=h.1
 rw [List.length_map,Nat.mul_one] at hl
 rcases h.2 with ⟨e,h0⟩ | ⟨g,cap,cur,rfl,hb,hg,hnc,hcm,hcs,htake⟩
 ·refine ⟨none,0,?_,⟨hl,.inl h0⟩,by omega,by omega,fun _ => rfl⟩
  rw [e,h0]
 ·exact ⟨_,cap,rfl,Byt.ofOwn h,hnc,hcm,fun e => by cases e⟩
theorem append_own_any (w:World) (base:Nat) (v:Value) (n:Nat) (xs:List UInt8) (hown:w.ownsRow base 5 1 v n (xs.map bv)) (a:Option Addr) (len cap:Nat) (l:List UInt8) (hB:Byt w a len l) (hnil:a = none → cap = 0) (hb:base ≤ w.heap.size) (hsm:n + len ≤ 1000000) :
  ∃ v' w',(Builtin.append_ #[22,22] 22 #[v,.slice a len cap]).run Tryz.prog w = .ok v' w' ∧ w'.ownsRow base 5 1 v' (n + len) ((xs ++ l).map bv) ∧ w.grownBy w' v.ownBlock:=by
 cases a with
 | some x => exact append_bytes w base v n xs hown x len cap l hB hb hsm
 | none =>
  have h0:len = 0:=by
   rcases hB.2 with h0 | ⟨b',off',e,_⟩
   ·exact h0
   ·cases e
  subst h0
  have hl:l = []:=List.eq_nil_of_length_eq_zero hB.1
  subst hl
  rw [hnil rfl]
  obtain ⟨i0,hi,hz0,hz1,hz2⟩:=info_parts Tryz.infoU8
  refine ⟨v,w,run_append_owned_none (P:=Tryz.prog) w base 22 22 5 i0 1 Tryz.underlying22 hi v n _ hown,by rw [List.append_nil];exact hown,grownBy_refl w _⟩
def Arr (w:World) (g:Nat) (t:TypeId) (l:List UInt8):Prop:=w.heap[g]? = some (.cells (l.map bv).toArray t (0,0))
theorem Arr.lt {w:World} {g:Nat} {t:TypeId} {l:List UInt8} (h:Arr w g t l):g < w.heap.size:=(Array.getElem?_eq_some_iff.1 h).1
theorem Arr.later {w w':World} {g:Nat} {t:TypeId} {l:List UInt8} (h:Arr w g t l) (hb:Below w.heap.size w w'):Arr w' g t l:=by
 unfold Arr
 rw [hb.block g h.lt]
 exact h
theorem Arr.below {B:Nat} {w w':World} {g:Nat} {t:TypeId} {l:List UInt8} (h:Arr w g t l) (hb:Below B w w') (hg:g < B):Arr w' g t l:=by
 unfold Arr
 rw [hb.block g hg]
 exact h
theorem Arr.set {w:World} {g:Nat} {t:TypeId} {l:List UInt8} (h:Arr w g t l) (i:Nat) (x:UInt8):Arr (w.setCell ⟨g,i,none⟩ (.int .u8 (x.toNat:Int))) g t (l.set i x):=by
 have:=heap_setCell_same w g i _ _ (bv x) h
 unfold Arr
 rw [List.map_set]
 simpa [bv] using this
theorem Arr.other {w:World} {g g':Nat} {t:TypeId} {l:List UInt8} (h:Arr w g t l) (hne:g ≠ g') (i:Nat) (v:Value):Arr (w.setCell ⟨g',i,none⟩ v) g t l:=by
 unfold Arr
 rw [heap_setCell_other w ⟨g',i,none⟩ g v hne]
 exact h
theorem Arr.at_ {w:World} {g:Nat} {t:TypeId} {l:List UInt8} (h:Arr w g t l) (i:Nat) (hi:i < l.length):w.cell? ⟨g,i,none⟩ = some (.int .u8 ((at8 l i).toNat:Int)) ∧ w.frozen? ⟨g,i,none⟩ = false:=by
 refine ⟨?_,frozen_of_row w g i _ _ h⟩
 rw [cell_of_row w g i _ _ (0,0) h,at8_get l i hi]
 simp [hi,bv]
theorem Arr.byt {w:World} {g:Nat} {t:TypeId} {l:List UInt8} (h:Arr w g t l) (n:Nat) (hn:l.length = n):Byt w (some ⟨g,0,none⟩) n l:=byt_row n hn h
theorem Arr.new (w:World) (t:TypeId) (l:List UInt8):Arr (w.alloc (.cells (l.map bv).toArray t)) w.heap.size t l:=heap_alloc_new w _
theorem info_size {t:TypeId} {n:Nat} (h:(Tryz.prog.info? t).map (·.size) = some n) (l:List UInt8) (hl:l.length = n):(Tryz.prog.info? t).map (·.size) = some (l.map bv).toArray.size:=by
 rw [h];simp [hl]
theorem arr_items (w:World) (A B:List UInt8) (n:Nat) (hA:A.length = n) (hB:B.length = n):∀ is:List Nat,(∀ i ∈ is,i < n) →
  (Op.eqItems 9999 5 1 (A.map bv).toArray (B.map bv).toArray is).run Tryz.prog w = .ok (decide (∀ i ∈ is,at8 A i = at8 B i)) w
 | [],_ => by simp [Op.eqItems]
 | i :: is,h => by
  have hi:i < n:=h i (by simp)
  have he:Tryz.prog.plainKey 5 = true:=by kernel_rfl
  have p1:=run_part_plain (P:=Tryz.prog) w he (xs:=(A.map bv).toArray) (off:=i * 1) (v:=bv (at8 A i)) (by simp [at8_get A i (by omega),show i < A.length by omega])
  have p2:=run_part_plain (P:=Tryz.prog) w he (xs:=(B.map bv).toArray) (off:=i * 1) (v:=bv (at8 B i)) (by simp [at8_get B i (by omega),show i < B.length by omega])
  have p3:=run_equalIn_int (P:=Tryz.prog) w 9998 5 .u8 .u8 ((at8 A i).toNat:Int) ((at8 B i).toNat:Int) Tryz.underlying5
  have ih:=arr_items w A B n hA hB is (fun j hj => h j (by simp [hj]))
  simp only [Op.eqItems,Sem.run_bind,p1,p2,bv,p3,Result.andThen_ok]
  by_cases e:at8 A i = at8 B i
  ·simp [e,ih]
  ·have e':¬ ((at8 A i).toNat:Int) = ((at8 B i).toNat:Int):=fun h => e (UInt8.toNat_inj.1 (by omega))
   simp [e,e']
theorem arr_eq (w:World) (t:TypeId) (n:Nat) (A B:List UInt8) (hA:A.length = n) (hB:B.length = n) (hu:Tryz.prog.underlying t = some (.array n 5)) :
  (Op.equalIn 10000 t (.agg (A.map bv).toArray) (.agg (B.map bv).toArray)).run Tryz.prog w = .ok (decide (A = B)) w:=by
 obtain ⟨i0,hi,_,_,_⟩:=info_parts Tryz.infoU8
 have hc:Tryz.prog.cellsOf 5 = 1:=by kernel_rfl
 rw [run_equalIn_array (P:=Tryz.prog) w 9999 _ _ hu hi,hc,arr_items w A B n hA hB (List.range n) (by simp)]
 congr 1
 rw [decide_eq_decide]
 constructor
 ·intro h
  apply List.ext_getElem
  ·omega
  ·intro i h1 h2
   rw [← at8_get A i h1,← at8_get B i h2]
   exact h i (by simp;omega)
 ·intro h;rw [h];simp
theorem own_but {w w':World} {base:Nat} {e:TypeId} {v:Value} {n:Nat} {xs:List Value} {row:Option Nat} (h:w.ownsRow base e 1 v n xs) (hg:w.grownBy w' row) (hne:∀ b,v.ownBlock = some b → row ≠ some b):w'.ownsRow base e 1 v n xs:=by
 refine ⟨h.1,?_⟩
 rcases h.2 with h0 | ⟨g,cap,cur,rfl,hb,hgr,h1⟩
 ·exact .inl h0
 ·refine .inr ⟨g,cap,cur,rfl,hb,?_,h1⟩
  rw [hg.block g (Array.getElem?_eq_some_iff.1 hgr).1 (fun e => hne g rfl e.symm)]
  exact hgr
theorem own_base {w:World} {base:Nat} {e:TypeId} {v:Value} {n:Nat} {xs:List Value} (h:w.ownsRow base e 1 v n xs):∀ b,v.ownBlock = some b → base ≤ b ∧ b < w.heap.size:=by
 intro b hb
 rcases h.2 with ⟨rfl,_⟩ | ⟨g,cap,cur,rfl,h1,hgr,_⟩
 ·cases hb
 ·cases hb
  exact ⟨h1,(Array.getElem?_eq_some_iff.1 hgr).1⟩
theorem setRow_same (w:World) (g:Nat) (cur:Array Value) (t:TypeId) (fr:Nat × Nat) (hg:w.heap[g]? = some (.cells cur t fr)):w.setRow g cur = w:=by
 have hlt:g < w.heap.size:=(Array.getElem?_eq_some_iff.1 hg).1
 have hv:w.heap[g] = .cells cur t fr:=(Array.getElem?_eq_some_iff.1 hg).2
 unfold World.setRow
 cases w with
 | mk heap tape drawn os output =>
  congr 1
  apply Array.ext
  ·simp
  ·intro k h1 h2
   simp only [Array.getElem_modify]
   split
   ·rename_i hk;subst hk;simp at hv;simp [hv]
   ·rfl
theorem run_storeCells_part {P:Program} (g off:Nat) (t:TypeId):∀ (vs:List Value) (i:Nat) (cur:Array Value) (w:World),w.heap[g]? = some (.cells cur t (0,0)) → off + i + vs.length ≤ cur.size → (∀ v ∈ vs,v.oneCell' = true) →
  (storeCells ⟨g,off,none⟩ vs i).run P w = .ok () (w.setRow g (cur.toList.take (off + i) ++ vs ++ cur.toList.drop (off + i + vs.length)).toArray)
 | [],i,cur,w,hg,hl,_ => by
  simp only [storeCells,List.append_nil,List.length_nil,Nat.add_zero,List.take_append_drop,Array.toArray_toList]
  show Result.ok () w = _
  rw [setRow_same w g cur t _ hg]
 | v :: rest,i,cur,w,hg,hl,h1 => by
  have hi:off + i < cur.size:=by simp at hl;omega
  have hadd:(⟨g,off,none⟩:Addr).add i = ⟨g,off + i,none⟩:=by unfold Addr.add;split <;> simp_all
  have hcell:w.cell? ⟨g,off + i,none⟩ = some cur[off + i]:=by simp [World.cell?,hg,hi]
  have hfro:w.frozen? ⟨g,off + i,none⟩ = false:=by simp [World.frozen?,hg]
  have hst:(store ((⟨g,off,none⟩:Addr).add i) v).run P w = .ok () (w.setRow g (cur.setIfInBounds (off + i) v)):=by
   rw [hadd,run_store P w _ v _ (h1 v (by simp)),hcell]
   simp [hfro,setCell_eq_setRow w g (off + i) cur t (0,0) v hg]
  have ih:=run_storeCells_part (P:=P) g off t rest (i + 1) (cur.setIfInBounds (off + i) v) (w.setRow g (cur.setIfInBounds (off + i) v)) (setRow_heap w g cur _ t _ hg) (by simp at hl ⊢;omega) (fun x hx => h1 x (by simp [hx]))
  simp only [storeCells,Sem.run_bind,hst,Result.andThen_ok,ih,setRow_setRow]
  congr 3
  have hlt:off + i < cur.toList.length:=by simp at hi ⊢;omega
  rw [Array.toList_setIfInBounds,show off + (i + 1) = off + i + 1 by omega,List.take_set,List.drop_set,if_pos (by omega)]
  have e2:(cur.toList.take (off + i + 1)).set (off + i) v = cur.toList.take (off + i) ++ [v]:=by
   have hm:min (off + i) cur.size = off + i:=by omega
   rw [List.take_succ_eq_append_getElem hlt,List.set_append_right _ _ (by simp;omega)]
   simp [hm]
  rw [e2,List.length_cons,show off + i + 1 + rest.length = off + i + (rest.length + 1) by omega]
  simp
theorem run_loadVar_part {P:Program} (W:World) (ty:TypeId) (b off:Nat) (vs:List Value) (d:TypeDesc) (hc:∀ j v,vs[j]? = some v → W.cell? ⟨b,off + j,none⟩ = some v) (hu:P.underlying ty = some d)
  (hd:(match d with | .struct _ | .array _ _ => true | _ => false) = true) (hi:(P.info? ty).map (·.size) = some vs.length) :
  (loadVar ty ⟨b,off,none⟩).run P W = .ok (.agg vs.toArray) W:=by
 have hld:(loadCells ⟨b,off,none⟩ vs.length).run P W = .ok vs.toArray W:=
  run_loadCells_list (P:=P) W ⟨b,off,none⟩ vs (fun j v hv => by
   have hadd:(⟨b,off,none⟩:Addr).add j = ⟨b,off + j,none⟩:=by unfold Addr.add;split <;> simp_all
   rw [hadd];exact hc j v hv)
 cases hq:P.info? ty with
 | none => simp [hq] at hi
 | some i =>
  have hs:i.size = vs.length:=by simpa [hq] using hi
  have hagg:(isAgg ty).run P W = .ok true W:=by
   unfold isAgg
   rw [Sem.run_bind,run_underlying hu W]
   cases d <;> simp_all
  simp [loadVar,Sem.run_bind,hagg,sizeOf,typeInfo,hq,hs,hld]
theorem exec_load_part {P:Program} {o:Oper} {a:Act} {w:World} (ty:TypeId) (x:Operand) (ho:o.op = .load ty x) (b off:Nat) (hx:a.eval x = .pointer (some ⟨b,off,none⟩)) (vs:List Value) (d:TypeDesc)
  (hc:∀ j v,vs[j]? = some v → w.cell? ⟨b,off + j,none⟩ = some v) (hu:P.underlying ty = some d) (hd:(match d with | .struct _ | .array _ _ => true | _ => false) = true) (hi:(P.info? ty).map (·.size) = some vs.length) :
  (execOp a.eval o).run P w = .ok (.value (.agg vs.toArray)) w:=by
 unfold execOp
 simp only [ho,hx,Instr.loadAt,Instr.sureAddr,Sem.run_bind,Sem.run_pure,Result.andThen_ok,run_loadVar_part w ty b off vs d hc hu hd hi]
theorem wpList_load_part {P:Program} {ops:Array Oper} {rest:List Oper} {o:Oper} {a:Act} {w:World} {Q:Exit → Act → World → Prop} (hgd:o.guard = none) (ty:TypeId) (x:Operand) (ho:o.op = .load ty x) (b off:Nat) (hx:a.eval x = .pointer (some ⟨b,off,none⟩)) (vs:List Value) (d:TypeDesc)
  (hc:∀ j v,vs[j]? = some v → w.cell? ⟨b,off + j,none⟩ = some v) (hu:P.underlying ty = some d) (hd:(match d with | .struct _ | .array _ _ => true | _ => false) = true) (hi:(P.info? ty).map (·.size) = some vs.length)
  (h:wpList P ops Q rest (a.put o.dst (.agg vs.toArray)) w):wpList P ops Q (o :: rest) a w:=by
 refine wpList_plain hgd fun K hK => ?_
 unfold Oper.wp
 rw [exec_load_part ty x ho b off hx vs d hc hu hd hi]
 exact hK _ _ h
theorem sched_put {P:Program} {ops:Array Oper} {Q:Exit → Act → World → Prop} {G:World → World → Prop} {K:Act → World → Prop} {r:List (Nat × Bool)} {i:Nat} {o:Oper} {a:Act} {w w':World} (ho:ops[i]? = some o)
  (hw:Region.wanted o (yielded ops a.tmps) = true) (hrun:(execOp a.eval o).run P w = .ok .skip w') (hG:G w w') (h:wpSched P ops Q G K r (a.put o.dst undef) w') :
  wpSched P ops Q G K ((i,false) :: r) a w:=by
 refine ⟨o,ho,.inr ⟨hw,.inr ⟨rfl,?_⟩⟩⟩
 unfold Oper.wp
 rw [hrun]
 exact ⟨.inl hG,h⟩
theorem But.setCell (w:World) (g i:Nat) (v:Value):But g w (w.setCell ⟨g,i,none⟩ v):=
 ⟨rfl,rfl,rfl,by simp,fun k hk hne => heap_setCell_other w ⟨g,i,none⟩ k v (fun e => hne (by rw [e]))⟩
theorem part_cells {w:World} {b:Nat} {t:TypeId} {fr:Nat × Nat} (A vs B:List Value) (h:w.heap[b]? = some (.cells (A ++ vs ++ B).toArray t fr)) (off:Nat) (hoff:A.length = off) :
  ∀ j v,vs[j]? = some v → w.cell? ⟨b,off + j,none⟩ = some v:=by
 intro j v hv
 have hj:j < vs.length:=(List.getElem?_eq_some_iff.1 hv).1
 rw [cell_of_row w b (off + j) _ t fr h,← hoff]
 simp only [List.getElem?_toArray]
 rw [List.append_assoc,List.getElem?_append_right (by omega),List.getElem?_append_left (by omega)]
 simpa using hv
theorem fold_put (off:Nat):∀ (vs:List Value) (k:Nat) (cells:Array Value),off + k + vs.length ≤ cells.size →
  (vs.zipIdx k).foldl (fun cs (x:Value × Nat) => cs.setIfInBounds (off + x.2) x.1) cells = (cells.toList.take (off + k) ++ vs ++ cells.toList.drop (off + k + vs.length)).toArray
 | [],k,cells,h => by simp
 | v :: vs,k,cells,h => by
  rw [List.zipIdx_cons,List.foldl_cons,fold_put off vs (k + 1) _ (by simp at h ⊢;omega)]
  have hlt:off + k < cells.toList.length:=by simp at h ⊢;omega
  have e1:(cells.setIfInBounds (off + k) v).toList = cells.toList.set (off + k) v:=by simp
  rw [e1,show off + (k + 1) = off + k + 1 by omega,List.take_set,List.drop_set,if_pos (by omega)]
  have e2:(cells.toList.take (off + k + 1)).set (off + k) v = cells.toList.take (off + k) ++ [v]:=by
   have hm:min (off + k) cells.size = off + k:=by simp at h;omega
   rw [List.take_succ_eq_append_getElem hlt,List.set_append_right _ _ (by simp;omega)]
   simp [hm]
  rw [e2,List.length_cons,show off + k + 1 + vs.length = off + k + (vs.length + 1) by omega]
  simp
theorem fill_part (place:Nat → Option (Nat × Nat)) (cells:Array Value) (i off:Nat) (vs:List Value) (rest:List (Nat × Value)) (hp:place i = some (off,vs.length)) (h:off + vs.length ≤ cells.size) :
  Instr.fill place cells ((i,.agg vs.toArray) :: rest) = Instr.fill place (cells.toList.take off ++ vs ++ cells.toList.drop (off + vs.length)).toArray rest:=by
 have f:=fold_put off vs 0 cells (by omega)
 rw [Nat.add_zero] at f
 rw [← f]
 have hc:(Value.agg vs.toArray).cells = vs.toArray:=rfl
 rw [Instr.fill,hp]
 simp only [hc]
 simp
 intro h'
 omega
theorem run_store_new (w:World) (t:TypeId) (vs:List Value) (n:Nat) (hn:vs.length = n) (hi:(Tryz.prog.info? t).map (·.size) = some n) (h1:∀ v ∈ vs,v.oneCell' = true) (c:Array Value) (hc:c.size = n) :
  (storeCells ⟨w.heap.size,0,none⟩ vs).run Tryz.prog (w.alloc (.cells c t)) = .ok () (w.alloc (.cells vs.toArray t)):=by
 have:=run_storeCells_new (P:=Tryz.prog) w t c vs.toArray (by rw [hi];simp [hn]) (by simp [hc,hn]) (by
  rw [Array.all_eq_true_iff_forall_mem]
  intro u hu
  simp only [List.mem_toArray] at hu
  exact h1 u hu)
 exact this
theorem byt_but {w w':World} {a:Option Addr} {len g:Nat} {l:List UInt8} (h:Byt w a len l) (hG:w.grownBy w' (some g)) (hne:∀ b o f,a = some ⟨b,o,f⟩ → b ≠ g):Byt w' a len l:=by
 refine ⟨h.1,?_⟩
 rcases h.2 with h0 | ⟨b,off,rfl,hc⟩
 ·exact .inl h0
 ·exact .inr ⟨b,off,rfl,fun i hi => hG.cell (hc i hi) (fun e => hne b off none rfl (by cases e;rfl))⟩
theorem below_but {w W W':World} {g:Nat} (h:Below w.heap.size w W) (hG:W.grownBy W' (some g)) (hg:w.heap.size ≤ g):Below w.heap.size w W':=
 h.trans ⟨hG.os,hG.tape,hG.output,hG.size,fun k hk => hG.block k (by have:=h.size;omega) (fun e => by cases e;omega)⟩
def CiV (key:List UInt8) (has:Bool) (n:Nat):List Value:=key.map bv ++ [.bool has,.int .u64 (n:Int)]
theorem CiV_length (key:List UInt8) (has:Bool) (n:Nat):(CiV key has n).length = key.length + 2:=by simp [CiV]
theorem CiV_one (key:List UInt8) (has:Bool) (n:Nat):∀ v ∈ CiV key has n,v.oneCell' = true:=by
 intro v hv
 unfold CiV at hv
 rcases List.mem_append.1 hv with h | h
 ·exact bv_oneCell key v h
 ·simp only [List.mem_cons,List.not_mem_nil,or_false] at h
  rcases h with rfl | rfl <;> rfl
theorem ci_info (key:List UInt8) (has:Bool) (n:Nat) (hk:key.length = 32):(Tryz.prog.info? 42).map (·.size) = some (CiV key has n).toArray.size:=by
 have e1:(Tryz.prog.info? 42).map (·.size) = some 34:=by kernel_rfl
 rw [e1];simp [CiV,hk]
structure CiIs (W:World) (g:Nat) (key:List UInt8) (has:Bool) (n:Nat):Prop where
 row:W.heap[g]? = some (.cells (CiV key has n).toArray 42 (0,0))
 k:key.length = 32
section
variable {W W':World} {g:Nat} {key:List UInt8} {has:Bool} {n:Nat}
theorem CiIs.lt (h:CiIs W g key has n):g < W.heap.size:=(Array.getElem?_eq_some_iff.1 h.row).1
theorem CiIs.later (h:CiIs W g key has n) (hb:Below W.heap.size W W'):CiIs W' g key has n:=⟨by rw [hb.block g h.lt];exact h.row,h.k⟩
theorem CiIs.but {g':Nat} (h:CiIs W g key has n) (hG:W.grownBy W' (some g')) (hne:g ≠ g'):CiIs W' g key has n:=⟨by rw [hG.block g h.lt (fun e => hne (by cases e;rfl))];exact h.row,h.k⟩
theorem CiIs.num (h:CiIs W g key has n):W.cell? ⟨g,33,none⟩ = some (.int .u64 (n:Int)) ∧ W.frozen? ⟨g,33,none⟩ = false:=by
 refine ⟨?_,frozen_of_row W g 33 _ _ h.row⟩
 rw [cell_of_row W g 33 _ _ (0,0) h.row]
 simp [CiV,h.k]
theorem CiIs.had (h:CiIs W g key has n):W.cell? ⟨g,32,none⟩ = some (.bool has) ∧ W.frozen? ⟨g,32,none⟩ = false:=by
 refine ⟨?_,frozen_of_row W g 32 _ _ h.row⟩
 rw [cell_of_row W g 32 _ _ (0,0) h.row]
 simp [CiV,h.k]
theorem CiIs.setN (h:CiIs W g key has n) (m:Nat):CiIs (W.setCell ⟨g,33,none⟩ (.int .u64 (m:Int))) g key has m:=by
 refine ⟨?_,h.k⟩
 rw [heap_setCell_same W g 33 _ _ _ h.row]
 congr 2
 simp [CiV,h.k]
theorem CiIs.new (w:World) (key:List UInt8) (has:Bool) (n:Nat) (hk:key.length = 32):CiIs (w.alloc (.cells (CiV key has n).toArray 42)) w.heap.size key has n:=⟨heap_alloc_new w _,hk⟩
theorem CiIs.keyB (h:CiIs W g key has n):Byt W (some ⟨g,0,none⟩) 32 key:=by
 refine ⟨h.k,.inr ⟨g,0,rfl,fun i hi => ?_⟩⟩
 have hk:=h.k
 rw [cell_of_row W g (0 + i) _ _ (0,0) h.row,Nat.zero_add]
 have e:at8 key i = key[i]'(by omega):=at8_get key i (by omega)
 rw [e]
 simp [CiV,List.getElem?_append_left,hk,hi,bv]
theorem ci_store (w:World) (key:List UInt8) (has:Bool) (n:Nat) (hk:key.length = 32) (c:Array Value) (hc:c.size = 34):(storeCells ⟨w.heap.size,0,none⟩ (CiV key has n)).run Tryz.prog (w.alloc (.cells c 42)) = .ok () (w.alloc (.cells (CiV key has n).toArray 42)):=
 run_store_new w _ _ 34 (by simp [CiV,hk]) (by kernel_rfl) (CiV_one key has n) c hc
end
def zeroCi:List Value:=CiV (List.replicate 32 0) false 0
theorem ci_fill:∀ parts,Tryz.prog.built 42 parts = Instr.fill (#[(0,32),(32,1),(33,1)][·]?) zeroCi.toArray parts:=fun parts => by kernel_rfl
theorem ci_built2 (key:List UInt8) (has:Bool) (hk:key.length = 32):Tryz.prog.built 42 [(0,.agg (key.map bv).toArray),(1,.bool has)] = some (CiV key has 0).toArray:=by
 obtain ⟨Z,hZ⟩:∃ Z,(List.replicate 32 (0:UInt8)).map bv = Z:=⟨_,rfl⟩
 have hZl:Z.length = 32:=by rw [← hZ];rfl
 rw [ci_fill,zeroCi,CiV,hZ,fill_part _ _ 0 0 (key.map bv) _ (by simp [hk]) (by simp;omega)]
 simp only [List.take_zero,List.nil_append,List.length_map,hk,Nat.zero_add]
 rw [List.drop_left' hZl]
 simp [Instr.fill,Value.cells,CiV,hk,List.set_append_right]
theorem arr_items9 (w:World) (A B:List UInt8) (n:Nat) (hA:A.length = n) (hB:B.length = n):∀ is:List Nat,(∀ i ∈ is,i < n) →
  (Op.eqItems 9998 5 1 (A.map bv).toArray (B.map bv).toArray is).run Tryz.prog w = .ok (decide (∀ i ∈ is,at8 A i = at8 B i)) w
 | [],_ => by simp [Op.eqItems]
 | i :: is,h => by
  have hi:i < n:=h i (by simp)
  have he:Tryz.prog.plainKey 5 = true:=by kernel_rfl
  have p1:=run_part_plain (P:=Tryz.prog) w he (xs:=(A.map bv).toArray) (off:=i * 1) (v:=bv (at8 A i)) (by simp [at8_get A i (by omega),show i < A.length by omega])
  have p2:=run_part_plain (P:=Tryz.prog) w he (xs:=(B.map bv).toArray) (off:=i * 1) (v:=bv (at8 B i)) (by simp [at8_get B i (by omega),show i < B.length by omega])
  have p3:=run_equalIn_int (P:=Tryz.prog) w 9997 5 .u8 .u8 ((at8 A i).toNat:Int) ((at8 B i).toNat:Int) Tryz.underlying5
  have ih:=arr_items9 w A B n hA hB is (fun j hj => h j (by simp [hj]))
  simp only [Op.eqItems,Sem.run_bind,p1,p2,bv,p3,Result.andThen_ok]
  by_cases e:at8 A i = at8 B i
  ·simp [e,ih]
  ·have e':¬ ((at8 A i).toNat:Int) = ((at8 B i).toNat:Int):=fun h => e (UInt8.toNat_inj.1 (by omega))
   simp [e,e']
theorem arr_eq9 (w:World) (t:TypeId) (n:Nat) (A B:List UInt8) (hA:A.length = n) (hB:B.length = n) (hu:Tryz.prog.underlying t = some (.array n 5)) :
  (Op.equalIn 9999 t (.agg (A.map bv).toArray) (.agg (B.map bv).toArray)).run Tryz.prog w = .ok (decide (A = B)) w:=by
 obtain ⟨i0,hi,_,_,_⟩:=info_parts Tryz.infoU8
 have hc:Tryz.prog.cellsOf 5 = 1:=by kernel_rfl
 rw [run_equalIn_array (P:=Tryz.prog) w 9998 _ _ hu hi,hc,arr_items9 w A B n hA hB (List.range n) (by simp)]
 congr 1
 rw [decide_eq_decide]
 constructor
 ·intro h
  apply List.ext_getElem
  ·omega
  ·intro i h1 h2
   rw [← at8_get A i h1,← at8_get B i h2]
   exact h i (by simp;omega)
 ·intro h;rw [h];simp
theorem ci_part (w:World) (key:List UInt8) (has:Bool) (n:Nat) (hk:key.length = 32):(part 24 (CiV key has n).toArray 0).run Tryz.prog w = .ok (.agg (key.map bv).toArray) w:=by
 obtain ⟨i,hi⟩:=info_of_underlying Tryz.underlying24
 have hc:Tryz.prog.cellsOf 24 = 32:=by kernel_rfl
 have he:(CiV key has n).toArray.extract 0 (0 + 32) = (key.map bv).toArray:=by
  rw [← Array.toList_inj,Array.toList_extract]
  simp [CiV,List.extract,hk]
 simp only [part,isAgg,Sem.run_bind,run_underlying Tryz.underlying24,Result.andThen_ok,Sem.run_pure,if_true,run_sizeOf w hi,hc,he]
theorem ci_eqF (w:World) (A B:List UInt8) (ha hb:Bool) (n m:Nat) (xs ys:Array Value) (ka kb:Value)
 (pa:(part 24 xs 0).run Tryz.prog w = .ok ka w) (pb:(part 24 ys 0).run Tryz.prog w = .ok kb w)
 (q0:(Op.equalIn 9999 24 ka kb).run Tryz.prog w = .ok (decide (A = B)) w)
 (a1:(part 4 xs 32).run Tryz.prog w = .ok (.bool ha) w) (b1:(part 4 ys 32).run Tryz.prog w = .ok (.bool hb) w)
 (a2:(part 40 xs 33).run Tryz.prog w = .ok (.int .u64 n) w) (b2:(part 40 ys 33).run Tryz.prog w = .ok (.int .u64 m) w)
 (q1:(Op.equalIn 9999 4 (.bool ha) (.bool hb)).run Tryz.prog w = .ok (ha == hb) w)
 (q2:(Op.equalIn 9999 40 (.int .u64 n) (.int .u64 m)).run Tryz.prog w = .ok ((n:Int) == (m:Int)) w) :
 (Op.equalIn 10000 42 (.agg xs) (.agg ys)).run Tryz.prog w = .ok (decide (A = B ∧ ha = hb ∧ n = m)) w:=by
 have h:=run_equalIn_struct (P:=Tryz.prog) w 9999 42 xs ys (by simp only [Program.fieldsOf,Tryz.underlying42]) Tryz.stoodInHeld42
 refine h.trans ?_
 clear h
 have n1:¬ "Key" = "_":=by decide
 have n2:¬ "Has" = "_":=by decide
 have n3:¬ "N" = "_":=by decide
 simp only [Program.fieldsOf,Tryz.underlying42,Op.eqFields,ne_eq,n1,n2,n3,not_false_eq_true,if_true,Sem.run_bind,pa,pb,Result.andThen_ok,q0]
 by_cases h1:A = B
 ·simp only [h1,decide_true,Bool.not_true,Bool.false_eq_true,if_false,Sem.run_bind,a1,b1,Result.andThen_ok,q1,true_and]
  by_cases h2:ha = hb
  ·subst h2
   simp only [beq_self_eq_true,Bool.not_true,Bool.false_eq_true,if_false,Sem.run_bind,a2,b2,Result.andThen_ok,q2,true_and]
   by_cases h3:n = m
   ·subst h3
    simp
   ·have h4:((n:Int) == (m:Int)) = false:=by simp;omega
    simp [h3,h4]
  ·simp [h2]
 ·simp [h1]
theorem ci_eq (w:World) (A B:List UInt8) (ha hb:Bool) (n m:Nat) (hA:A.length = 32) (hB:B.length = 32) :
  (Op.equalIn 10000 42 (.agg (CiV A ha n).toArray) (.agg (CiV B hb m).toArray)).run Tryz.prog w = .ok (decide (A = B ∧ ha = hb ∧ n = m)) w:=
 ci_eqF w A B ha hb n m _ _ _ _ (ci_part w A ha n hA) (ci_part w B hb m hB) (arr_eq9 w 24 32 A B hA hB Tryz.underlying24)
  (run_part_plain w (by kernel_rfl) (by simp [CiV,hA])) (run_part_plain w (by kernel_rfl) (by simp [CiV,hB])) (run_part_plain w (by kernel_rfl) (by simp [CiV,hA])) (run_part_plain w (by kernel_rfl) (by simp [CiV,hB]))
  (run_equalIn_bool' w 9998 _ ha hb Tryz.underlying4) (run_equalIn_int w 9998 _ .u64 .u64 _ _ Tryz.underlying40)
section
variable {ops:Array Oper} {rest:List Oper} {o:Oper} {a:Act} {w:World} {Q:Exit → Act → World → Prop}
theorem wpList_ci2 (key:List UInt8) (has:Bool) (hk:key.length = 32) (hg:o.guard = none) (x y:Operand) (ho:o.op = .build 42 #[(0,x),(1,y)])
  (hx:a.eval x = .agg (key.map bv).toArray) (hy:a.eval y = .bool has) (h:wpList Tryz.prog ops Q rest (a.put o.dst (.agg (CiV key has 0).toArray)) w):wpList Tryz.prog ops Q (o :: rest) a w:=
 wpList_buildTo hg _ _ ho _ rfl _ (by simp [hx,hy,ci_built2 key has hk]) h
end
theorem wpList_load_metC {P:Program} {ops:Array Oper} {rest:List Oper} {o:Oper} {a:Act} {w:World} {Q:Exit → Act → World → Prop} (hw:Region.wanted o (yielded ops a.tmps) = true) (ty:TypeId) (x:Operand) (ho:o.op = .load ty x)
  (g:Nat) (hx:a.eval x = .pointer (some ⟨g,0,none⟩)) (t:TypeId) (cs:Array Value) (fr:Nat × Nat) (d:TypeDesc) (hg:w.heap[g]? = some (.cells cs t fr))
  (hu:P.underlying ty = some d) (hd:(match d with | .struct _ | .array _ _ => true | _ => false) = true) (hi:(P.info? ty).map (·.size) = some cs.size)
  (h:wpList P ops Q rest (a.put o.dst (.agg cs)) w):wpList P ops Q (o :: rest) a w:=by
 unfold wpList
 rw [if_pos hw]
 exact .inl (wp_load_row ty x ho g hx t cs fr d hg hu hd hi h)
theorem exec_cmp {ev:Operand → Value} {o:Oper} {w:World} {x y:Operand} {ty ty':TypeId} {X Y:Array Value} {b:Bool} (neq:Bool) (ho:o.op = .binOp (if neq = true then .neq else .eql) ty x y ty') (hx:ev x = .agg X) (hy:ev y = .agg Y) (hm:Tryz.prog.eqGuardType Tryz.prog.depth ty = false)
  (hq:(Op.equalIn 10000 ty (.agg X) (.agg Y)).run Tryz.prog w = .ok b w):(execOp ev o).run Tryz.prog w = .ok (.value (.bool (if neq = true then !b else b))) w:=by
 unfold execOp
 cases neq
 ·simp only [Bool.false_eq_true,if_false] at ho ⊢
  simp only [ho,hx,hy,Sem.run_bind,run_eqGuard_agg w _ _ _ _ _ _ hm,Result.andThen_ok,run_eql_struct,hq,Sem.run_pure]
 ·simp only [if_true] at ho ⊢
  simp only [ho,hx,hy,Sem.run_bind,run_eqGuard_agg w _ _ _ _ _ _ hm,Result.andThen_ok,run_neq_struct,hq,Sem.run_pure]
theorem wpList_cmp {ops:Array Oper} {rest:List Oper} {o:Oper} {a:Act} {w:World} {Q:Exit → Act → World → Prop} (neq:Bool) (hg:Region.wanted o (yielded ops a.tmps) = true) (x y:Operand) (ty ty':TypeId) (ho:o.op = .binOp (if neq = true then .neq else .eql) ty x y ty') (X Y:Array Value) (hx:a.eval x = .agg X) (hy:a.eval y = .agg Y) (hm:Tryz.prog.eqGuardType Tryz.prog.depth ty = false) (b:Bool)
  (hq:(Op.equalIn 10000 ty (.agg X) (.agg Y)).run Tryz.prog w = .ok b w) (h:wpList Tryz.prog ops Q rest (a.put o.dst (.bool (if neq = true then !b else b))) w):wpList Tryz.prog ops Q (o :: rest) a w:=by
 unfold wpList
 rw [if_pos hg]
 refine .inl ?_
 unfold Oper.wp
 rw [exec_cmp neq ho hx hy hm hq]
 exact h
def ciZ:Array Value:=#[.int .u8 0,.int .u8 0,.int .u8 0,.int .u8 0,.int .u8 0,.int .u8 0,.int .u8 0,.int .u8 0,.int .u8 0,.int .u8 0,.int .u8 0,.int .u8 0,.int .u8 0,.int .u8 0,.int .u8 0,.int .u8 0,.int .u8 0,.int .u8 0,.int .u8 0,.int .u8 0,.int .u8 0,.int .u8 0,.int .u8 0,.int .u8 0,.int .u8 0,.int .u8 0,.int .u8 0,.int .u8 0,.int .u8 0,.int .u8 0,.int .u8 0,.int .u8 0,.bool false,.int .u64 0]
end Go.Proofs.YthmkhdnnljdglaaGreatDoor
namespace Go.Proofs.YthmkhdnnljdglaaGreatDoor
set_option linter.unusedVariables false
set_option maxRecDepth 100000
open Go.RowKit
def uv (x:BitVec 32):Value:=.int .u32 (x.toNat:Int)
def Wd (w:World) (g:Nat) (t:TypeId) (l:List (BitVec 32)):Prop:=w.heap[g]? = some (.cells (l.map uv).toArray t (0,0))
theorem Wd.set {w:World} {g:Nat} {t:TypeId} {l:List (BitVec 32)} (h:Wd w g t l) (i:Nat) (x:BitVec 32):Wd (w.setCell ⟨g,i,none⟩ (uv x)) g t (l.set i x):=by
 have:=heap_setCell_same w g i _ _ (uv x) h
 unfold Wd
 rw [this,List.map_set]
 simp
theorem Wd.drew {w:World} {g:Nat} {t:TypeId} {l:List (BitVec 32)} (h:Wd w g t l):Wd w.drew g t l:=h
theorem Wd.word {w:World} {g:Nat} {t:TypeId} {l:List (BitVec 32)} (h:Wd w g t l) (i:Nat) (hi:i < l.length) :
  w.cell? ⟨g,i,none⟩ = some (.int .u32 ((at32 l i).toNat:Int)) ∧ w.frozen? ⟨g,i,none⟩ = false:=by
 refine ⟨?_,frozen_of_row w g i _ _ h⟩
 rw [cell_of_row w g i _ _ (0,0) h,at32_get l i hi]
 simp [hi,uv]
theorem Wd.lt {w:World} {g:Nat} {t:TypeId} {l:List (BitVec 32)} (h:Wd w g t l):g < w.heap.size:=(Array.getElem?_eq_some_iff.1 h).1
theorem Wd.later {w w':World} {g:Nat} {t:TypeId} {l:List (BitVec 32)} (h:Wd w g t l) (hb:Below w.heap.size w w'):Wd w' g t l:=by
 unfold Wd
 rw [hb.block g h.lt]
 exact h
theorem Wd.below {B:Nat} {w w':World} {g:Nat} {t:TypeId} {l:List (BitVec 32)} (h:Wd w g t l) (hb:Below B w w') (hg:g < B):Wd w' g t l:=by
 unfold Wd
 rw [hb.block g hg]
 exact h
theorem Wd.but {w w':World} {g g':Nat} {t:TypeId} {l:List (BitVec 32)} (h:Wd w g t l) (hne:g ≠ g') (hb:w.grownBy w' (some g')):Wd w' g t l:=by
 unfold Wd
 rw [hb.block g h.lt (fun e => hne (by cases e;rfl))]
 exact h
theorem Wd.other {w:World} {g g':Nat} {t:TypeId} {l:List (BitVec 32)} (h:Wd w g t l) (hne:g ≠ g') (i:Nat) (v:Value):Wd (w.setCell ⟨g',i,none⟩ v) g t l:=by
 unfold Wd
 rw [heap_setCell_other w ⟨g',i,none⟩ g v hne]
 exact h
theorem Wd.new (w:World) (t:TypeId) (l:List (BitVec 32)):Wd (w.alloc (.cells (l.map uv).toArray t)) w.heap.size t l:=heap_alloc_new w _
theorem xor_uv (y z:BitVec 32):bits .xor .u32 (y.toNat:Int) (z.toNat:Int) = ((y ^^^ z).toNat:Int):=xor_val y z
theorem wd_step {w:World} {g:Nat} {t:TypeId} {l:List (BitVec 32)} (h:Wd w g t l) (p:Nat) (s:BitVec 32) :
  Wd (w.drew.setCell ⟨g,p,none⟩ (uv s)) g t (l.set p s) ∧ w.grownBy (w.drew.setCell ⟨g,p,none⟩ (uv s)) (some g):=by
 refine ⟨h.drew.set p s,rfl,rfl,rfl,by simp,fun j hj hne => ?_⟩
 rw [heap_setCell_other w.drew ⟨g,p,none⟩ j _ (fun e => hne (by rw [e]))]
 rfl
theorem uv_oneCell (l:List (BitVec 32)):∀ v ∈ l.map uv,v.oneCell' = true:=by
 intro v hv
 obtain ⟨x,_,rfl⟩:=List.mem_map.1 hv
 rfl
theorem info_words {t:TypeId} {n:Nat} (h:(Tryz.prog.info? t).map (·.size) = some n) (l:List (BitVec 32)) (hl:l.length = n):(Tryz.prog.info? t).map (·.size) = some (l.map uv).toArray.size:=by
 rw [h];simp [hl]
end Go.Proofs.YthmkhdnnljdglaaGreatDoor
