import Derived.Test.YthmkhdnnljdglaaGreatDoorQah
import Derived.Test.YthmkhdnnljdglaaGreatDoorQar
namespace Go.Proofs.YthmkhdnnljdglaaGreatDoor
set_option maxRecDepth 100000
open Go.RowKit
section
variable {P:Program} {ops:Array Oper} {Q:Exit → Act → World → Prop} {md:Region.Mode} {G:World → World → Prop}
def Closed (md:Region.Mode) (ops:Array Oper) (listed:Array Bool):Prop:=∀ k o,ops[k]? = some o → listed.getD k false = true → ∀ e ∈ o.after,Region.binds md e = true → listed.getD e.on false = true
theorem set_keeps {listed:Array Bool} {i x:Nat} (h:listed.getD x false = true):(listed.setIfInBounds i true).getD x false = true:=by
 by_cases hx:i = x
 ·subst hx
  rcases Nat.lt_or_ge i listed.size with h' | h'
  ·simp [h']
  ·simp [h'] at h
 ·rw [getD_set_ne false hx];exact h
theorem Closed.set {listed:Array Bool} {i:Nat} (h:Closed md ops listed) (hi:i ∈ Region.ready md ops listed):Closed md ops (listed.setIfInBounds i true):=by
 intro k o ho hk e he hb
 obtain ⟨_,oi,hoi,hall⟩:=mem_ready.1 hi
 by_cases hik:i = k
 ·subst hik
  rw [hoi] at ho
  cases ho
  exact set_keeps (hall e he hb)
 ·rw [getD_set_ne false hik] at hk
  exact set_keeps (h k o ho hk e he hb)
theorem Closed.none (n:Nat):Closed md ops (Array.replicate n false):=by
 intro k o _ hk
 rcases Nat.lt_or_ge k n with h' | h'
 ·simp [h'] at hk
 ·simp [h'] at hk
def endsT (md:Region.Mode) (ops:Array Oper) (j:Nat):Bool:=
 match ops[j]? with
 | none => false
 | some o => (List.range ops.size).all fun k => k == j || o.after.any fun e => Region.binds md e && (e.on == k || match ops[e.on]? with | some o2 => o2.after.any fun e2 => Region.binds md e2 && e2.on == k | none => false)
theorem endsT_spec {listed:Array Bool} {i j:Nat} (hc:Closed md ops listed) (h:endsT md ops j = true) (hj:j ∈ Region.ready md ops listed) (hi:i ∈ Region.ready md ops listed) (hij:j ≠ i):False:=by
 obtain ⟨_,oj,hoj,hall⟩:=mem_ready.1 hj
 obtain ⟨hiun,oi,hoi,_⟩:=mem_ready.1 hi
 simp only [endsT,hoj,List.all_eq_true,List.mem_range] at h
 have hlt:i < ops.size:=(Array.getElem?_eq_some_iff.1 hoi).1
 have h1:=h i hlt
 have hun:listed.getD i false = true → False:=fun h2 => by
  rcases Nat.lt_or_ge i listed.size with h' | h'
  ·simp [h'] at hiun h2;rw [hiun] at h2;cases h2
  ·simp [h'] at h2
 simp only [Bool.or_eq_true,beq_iff_eq] at h1
 rcases h1 with h1 | h1
 ·exact hij h1.symm
 ·obtain ⟨q,hq,hqq⟩:=Array.any_eq_true.1 h1
  obtain ⟨hb,hon⟩:=Bool.and_eq_true_iff.1 hqq
  have h2:=hall _ (Array.getElem_mem hq) hb
  simp only [Bool.or_eq_true,beq_iff_eq] at hon
  rcases hon with hon | hon
  ·rw [hon] at h2
   exact hun h2
  ·cases ho2:ops[oj.after[q].on]? with
   | none => rw [ho2] at hon;cases hon
   | some o2 =>
    rw [ho2] at hon
    obtain ⟨r,hr,hb2,hon2⟩:∃ (r:Nat) (hr:r < o2.after.size),Region.binds md o2.after[r] = true ∧ o2.after[r].on = i:=by simpa using hon
    have h3:=hc _ o2 ho2 h2 _ (Array.getElem_mem hr) hb2
    rw [hon2] at h3
    exact hun h3
theorem endsT_of_ends {j:Nat} (h:endsB md ops j = true):endsT md ops j = true:=by
 unfold endsB at h
 unfold endsT
 cases ho:ops[j]? with
 | none => rw [ho] at h;cases h
 | some o =>
  rw [ho] at h
  simp only [List.all_eq_true,List.mem_range,Bool.or_eq_true,beq_iff_eq] at h ⊢
  intro k hk
  rcases h k hk with h1 | h1
  ·exact .inl h1
  ·right
   obtain ⟨q,hq,hb,hon⟩:∃ (q:Nat) (hq:q < o.after.size),Region.binds md o.after[q] = true ∧ o.after[q].on = k:=by simpa using h1
   rw [Array.any_eq_true]
   exact ⟨q,hq,by simp [hb,hon]⟩
def wpAnyE (P:Program) (md:Region.Mode) (ops:Array Oper) (Q:Exit → Act → World → Prop) (G:World → World → Prop):Nat → Array Bool → Act → World → Prop
 | 0,listed,a,w => Region.ready md ops listed = [] ∧ Q .normal a w
 | fuel + 1,listed,a,w =>
  (Region.ready md ops listed = [] → Q .normal a w) ∧
  ∀ i ∈ Region.ready md ops listed,wpOp P ops Q i (fun a' w' => (G w w' ∨ endsT md ops i = true) ∧ wpAnyE P md ops Q G fuel (listed.setIfInBounds i true) a' w') a w
theorem wpAny_of_E:∀ (fuel:Nat) (listed:Array Bool) (a:Act) (w:World),wpAnyE P md ops Q G fuel listed a w → wpAny P md ops Q fuel listed a w
 | 0,_,_,_,h => h
 | fuel + 1,_,_,_,h => ⟨h.1,fun i hi => wpOp_mono (fun a' w' h' => wpAny_of_E fuel _ a' w' h'.2) (h.2 i hi)⟩
theorem wpAnyE_first (hrefl:∀ w,G w w) (htrans:∀ a b c,G a b → G b c → G a c) {i:Nat} {oi:Oper} {v:Value} (hi:ops[i]? = some oi) (hsel:∀ (j:Nat) (o:Oper) cs b,ops[j]? = some o → o.op ≠ .select cs b)
  (hQ:∀ c a w,Q (.panic c) (a.put oi.dst v) w → Q (.panic c) a w) :
  ∀ (fuel:Nat) (listed:Array Bool) (a:Act) (w:World),Closed md ops listed →
   (∀ j oj,ops[j]? = some oj → j ≠ i → listed.getD j true = false → (∀ e ∈ oj.after,Region.binds md e = true → e.on ≠ i) → oi.apart ops oj = true) →
   i ∈ Region.ready md ops listed → YieldsIf P ops (G w) oi v a →
   wpAnyE P md ops Q G fuel (listed.setIfInBounds i true) (a.put oi.dst v) w → wpAnyE P md ops Q G (fuel + 1) listed a w:=by
 intro fuel
 induction fuel with
 | zero =>
  intro listed a w _ _ hr hy H
  refine ⟨fun h => (by rw [h] at hr;cases hr),fun j hj => ?_⟩
  by_cases hji:j = i
  ·subst hji;exact hy.wpOp hi (hrefl w) ⟨.inl (hrefl w),H⟩
  ·have:=ready_mono hj hji
   rw [H.1] at this
   cases this
 | succ fuel ih =>
  intro listed a w hcl hfree hr hy H
  refine ⟨fun h => (by rw [h] at hr;cases hr),fun j hj => ?_⟩
  by_cases hji:j = i
  ·subst hji;exact hy.wpOp hi (hrefl w) ⟨.inl (hrefl w),H⟩
  ·have h1:=H.2 j (ready_mono hj hji)
   obtain ⟨hjun,oj,hoj,hall⟩:=mem_ready.1 hj
   have hnot:∀ e ∈ oj.after,Region.binds md e = true → e.on ≠ i:=fun e he hb heq => by
    have h1:=hall e he hb
    have h0:=(mem_ready.1 hr).1
    rw [heq] at h1
    rcases Nat.lt_or_ge i listed.size with h' | h'
    ·simp [h'] at h0 h1;rw [h0] at h1;cases h1
    ·simp [Array.getElem?_eq_none h'] at h1
   have h2:=wpOp_putIf hoj (hfree j oj hoj hji hjun hnot) (fun cs b => hsel i oi cs b hi) (fun cs b => hsel j oj cs b hoj) hQ hy h1
   have hfree':∀ k ok,ops[k]? = some ok → k ≠ i → (listed.setIfInBounds j true).getD k true = false →
     (∀ e ∈ ok.after,Region.binds md e = true → e.on ≠ i) → oi.apart ops ok = true:=fun k ok hk hki hun hno => by
    refine hfree k ok hk hki ?_ hno
    by_cases hjk:j = k
    ·subst hjk;exact hjun
    ·rw [getD_set_ne true hjk] at hun;exact hun
   refine wpOp_mono (fun a' w' h3 => ?_) h2
   have hG:G w w':=h3.2.1.resolve_right (fun he => endsT_spec hcl he hj hr hji)
   refine ⟨.inl hG,ih (listed.setIfInBounds j true) a' w' (hcl.set hj) hfree' (ready_mono hr (Ne.symm hji)) (yieldsIf_weaken h3.1 (fun w2 hw2 => htrans _ _ _ hG hw2)) ?_⟩
   rw [Array.setIfInBounds_comm _ _ hji]
   exact h3.2.2
theorem sched_soundE {md:Region.Mode} (hmd:md = .any) (hrefl:∀ w,G w w) (htrans:∀ a b c,G a b → G b c → G a c) (hs:Region.noSelect ops = true) (hQ:∀ c a w d v,Q (.panic c) (a.put d v) w → Q (.panic c) a w) (fuel:Nat) (listed':Array Bool) :
  ∀ (s:List (Nat × Bool)) (listed:Array Bool) (a:Act) (w:World),Closed md ops listed → schedTo md ops s listed = some listed' →
   wpSched P ops Q G (fun a w => wpAnyE P md ops Q G fuel listed' a w) s a w → wpAnyE P md ops Q G (fuel + s.length) listed a w
 | [],listed,a,w,_,h,H => by
  simp only [schedTo,Option.some.injEq] at h
  subst h
  exact H
 |(i,b) :: r,listed,a,w,hcl,h,H => by
  obtain ⟨o,ho,H⟩:=H
  unfold schedTo at h
  split at h
  case isFalse => cases h
  rename_i hc
  have hfr:i ∈ Region.ready md ops listed ∧ Region.free md ops listed i = true ∧ (b = false → Region.ready md ops listed = [i]):=by
   cases b
   ·simp only [cond_false,Bool.and_eq_true,beq_iff_eq] at hc
    exact ⟨by rw [hc.1];simp,hc.2,fun _ => hc.1⟩
   ·simp only [cond_true,Bool.and_eq_true] at hc
    exact ⟨by simpa using hc.1,hc.2,fun e => by cases e⟩
  obtain ⟨hr,hf,honly⟩:=hfr
  have ih:=fun a w H => sched_soundE hmd hrefl htrans hs hQ fuel listed' r (listed.setIfInBounds i true) a w (hcl.set hr) h H
  show wpAnyE P md ops Q G ((fuel + r.length) + 1) listed a w
  rcases H with ⟨hw,H⟩ | ⟨hw,⟨v,hv,H⟩ | ⟨hb,H⟩⟩
  ·exact wpAnyE_first hrefl htrans ho (Region.noSelect_spec hs) (fun c a w => hQ c a w _ _) _ listed a w hcl (Region.free_spec ho hf) hr (.inr ⟨hw,rfl⟩) (ih _ _ H)
  ·exact wpAnyE_first hrefl htrans ho (Region.noSelect_spec hs) (fun c a w => hQ c a w _ _) _ listed a w hcl (Region.free_spec ho hf) hr (.inl ⟨hw,hv⟩) (ih _ _ H)
  ·refine ⟨fun h0 => absurd h0 (by rw [honly hb];simp),fun j hj => ?_⟩
   rw [honly hb] at hj
   simp only [List.mem_singleton] at hj
   subst hj
   unfold wpOp
   simp only [ho,hw,if_true]
   exact .inl (Oper.wp_mono (fun a' w' h' => ⟨h'.1.imp id (fun he => by rw [hmd];exact endsT_of_ends he),ih a' w' h'.2⟩) H)
theorem wp_region_last {id:Nat} {a:Act} {w:World} (hm:P.follows .mixedOrders = true) (hrefl:∀ w,G w w) (htrans:∀ a b c,G a b → G b c → G a c) (hs:Region.noSelect ops = true)
  (s:List (Nat × Bool)) (j:Nat) (oj:Oper) (hj:ops[j]? = some oj) (l:Array Bool) (hsz:1 + s.length = ops.size) (hto:schedTo .any ops s (Array.replicate ops.size false) = some l)
  (hr:Region.ready .any ops l = [j]) (hr2:Region.ready .any ops (l.setIfInBounds j true) = []) (he:endsT .any ops j = true)
  (h:∀ K:Act → World → Prop,Hid (∀ a w w',Region.wanted oj (yielded ops a.tmps) = true → (execOp a.eval oj).run P w = .ok .skip w' → Q .normal (a.put oj.dst undef) w' → K a w) → wpSched P ops (NoPanic Q) G K s a w.drew):(Code.region id ops true).wp P Q a w:=by
 refine wp_region_noPanic (wp_region_any hm (wpAny_of_E (G:=G) _ _ _ _ ?_))
 have:=sched_soundE (Q:=NoPanic Q) rfl hrefl htrans hs (fun _ _ _ _ _ h => h) 1 l s (Array.replicate ops.size false) a w.drew (Closed.none _) hto (h _ ?_)
 ·rw [hsz] at this
  exact this
 ·intro a w w' hw hrun hq
  refine ⟨fun h0 => absurd h0 (by rw [hr];simp),fun i hi => ?_⟩
  rw [hr] at hi
  simp only [List.mem_singleton] at hi
  subst hi
  unfold wpOp
  simp only [hj,hw,if_true]
  left
  unfold Oper.wp
  rw [hrun]
  exact ⟨.inr he,hr2,hq⟩
end
theorem hid_up {p:Prop} (h:p):Hid p:=h
theorem sched_fork {P:Program} {ops:Array Oper} {Q:Exit → Act → World → Prop} {md:Region.Mode} {G:World → World → Prop} {fuel:Nat} {listed:Array Bool} {a:Act} {w:World} (L:List Nat) (hr:Region.ready md ops listed = L) (hne:L.isEmpty = false)
  (h:∀ i ∈ L,∃ o,ops[i]? = some o ∧ Region.wanted o (yielded ops a.tmps) = true ∧ o.wp P a w (fun a' w' => G w w' ∧ wpAnyG P md ops Q G fuel (listed.setIfInBounds i true) a' w') Q):wpAnyG P md ops Q G (fuel + 1) listed a w:=by
 refine ⟨fun h0 => ?_,fun k hk => ?_⟩
 ·rw [hr] at h0
  rw [h0] at hne
  cases hne
 ·rw [hr] at hk
  obtain ⟨o,ho,hw,hwp⟩:=h k hk
  unfold wpOp
  simp only [ho,hw,if_true]
  exact .inl (Oper.wp_mono (fun a' w' h => ⟨.inl h.1,h.2⟩) hwp)
theorem wp_cut {P:Program} {c:Code} {Q:Exit → Act → World → Prop} {a:Act} {w:World} (K:Act → World → Prop) (h:c.wp P (fun e a w => e = .normal ∧ K a w) a w) (hk:∀ a w,K a w → Q .normal a w):c.wp P Q a w:=
 Code.wp_mono (fun e a w h => by obtain ⟨he,hK⟩:=h;subst he;exact hk a w hK) h
end Go.Proofs.YthmkhdnnljdglaaGreatDoor
namespace Go.Proofs.YthmkhdnnljdglaaGreatDoor
set_option linter.unusedVariables false
set_option maxRecDepth 100000
open Go.RowKit
structure Mid (W0:World) (o9 o10:Option Nat) (W:World):Prop where
 bel:Below W0.heap.size W0 W
 a9:∀ g,o9 = some g → W0.heap.size ≤ g ∧ W.heap[g]? = some (.cells zero16B 189 (0,0))
 a10:∀ g,o10 = some g → W0.heap.size ≤ g ∧ W.heap[g]? = some (.cells zero16B 189 (0,0))
 ne:∀ g g',o9 = some g → o10 = some g' → g ≠ g'
theorem Mid.new (W:World):Mid W none none W:=⟨Below.refl _ _,(fun _ e => by cases e),(fun _ e => by cases e),(fun _ _ e => by cases e)⟩
theorem Mid.call {W0 W W':World} {o9 o10:Option Nat} (h:Mid W0 o9 o10 W) (hb:Below W.heap.size W W'):Mid W0 o9 o10 W':=by
 refine ⟨h.bel.trans (hb.mono h.bel.size),fun g e => ?_,fun g e => ?_,h.ne⟩
 ·obtain ⟨h1,h2⟩:=h.a9 g e
  exact ⟨h1,by rw [hb.block g (Array.getElem?_eq_some_iff.1 h2).1];exact h2⟩
 ·obtain ⟨h1,h2⟩:=h.a10 g e
  exact ⟨h1,by rw [hb.block g (Array.getElem?_eq_some_iff.1 h2).1];exact h2⟩
theorem Mid.six {W0 W:World} {o10:Option Nat} (h:Mid W0 none o10 W):Mid W0 (some W.heap.size) o10 (W.alloc (.cells zero16B 189)):=by
 have hs:=h.bel.size
 refine ⟨h.bel.alloc h.bel.size _,fun g e => ?_,fun g e => ?_,fun g g' e e' => ?_⟩
 ·cases e
  exact ⟨hs,heap_alloc_new W _⟩
 ·obtain ⟨h1,h2⟩:=h.a10 g e
  exact ⟨h1,by rw [Below.heap_alloc _ _ _ (Array.getElem?_eq_some_iff.1 h2).1];exact h2⟩
 ·cases e
  have:=(Array.getElem?_eq_some_iff.1 (h.a10 g' e').2).1
  omega
theorem Mid.seven {W0 W:World} {o9:Option Nat} (h:Mid W0 o9 none W):Mid W0 o9 (some W.heap.size) (W.alloc (.cells zero16B 189)):=by
 have hs:=h.bel.size
 refine ⟨h.bel.alloc h.bel.size _,fun g e => ?_,fun g e => ?_,fun g g' e e' => ?_⟩
 ·obtain ⟨h1,h2⟩:=h.a9 g e
  exact ⟨h1,by rw [Below.heap_alloc _ _ _ (Array.getElem?_eq_some_iff.1 h2).1];exact h2⟩
 ·cases e
  exact ⟨hs,heap_alloc_new W _⟩
 ·cases e'
  have:=(Array.getElem?_eq_some_iff.1 (h.a9 g e).2).1
  omega
def zero8B:Array Value:=((List.replicate 8 0#32).map uv).toArray
structure Wb (w:World) (gs gp gr:Nat) (s:List (BitVec 32)) (p:List UInt8) (W:World):Prop where
 s:Wd W gs 161 s
 p:Arr W gp 163 p
 res:W.heap[gr]? = some (.cells zero8B 161 (0,0))
 nsr:gs ≠ gr
 bs:w.heap.size ≤ gs
 br:w.heap.size ≤ gr
 bel:Below w.heap.size w W
theorem Wb.new (w:World) (s:List (BitVec 32)) (p:List UInt8):Wb w w.heap.size (w.heap.size + 1) (w.heap.size + 1 + 1) s p (((w.alloc (.cells (s.map uv).toArray 161)).alloc (.cells (p.map bv).toArray 163)).alloc (.cells zero8B 161)):=by
 have h0:=Wd.new w 161 s
 have h1:=heap_alloc_new (w.alloc (.cells (s.map uv).toArray 161)) (.cells (p.map bv).toArray 163)
 have h2:=heap_alloc_new ((w.alloc (.cells (s.map uv).toArray 161)).alloc (.cells (p.map bv).toArray 163)) (.cells zero8B 161)
 rw [World.size_alloc] at h1
 rw [World.size_alloc,World.size_alloc] at h2
 refine ⟨?_,?_,h2,by omega,by omega,by omega,?_⟩
 ·unfold Wd
  rw [Below.heap_alloc _ _ _ (by simp;omega),Below.heap_alloc _ _ _ (by simp)];exact h0
 ·unfold Arr
  rw [Below.heap_alloc _ _ _ (by simp)];exact h1
 ·exact (((Below.refl _ _).alloc (Nat.le_refl _) _).alloc (by simp) _).alloc (by simp;omega) _
theorem Wb.later {w W W':World} {gs gp gr:Nat} {s:List (BitVec 32)} {p:List UInt8} (t:Wb w gs gp gr s p W) (hb:Below W.heap.size W W'):Wb w gs gp gr s p W':=
 ⟨t.s.later hb,t.p.later hb,by rw [hb.block _ (Array.getElem?_eq_some_iff.1 t.res).1];exact t.res,t.nsr,t.bs,t.br,t.bel.trans (hb.mono t.bel.size)⟩
structure Wt (w:World) (gs gr g9 g10:Nat) (s m v:List (BitVec 32)) (W:World):Prop where
 s:Wd W gs 161 s
 res:W.heap[gr]? = some (.cells zero8B 161 (0,0))
 m:Wd W g9 189 m
 v:Wd W g10 189 v
 ns:gs ≠ g10
 nr:gr ≠ g10
 nm:g9 ≠ g10
 nsr:gs ≠ gr
 bs:w.heap.size ≤ gs
 br:w.heap.size ≤ gr
 b9:gs < g9
 bv:w.heap.size ≤ g10
 bel:Below w.heap.size w W
theorem Wt.next {w W W':World} {gs gr g9 g10:Nat} {s m v v':List (BitVec 32)} (t:Wt w gs gr g9 g10 s m v W) (hv:Wd W' g10 189 v') (hg:W.grownBy W' (some g10)):Wt w gs gr g9 g10 s m v' W':=by
 refine ⟨t.s.but t.ns hg,?_,t.m.but t.nm hg,hv,t.ns,t.nr,t.nm,t.nsr,t.bs,t.br,t.b9,t.bv,t.bel.trans ⟨hg.os,hg.tape,hg.output,hg.size,fun k hk => ?_⟩⟩
 ·rw [hg.block _ (Array.getElem?_eq_some_iff.1 t.res).1 (fun e => t.nr (by cases e;rfl))];exact t.res
 ·have h1:=t.bv
  have h2:=t.bel.size
  exact hg.block k (by omega) (fun e => by cases e;omega)
theorem Wt.drew {w W:World} {gs gr g9 g10:Nat} {s m v:List (BitVec 32)} (t:Wt w gs gr g9 g10 s m v W):Wt w gs gr g9 g10 s m v W.drew:=t.next t.v (grownBy_drew W _)
theorem Wt.put {w W:World} {gs gr g9 g10:Nat} {s m v:List (BitVec 32)} (t:Wt w gs gr g9 g10 s m v W) (k:Nat) (x:BitVec 32):Wt w gs gr g9 g10 (s.set k x) m v (W.setCell ⟨gs,k,none⟩ (uv x)):=by
 have h9:=t.b9
 exact ⟨t.s.set k x,by rw [heap_setCell_other _ ⟨gs,k,none⟩ _ _ (Ne.symm t.nsr)];exact t.res,t.m.other (by omega) _ _,t.v.other (Ne.symm t.ns) _ _,t.ns,t.nr,t.nm,t.nsr,t.bs,t.br,t.b9,t.bv,t.bel.setCell t.bs _⟩
theorem Wt.new {w W0 W:World} {gs gp gr g9 g10:Nat} {s m v:List (BitVec 32)} {p:List UInt8} (h:Wb w gs gp gr s p W0) (hm:Mid W0 (some g9) (some g10) W) :
  Wt w gs gr g9 g10 s m v ((W.setRow g9 (m.map uv).toArray).setRow g10 (v.map uv).toArray):=by
 obtain ⟨b9,r9⟩:=hm.a9 g9 rfl
 obtain ⟨b10,r10⟩:=hm.a10 g10 rfl
 have hne:=hm.ne g9 g10 rfl rfl
 have hs:=h.s.lt
 have hr:=(Array.getElem?_eq_some_iff.1 h.res).1
 have hb:=h.bel.size
 have H:=h.later hm.bel
 refine ⟨?_,?_,?_,?_,by omega,by omega,hne,h.nsr,h.bs,h.br,by omega,by omega,?_⟩
 ·unfold Wd
  rw [setRow_other _ _ _ _ (by omega),setRow_other _ _ _ _ (by omega)];exact H.s
 ·rw [setRow_other _ _ _ _ (by omega),setRow_other _ _ _ _ (by omega)];exact H.res
 ·unfold Wd
  rw [setRow_other _ _ _ _ hne];exact setRow_heap W g9 _ _ _ _ r9
 ·exact setRow_heap _ g10 _ _ _ _ (by rw [setRow_other _ _ _ _ (Ne.symm hne)];exact r10)
 ·exact below_setRow (below_setRow H.bel (by omega) _) (by omega) _
def finTo (s v:List (BitVec 32)):Nat → List (BitVec 32)
 | 0 => s
 | k + 1 => (finTo s v k).set k (at32 s k ^^^ at32 v k ^^^ at32 v (8 + k))
theorem finTo_length (s v:List (BitVec 32)):∀ k,(finTo s v k).length = s.length
 | 0 => rfl
 | k + 1 => by rw [finTo,List.length_set,finTo_length s v k]
theorem finTo_at (s v:List (BitVec 32)) (j:Nat):∀ k,k ≤ j → at32 (finTo s v k) j = at32 s j
 | 0,_ => rfl
 | k + 1,h => by rw [finTo,at32_set_other _ _ _ _ (by omega),finTo_at s v j k (by omega)]
theorem finTo_all (s v:List (BitVec 32)) (hs:s.length = 8):finTo s v 8 = (List.range 8).map fun i => at32 s i ^^^ at32 v i ^^^ at32 v (8 + i):=by
 match s,hs with
 | [a,b,c,d,e,f,g,h],_ => rfl
set_option maxHeartbeats 4000000 in
set_option maxRecDepth 100000 in
theorem bwith_any (s:List (BitVec 32)) (p:List UInt8) (told:Nat) (last:Bool) (w:World) (hs:s.length = 8) (hp:p.length = 64) (htab:Tab w) (htl:told < 18446744073709551616) :
  Calls Tryz.prog 121 #[.agg (s.map uv).toArray,.agg (p.map bv).toArray,.int .u64 (told:Int),.bool last] w fun e w' => e = .returned (.agg ((bpart s p told last).map uv).toArray) ∧ Below w.heap.size w w':=by
 have HT0:Hid (Wb w w.heap.size (w.heap.size + 1) (w.heap.size + 1 + 1) s p (((w.alloc (.cells (s.map uv).toArray 161)).alloc (.cells (p.map bv).toArray 163)).alloc (.cells zero8B 161))):=Wb.new w s p
 have HTab:Hid (Tab w):=htab
 have HLt:Hid (1 < w.heap.size ∧ 2 < w.heap.size):=htab.lt
 have IS:Hid ((Tryz.prog.info? 161).map (·.size) = some (s.map uv).toArray.size):=info_words (n:=8) (by kernel_rfl) s hs
 have IP:Hid ((Tryz.prog.info? 163).map (·.size) = some (p.map bv).toArray.size):=info_size (n:=64) (by kernel_rfl) p hp
 obtain ⟨M,hM⟩:∃ M,wordsTo p 16 = M:=⟨_,rfl⟩
 have hMl:M.length = 16:=by rw [← hM,wordsTo_length]
 have HM:Hid (wordsTo p 16 = M):=hM
 obtain ⟨V,hV⟩:∃ V,bfirst s told last = V:=⟨_,rfl⟩
 have hVl:V.length = 16:=by rw [← hV];exact bfirst_length s told last hs
 have HV:Hid (bfirst s told last = V):=hV
 have IM:Hid ((Tryz.prog.info? 189).map (·.size) = some (M.map uv).toArray.size):=info_words (n:=16) (by kernel_rfl) M hMl
 clear htab hM hV
 go_enter Tryz.func121,Tryz.ntmps121
 go_wp2
 refine from_world (P:=Code.wp Tryz.prog _ _ _) (R:=fun W => Hid (Wb w w.heap.size (w.heap.size + 1) (w.heap.size + 1 + 1) s p W)) _ HT0 ?_
 intro W0 HT1
 clear HT0
 generalize w.heap.size + 1 + 1 = gr at HT1 ⊢
 generalize w.heap.size + 1 = gp at HT1 ⊢
 generalize w.heap.size = gs at HT1 ⊢
 refine wp_cut (fun a W => ∃ g9 g10,a = { tmps:=#[.agg (s.map uv).toArray,.agg (p.map bv).toArray,.int .u64 (told:Int),.bool last,.pointer (some ⟨gs,0,none⟩),.pointer (some ⟨gp,0,none⟩),undef,undef,.pointer (some ⟨gr,0,none⟩),.pointer (some ⟨g9,0,none⟩),.pointer (some ⟨g10,0,none⟩),undef,undef,.agg (p.map bv).toArray,.agg (M.map uv).toArray,.agg (s.map uv).toArray,.int .u64 (told:Int),.bool last,.agg (V.map uv).toArray,undef,undef,undef,undef,undef,undef,undef,undef,undef,undef,undef,undef,undef,undef,undef,undef,undef,undef,undef,undef,undef,undef,undef,undef,undef,undef,undef],defers:=[] } ∧ Hid (Wt w gs gr g9 g10 s M V W)) ?_ ?_
 ·obtain ⟨W,hW⟩:∃ W,W0.drew = W:=⟨_,rfl⟩
  have HWd:Hid (W0.drew = W):=hW
  have HBW:Hid (Wb w gs gp gr s p W):=HT1.out.later (by rw [← hW];exact (Below.refl _ _).drew)
  obtain ⟨B,hB⟩:∃ B,B = W.heap.size:=⟨_,rfl⟩
  have HBB:Hid (B = W.heap.size):=hB
  clear HT1 hW hB
  refine sched_begin (G:=Below B) (by kernel_rfl) (fun _ => Below.refl _ _) (fun _ _ _ h k => Below.trans h k) (by kernel_rfl) [(0,true),(2,true),(3,true),(4,true)] 6 #[true,false,true,true,true,false,false,false,false,false] rfl (by kernel_rfl) ?_
  intro KL hKL
  rw [HWd.out]
  refine sched_take rfl (by rfl) (v:=.agg (p.map bv).toArray) (fun w' hw' => exec_load_row 163 _ rfl gp rfl 163 _ (0,0) _ (HBW.out.p.below hw' (by rw [HBB.out];exact HBW.out.p.lt)) Tryz.underlying163 rfl IP.out) ?_
  go_simp
  refine sched_take rfl (by rfl) (v:=.agg (s.map uv).toArray) (fun w' hw' => exec_load_row 161 _ rfl gs rfl 161 _ (0,0) _ (HBW.out.s.below hw' (by rw [HBB.out];exact HBW.out.s.lt)) Tryz.underlying161 rfl IS.out) ?_
  go_simp
  iterate 2 (refine sched_take rfl (by rfl) (v:=?_) ?_ ?_;rotate_left;(intro w' hw';clear hw';go_simp;with_reducible rfl);go_simp)
  refine hKL.out _ _ ?_
  clear hKL
  have hMid:Hid (Mid W none none W):=Mid.new W
  refine sched_fork [1,6,7] (by kernel_rfl) rfl ?_
  intro i hi
  simp only [List.mem_cons,List.not_mem_nil,or_false] at hi
  rcases hi with rfl | rfl | rfl
  ·refine ⟨_,rfl,by rfl,oper_call (f:=149) (args:=#[.agg (p.map bv).toArray]) (by go_simp) ?_⟩
   refine (btell_any p W hp).mono ?_
   rintro e W1 ⟨rfl,hb⟩
   refine ⟨_,rfl,hb.mono (by rw [HBB.out];exact hMid.out.bel.size),?_⟩
   rw [HM.out]
   replace hMid:=hid_up (hMid.out.call hb)
   clear hb
   refine sched_fork [5,6,7] (by kernel_rfl) rfl ?_
   intro i hi
   simp only [List.mem_cons,List.not_mem_nil,or_false] at hi
   rcases hi with rfl | rfl | rfl
   ·refine ⟨_,rfl,by rfl,oper_call (f:=150) (args:=#[.agg (s.map uv).toArray,.int .u64 (told:Int),.bool last]) (by go_simp) ?_⟩
    refine (blay_any s told last W1 hs (HTab.out.below (HBW.out.bel.trans (hMid.out.bel.mono HBW.out.bel.size)) HLt.out) htl).mono ?_
    rintro e W2 ⟨rfl,hb⟩
    refine ⟨_,rfl,hb.mono (by rw [HBB.out];exact hMid.out.bel.size),?_⟩
    rw [HV.out]
    replace hMid:=hid_up (hMid.out.call hb)
    clear hb
    refine sched_fork [6,7] (by kernel_rfl) rfl ?_
    intro i hi
    simp only [List.mem_cons,List.not_mem_nil,or_false] at hi
    rcases hi with rfl | rfl
    ·refine ⟨_,rfl,by rfl,oper_val (v:=.pointer (some ⟨W2.heap.size,0,none⟩)) (w':=W2.alloc (.cells zero16B 189)) (by go_simp;rfl) ⟨(Below.refl _ _).alloc (by rw [HBB.out];exact hMid.out.bel.size) _,?_⟩⟩
     replace hMid:=hid_up hMid.out.six
     generalize W2.alloc (.cells zero16B 189) = W3 at hMid ⊢
     generalize W2.heap.size = g9 at hMid ⊢
     refine sched_fork [7] (by kernel_rfl) rfl ?_
     intro i hi
     simp only [List.mem_cons,List.not_mem_nil,or_false] at hi
     subst hi
     refine ⟨_,rfl,by rfl,oper_val (v:=.pointer (some ⟨W3.heap.size,0,none⟩)) (w':=W3.alloc (.cells zero16B 189)) (by go_simp;rfl) ⟨(Below.refl _ _).alloc (by rw [HBB.out];exact hMid.out.bel.size) _,?_⟩⟩
     replace hMid:=hid_up hMid.out.seven
     generalize W3.alloc (.cells zero16B 189) = W4 at hMid ⊢
     generalize W3.heap.size = g10 at hMid ⊢
     have hst1:=store_row W4 g9 _ _ (M.map uv) (hMid.out.a9 g9 rfl).2 (by simp [hMl,zero16B]) (uv_oneCell M)
     have hst2:=store_row (W4.setRow g9 (M.map uv).toArray) g10 _ _ (V.map uv) (by rw [setRow_other _ _ _ _ (Ne.symm (hMid.out.ne g9 g10 rfl rfl))];exact (hMid.out.a10 g10 rfl).2) (by simp [hVl,zero16B]) (uv_oneCell V)
     have HF:Hid (Wt w gs gr g9 g10 s M V ((W4.setRow g9 (M.map uv).toArray).setRow g10 (V.map uv).toArray)):=Wt.new HBW.out hMid.out
     have hsz:B ≤ g9:=by rw [HBB.out];exact (hMid.out.a9 g9 rfl).1
     clear hMid HBW HTab HLt IS IP IM
     refine sched_end (G:=Below B) (fun _ => Below.refl _ _) (fun _ _ _ h k => Below.trans h k) (by kernel_rfl) [(8,false),(9,false)] rfl (by kernel_rfl) ?_
     intro KM hKM
     go_simp
     refine sched_put rfl (by rfl) (w':=W4.setRow g9 (M.map uv).toArray) (by go_simp) (below_setRow (Below.refl _ _) hsz _) ?_
     go_simp
     refine sched_store rfl (by rfl) (w':=(W4.setRow g9 (M.map uv).toArray).setRow g10 (V.map uv).toArray) (by go_simp) (by kernel_rfl) ?_
     go_simp
     exact hKM.out _ _ ⟨rfl,g9,g10,rfl,HF⟩
    ·refine ⟨_,rfl,by rfl,oper_val (v:=.pointer (some ⟨W2.heap.size,0,none⟩)) (w':=W2.alloc (.cells zero16B 189)) (by go_simp;rfl) ⟨(Below.refl _ _).alloc (by rw [HBB.out];exact hMid.out.bel.size) _,?_⟩⟩
     replace hMid:=hid_up hMid.out.seven
     generalize W2.alloc (.cells zero16B 189) = W5 at hMid ⊢
     generalize W2.heap.size = g10 at hMid ⊢
     refine sched_fork [6] (by kernel_rfl) rfl ?_
     intro i hi
     simp only [List.mem_cons,List.not_mem_nil,or_false] at hi
     subst hi
     refine ⟨_,rfl,by rfl,oper_val (v:=.pointer (some ⟨W5.heap.size,0,none⟩)) (w':=W5.alloc (.cells zero16B 189)) (by go_simp;rfl) ⟨(Below.refl _ _).alloc (by rw [HBB.out];exact hMid.out.bel.size) _,?_⟩⟩
     replace hMid:=hid_up hMid.out.six
     generalize W5.alloc (.cells zero16B 189) = W6 at hMid ⊢
     generalize W5.heap.size = g9 at hMid ⊢
     have hst1:=store_row W6 g9 _ _ (M.map uv) (hMid.out.a9 g9 rfl).2 (by simp [hMl,zero16B]) (uv_oneCell M)
     have hst2:=store_row (W6.setRow g9 (M.map uv).toArray) g10 _ _ (V.map uv) (by rw [setRow_other _ _ _ _ (Ne.symm (hMid.out.ne g9 g10 rfl rfl))];exact (hMid.out.a10 g10 rfl).2) (by simp [hVl,zero16B]) (uv_oneCell V)
     have HF:Hid (Wt w gs gr g9 g10 s M V ((W6.setRow g9 (M.map uv).toArray).setRow g10 (V.map uv).toArray)):=Wt.new HBW.out hMid.out
     have hsz:B ≤ g9:=by rw [HBB.out];exact (hMid.out.a9 g9 rfl).1
     clear hMid HBW HTab HLt IS IP IM
     refine sched_end (G:=Below B) (fun _ => Below.refl _ _) (fun _ _ _ h k => Below.trans h k) (by kernel_rfl) [(8,false),(9,false)] rfl (by kernel_rfl) ?_
     intro KM hKM
     go_simp
     refine sched_put rfl (by rfl) (w':=W6.setRow g9 (M.map uv).toArray) (by go_simp) (below_setRow (Below.refl _ _) hsz _) ?_
     go_simp
     refine sched_store rfl (by rfl) (w':=(W6.setRow g9 (M.map uv).toArray).setRow g10 (V.map uv).toArray) (by go_simp) (by kernel_rfl) ?_
     go_simp
     exact hKM.out _ _ ⟨rfl,g9,g10,rfl,HF⟩
   ·refine ⟨_,rfl,by rfl,oper_val (v:=.pointer (some ⟨W1.heap.size,0,none⟩)) (w':=W1.alloc (.cells zero16B 189)) (by go_simp;rfl) ⟨(Below.refl _ _).alloc (by rw [HBB.out];exact hMid.out.bel.size) _,?_⟩⟩
    replace hMid:=hid_up hMid.out.six
    generalize W1.alloc (.cells zero16B 189) = W7 at hMid ⊢
    generalize W1.heap.size = g9 at hMid ⊢
    refine sched_fork [5,7] (by kernel_rfl) rfl ?_
    intro i hi
    simp only [List.mem_cons,List.not_mem_nil,or_false] at hi
    rcases hi with rfl | rfl
    ·refine ⟨_,rfl,by rfl,oper_call (f:=150) (args:=#[.agg (s.map uv).toArray,.int .u64 (told:Int),.bool last]) (by go_simp) ?_⟩
     refine (blay_any s told last W7 hs (HTab.out.below (HBW.out.bel.trans (hMid.out.bel.mono HBW.out.bel.size)) HLt.out) htl).mono ?_
     rintro e W8 ⟨rfl,hb⟩
     refine ⟨_,rfl,hb.mono (by rw [HBB.out];exact hMid.out.bel.size),?_⟩
     rw [HV.out]
     replace hMid:=hid_up (hMid.out.call hb)
     clear hb
     refine sched_fork [7] (by kernel_rfl) rfl ?_
     intro i hi
     simp only [List.mem_cons,List.not_mem_nil,or_false] at hi
     subst hi
     refine ⟨_,rfl,by rfl,oper_val (v:=.pointer (some ⟨W8.heap.size,0,none⟩)) (w':=W8.alloc (.cells zero16B 189)) (by go_simp;rfl) ⟨(Below.refl _ _).alloc (by rw [HBB.out];exact hMid.out.bel.size) _,?_⟩⟩
     replace hMid:=hid_up hMid.out.seven
     generalize W8.alloc (.cells zero16B 189) = W9 at hMid ⊢
     generalize W8.heap.size = g10 at hMid ⊢
     have hst1:=store_row W9 g9 _ _ (M.map uv) (hMid.out.a9 g9 rfl).2 (by simp [hMl,zero16B]) (uv_oneCell M)
     have hst2:=store_row (W9.setRow g9 (M.map uv).toArray) g10 _ _ (V.map uv) (by rw [setRow_other _ _ _ _ (Ne.symm (hMid.out.ne g9 g10 rfl rfl))];exact (hMid.out.a10 g10 rfl).2) (by simp [hVl,zero16B]) (uv_oneCell V)
     have HF:Hid (Wt w gs gr g9 g10 s M V ((W9.setRow g9 (M.map uv).toArray).setRow g10 (V.map uv).toArray)):=Wt.new HBW.out hMid.out
     have hsz:B ≤ g9:=by rw [HBB.out];exact (hMid.out.a9 g9 rfl).1
     clear hMid HBW HTab HLt IS IP IM
     refine sched_end (G:=Below B) (fun _ => Below.refl _ _) (fun _ _ _ h k => Below.trans h k) (by kernel_rfl) [(8,false),(9,false)] rfl (by kernel_rfl) ?_
     intro KM hKM
     go_simp
     refine sched_put rfl (by rfl) (w':=W9.setRow g9 (M.map uv).toArray) (by go_simp) (below_setRow (Below.refl _ _) hsz _) ?_
     go_simp
     refine sched_store rfl (by rfl) (w':=(W9.setRow g9 (M.map uv).toArray).setRow g10 (V.map uv).toArray) (by go_simp) (by kernel_rfl) ?_
     go_simp
     exact hKM.out _ _ ⟨rfl,g9,g10,rfl,HF⟩
    ·refine ⟨_,rfl,by rfl,oper_val (v:=.pointer (some ⟨W7.heap.size,0,none⟩)) (w':=W7.alloc (.cells zero16B 189)) (by go_simp;rfl) ⟨(Below.refl _ _).alloc (by rw [HBB.out];exact hMid.out.bel.size) _,?_⟩⟩
     replace hMid:=hid_up hMid.out.seven
     generalize W7.alloc (.cells zero16B 189) = W10 at hMid ⊢
     generalize W7.heap.size = g10 at hMid ⊢
     refine sched_fork [5] (by kernel_rfl) rfl ?_
     intro i hi
     simp only [List.mem_cons,List.not_mem_nil,or_false] at hi
     subst hi
     refine ⟨_,rfl,by rfl,oper_call (f:=150) (args:=#[.agg (s.map uv).toArray,.int .u64 (told:Int),.bool last]) (by go_simp) ?_⟩
     refine (blay_any s told last W10 hs (HTab.out.below (HBW.out.bel.trans (hMid.out.bel.mono HBW.out.bel.size)) HLt.out) htl).mono ?_
     rintro e W11 ⟨rfl,hb⟩
     refine ⟨_,rfl,hb.mono (by rw [HBB.out];exact hMid.out.bel.size),?_⟩
     rw [HV.out]
     replace hMid:=hid_up (hMid.out.call hb)
     clear hb
     have hst1:=store_row W11 g9 _ _ (M.map uv) (hMid.out.a9 g9 rfl).2 (by simp [hMl,zero16B]) (uv_oneCell M)
     have hst2:=store_row (W11.setRow g9 (M.map uv).toArray) g10 _ _ (V.map uv) (by rw [setRow_other _ _ _ _ (Ne.symm (hMid.out.ne g9 g10 rfl rfl))];exact (hMid.out.a10 g10 rfl).2) (by simp [hVl,zero16B]) (uv_oneCell V)
     have HF:Hid (Wt w gs gr g9 g10 s M V ((W11.setRow g9 (M.map uv).toArray).setRow g10 (V.map uv).toArray)):=Wt.new HBW.out hMid.out
     have hsz:B ≤ g9:=by rw [HBB.out];exact (hMid.out.a9 g9 rfl).1
     clear hMid HBW HTab HLt IS IP IM
     refine sched_end (G:=Below B) (fun _ => Below.refl _ _) (fun _ _ _ h k => Below.trans h k) (by kernel_rfl) [(8,false),(9,false)] rfl (by kernel_rfl) ?_
     intro KM hKM
     go_simp
     refine sched_put rfl (by rfl) (w':=W11.setRow g9 (M.map uv).toArray) (by go_simp) (below_setRow (Below.refl _ _) hsz _) ?_
     go_simp
     refine sched_store rfl (by rfl) (w':=(W11.setRow g9 (M.map uv).toArray).setRow g10 (V.map uv).toArray) (by go_simp) (by kernel_rfl) ?_
     go_simp
     exact hKM.out _ _ ⟨rfl,g9,g10,rfl,HF⟩
   ·refine ⟨_,rfl,by rfl,oper_val (v:=.pointer (some ⟨W1.heap.size,0,none⟩)) (w':=W1.alloc (.cells zero16B 189)) (by go_simp;rfl) ⟨(Below.refl _ _).alloc (by rw [HBB.out];exact hMid.out.bel.size) _,?_⟩⟩
    replace hMid:=hid_up hMid.out.seven
    generalize W1.alloc (.cells zero16B 189) = W12 at hMid ⊢
    generalize W1.heap.size = g10 at hMid ⊢
    refine sched_fork [5,6] (by kernel_rfl) rfl ?_
    intro i hi
    simp only [List.mem_cons,List.not_mem_nil,or_false] at hi
    rcases hi with rfl | rfl
    ·refine ⟨_,rfl,by rfl,oper_call (f:=150) (args:=#[.agg (s.map uv).toArray,.int .u64 (told:Int),.bool last]) (by go_simp) ?_⟩
     refine (blay_any s told last W12 hs (HTab.out.below (HBW.out.bel.trans (hMid.out.bel.mono HBW.out.bel.size)) HLt.out) htl).mono ?_
     rintro e W13 ⟨rfl,hb⟩
     refine ⟨_,rfl,hb.mono (by rw [HBB.out];exact hMid.out.bel.size),?_⟩
     rw [HV.out]
     replace hMid:=hid_up (hMid.out.call hb)
     clear hb
     refine sched_fork [6] (by kernel_rfl) rfl ?_
     intro i hi
     simp only [List.mem_cons,List.not_mem_nil,or_false] at hi
     subst hi
     refine ⟨_,rfl,by rfl,oper_val (v:=.pointer (some ⟨W13.heap.size,0,none⟩)) (w':=W13.alloc (.cells zero16B 189)) (by go_simp;rfl) ⟨(Below.refl _ _).alloc (by rw [HBB.out];exact hMid.out.bel.size) _,?_⟩⟩
     replace hMid:=hid_up hMid.out.six
     generalize W13.alloc (.cells zero16B 189) = W14 at hMid ⊢
     generalize W13.heap.size = g9 at hMid ⊢
     have hst1:=store_row W14 g9 _ _ (M.map uv) (hMid.out.a9 g9 rfl).2 (by simp [hMl,zero16B]) (uv_oneCell M)
     have hst2:=store_row (W14.setRow g9 (M.map uv).toArray) g10 _ _ (V.map uv) (by rw [setRow_other _ _ _ _ (Ne.symm (hMid.out.ne g9 g10 rfl rfl))];exact (hMid.out.a10 g10 rfl).2) (by simp [hVl,zero16B]) (uv_oneCell V)
     have HF:Hid (Wt w gs gr g9 g10 s M V ((W14.setRow g9 (M.map uv).toArray).setRow g10 (V.map uv).toArray)):=Wt.new HBW.out hMid.out
     have hsz:B ≤ g9:=by rw [HBB.out];exact (hMid.out.a9 g9 rfl).1
     clear hMid HBW HTab HLt IS IP IM
     refine sched_end (G:=Below B) (fun _ => Below.refl _ _) (fun _ _ _ h k => Below.trans h k) (by kernel_rfl) [(8,false),(9,false)] rfl (by kernel_rfl) ?_
     intro KM hKM
     go_simp
     refine sched_put rfl (by rfl) (w':=W14.setRow g9 (M.map uv).toArray) (by go_simp) (below_setRow (Below.refl _ _) hsz _) ?_
     go_simp
     refine sched_store rfl (by rfl) (w':=(W14.setRow g9 (M.map uv).toArray).setRow g10 (V.map uv).toArray) (by go_simp) (by kernel_rfl) ?_
     go_simp
     exact hKM.out _ _ ⟨rfl,g9,g10,rfl,HF⟩
    ·refine ⟨_,rfl,by rfl,oper_val (v:=.pointer (some ⟨W12.heap.size,0,none⟩)) (w':=W12.alloc (.cells zero16B 189)) (by go_simp;rfl) ⟨(Below.refl _ _).alloc (by rw [HBB.out];exact hMid.out.bel.size) _,?_⟩⟩
     replace hMid:=hid_up hMid.out.six
     generalize W12.alloc (.cells zero16B 189) = W15 at hMid ⊢
     generalize W12.heap.size = g9 at hMid ⊢
     refine sched_fork [5] (by kernel_rfl) rfl ?_
     intro i hi
     simp only [List.mem_cons,List.not_mem_nil,or_false] at hi
     subst hi
     refine ⟨_,rfl,by rfl,oper_call (f:=150) (args:=#[.agg (s.map uv).toArray,.int .u64 (told:Int),.bool last]) (by go_simp) ?_⟩
     refine (blay_any s told last W15 hs (HTab.out.below (HBW.out.bel.trans (hMid.out.bel.mono HBW.out.bel.size)) HLt.out) htl).mono ?_
     rintro e W16 ⟨rfl,hb⟩
     refine ⟨_,rfl,hb.mono (by rw [HBB.out];exact hMid.out.bel.size),?_⟩
     rw [HV.out]
     replace hMid:=hid_up (hMid.out.call hb)
     clear hb
     have hst1:=store_row W16 g9 _ _ (M.map uv) (hMid.out.a9 g9 rfl).2 (by simp [hMl,zero16B]) (uv_oneCell M)
     have hst2:=store_row (W16.setRow g9 (M.map uv).toArray) g10 _ _ (V.map uv) (by rw [setRow_other _ _ _ _ (Ne.symm (hMid.out.ne g9 g10 rfl rfl))];exact (hMid.out.a10 g10 rfl).2) (by simp [hVl,zero16B]) (uv_oneCell V)
     have HF:Hid (Wt w gs gr g9 g10 s M V ((W16.setRow g9 (M.map uv).toArray).setRow g10 (V.map uv).toArray)):=Wt.new HBW.out hMid.out
     have hsz:B ≤ g9:=by rw [HBB.out];exact (hMid.out.a9 g9 rfl).1
     clear hMid HBW HTab HLt IS IP IM
     refine sched_end (G:=Below B) (fun _ => Below.refl _ _) (fun _ _ _ h k => Below.trans h k) (by kernel_rfl) [(8,false),(9,false)] rfl (by kernel_rfl) ?_
     intro KM hKM
     go_simp
     refine sched_put rfl (by rfl) (w':=W16.setRow g9 (M.map uv).toArray) (by go_simp) (below_setRow (Below.refl _ _) hsz _) ?_
     go_simp
     refine sched_store rfl (by rfl) (w':=(W16.setRow g9 (M.map uv).toArray).setRow g10 (V.map uv).toArray) (by go_simp) (by kernel_rfl) ?_
     go_simp
     exact hKM.out _ _ ⟨rfl,g9,g10,rfl,HF⟩
  ·refine ⟨_,rfl,by rfl,oper_val (v:=.pointer (some ⟨W.heap.size,0,none⟩)) (w':=W.alloc (.cells zero16B 189)) (by go_simp;rfl) ⟨(Below.refl _ _).alloc (by rw [HBB.out];exact hMid.out.bel.size) _,?_⟩⟩
   replace hMid:=hid_up hMid.out.six
   generalize W.alloc (.cells zero16B 189) = W17 at hMid ⊢
   generalize W.heap.size = g9 at hMid ⊢
   refine sched_fork [1,7] (by kernel_rfl) rfl ?_
   intro i hi
   simp only [List.mem_cons,List.not_mem_nil,or_false] at hi
   rcases hi with rfl | rfl
   ·refine ⟨_,rfl,by rfl,oper_call (f:=149) (args:=#[.agg (p.map bv).toArray]) (by go_simp) ?_⟩
    refine (btell_any p W17 hp).mono ?_
    rintro e W18 ⟨rfl,hb⟩
    refine ⟨_,rfl,hb.mono (by rw [HBB.out];exact hMid.out.bel.size),?_⟩
    rw [HM.out]
    replace hMid:=hid_up (hMid.out.call hb)
    clear hb
    refine sched_fork [5,7] (by kernel_rfl) rfl ?_
    intro i hi
    simp only [List.mem_cons,List.not_mem_nil,or_false] at hi
    rcases hi with rfl | rfl
    ·refine ⟨_,rfl,by rfl,oper_call (f:=150) (args:=#[.agg (s.map uv).toArray,.int .u64 (told:Int),.bool last]) (by go_simp) ?_⟩
     refine (blay_any s told last W18 hs (HTab.out.below (HBW.out.bel.trans (hMid.out.bel.mono HBW.out.bel.size)) HLt.out) htl).mono ?_
     rintro e W19 ⟨rfl,hb⟩
     refine ⟨_,rfl,hb.mono (by rw [HBB.out];exact hMid.out.bel.size),?_⟩
     rw [HV.out]
     replace hMid:=hid_up (hMid.out.call hb)
     clear hb
     refine sched_fork [7] (by kernel_rfl) rfl ?_
     intro i hi
     simp only [List.mem_cons,List.not_mem_nil,or_false] at hi
     subst hi
     refine ⟨_,rfl,by rfl,oper_val (v:=.pointer (some ⟨W19.heap.size,0,none⟩)) (w':=W19.alloc (.cells zero16B 189)) (by go_simp;rfl) ⟨(Below.refl _ _).alloc (by rw [HBB.out];exact hMid.out.bel.size) _,?_⟩⟩
     replace hMid:=hid_up hMid.out.seven
     generalize W19.alloc (.cells zero16B 189) = W20 at hMid ⊢
     generalize W19.heap.size = g10 at hMid ⊢
     have hst1:=store_row W20 g9 _ _ (M.map uv) (hMid.out.a9 g9 rfl).2 (by simp [hMl,zero16B]) (uv_oneCell M)
     have hst2:=store_row (W20.setRow g9 (M.map uv).toArray) g10 _ _ (V.map uv) (by rw [setRow_other _ _ _ _ (Ne.symm (hMid.out.ne g9 g10 rfl rfl))];exact (hMid.out.a10 g10 rfl).2) (by simp [hVl,zero16B]) (uv_oneCell V)
     have HF:Hid (Wt w gs gr g9 g10 s M V ((W20.setRow g9 (M.map uv).toArray).setRow g10 (V.map uv).toArray)):=Wt.new HBW.out hMid.out
     have hsz:B ≤ g9:=by rw [HBB.out];exact (hMid.out.a9 g9 rfl).1
     clear hMid HBW HTab HLt IS IP IM
     refine sched_end (G:=Below B) (fun _ => Below.refl _ _) (fun _ _ _ h k => Below.trans h k) (by kernel_rfl) [(8,false),(9,false)] rfl (by kernel_rfl) ?_
     intro KM hKM
     go_simp
     refine sched_put rfl (by rfl) (w':=W20.setRow g9 (M.map uv).toArray) (by go_simp) (below_setRow (Below.refl _ _) hsz _) ?_
     go_simp
     refine sched_store rfl (by rfl) (w':=(W20.setRow g9 (M.map uv).toArray).setRow g10 (V.map uv).toArray) (by go_simp) (by kernel_rfl) ?_
     go_simp
     exact hKM.out _ _ ⟨rfl,g9,g10,rfl,HF⟩
    ·refine ⟨_,rfl,by rfl,oper_val (v:=.pointer (some ⟨W18.heap.size,0,none⟩)) (w':=W18.alloc (.cells zero16B 189)) (by go_simp;rfl) ⟨(Below.refl _ _).alloc (by rw [HBB.out];exact hMid.out.bel.size) _,?_⟩⟩
     replace hMid:=hid_up hMid.out.seven
     generalize W18.alloc (.cells zero16B 189) = W21 at hMid ⊢
     generalize W18.heap.size = g10 at hMid ⊢
     refine sched_fork [5] (by kernel_rfl) rfl ?_
     intro i hi
     simp only [List.mem_cons,List.not_mem_nil,or_false] at hi
     subst hi
     refine ⟨_,rfl,by rfl,oper_call (f:=150) (args:=#[.agg (s.map uv).toArray,.int .u64 (told:Int),.bool last]) (by go_simp) ?_⟩
     refine (blay_any s told last W21 hs (HTab.out.below (HBW.out.bel.trans (hMid.out.bel.mono HBW.out.bel.size)) HLt.out) htl).mono ?_
     rintro e W22 ⟨rfl,hb⟩
     refine ⟨_,rfl,hb.mono (by rw [HBB.out];exact hMid.out.bel.size),?_⟩
     rw [HV.out]
     replace hMid:=hid_up (hMid.out.call hb)
     clear hb
     have hst1:=store_row W22 g9 _ _ (M.map uv) (hMid.out.a9 g9 rfl).2 (by simp [hMl,zero16B]) (uv_oneCell M)
     have hst2:=store_row (W22.setRow g9 (M.map uv).toArray) g10 _ _ (V.map uv) (by rw [setRow_other _ _ _ _ (Ne.symm (hMid.out.ne g9 g10 rfl rfl))];exact (hMid.out.a10 g10 rfl).2) (by simp [hVl,zero16B]) (uv_oneCell V)
     have HF:Hid (Wt w gs gr g9 g10 s M V ((W22.setRow g9 (M.map uv).toArray).setRow g10 (V.map uv).toArray)):=Wt.new HBW.out hMid.out
     have hsz:B ≤ g9:=by rw [HBB.out];exact (hMid.out.a9 g9 rfl).1
     clear hMid HBW HTab HLt IS IP IM
     refine sched_end (G:=Below B) (fun _ => Below.refl _ _) (fun _ _ _ h k => Below.trans h k) (by kernel_rfl) [(8,false),(9,false)] rfl (by kernel_rfl) ?_
     intro KM hKM
     go_simp
     refine sched_put rfl (by rfl) (w':=W22.setRow g9 (M.map uv).toArray) (by go_simp) (below_setRow (Below.refl _ _) hsz _) ?_
     go_simp
     refine sched_store rfl (by rfl) (w':=(W22.setRow g9 (M.map uv).toArray).setRow g10 (V.map uv).toArray) (by go_simp) (by kernel_rfl) ?_
     go_simp
     exact hKM.out _ _ ⟨rfl,g9,g10,rfl,HF⟩
   ·refine ⟨_,rfl,by rfl,oper_val (v:=.pointer (some ⟨W17.heap.size,0,none⟩)) (w':=W17.alloc (.cells zero16B 189)) (by go_simp;rfl) ⟨(Below.refl _ _).alloc (by rw [HBB.out];exact hMid.out.bel.size) _,?_⟩⟩
    replace hMid:=hid_up hMid.out.seven
    generalize W17.alloc (.cells zero16B 189) = W23 at hMid ⊢
    generalize W17.heap.size = g10 at hMid ⊢
    refine sched_fork [1] (by kernel_rfl) rfl ?_
    intro i hi
    simp only [List.mem_cons,List.not_mem_nil,or_false] at hi
    subst hi
    refine ⟨_,rfl,by rfl,oper_call (f:=149) (args:=#[.agg (p.map bv).toArray]) (by go_simp) ?_⟩
    refine (btell_any p W23 hp).mono ?_
    rintro e W24 ⟨rfl,hb⟩
    refine ⟨_,rfl,hb.mono (by rw [HBB.out];exact hMid.out.bel.size),?_⟩
    rw [HM.out]
    replace hMid:=hid_up (hMid.out.call hb)
    clear hb
    refine sched_fork [5] (by kernel_rfl) rfl ?_
    intro i hi
    simp only [List.mem_cons,List.not_mem_nil,or_false] at hi
    subst hi
    refine ⟨_,rfl,by rfl,oper_call (f:=150) (args:=#[.agg (s.map uv).toArray,.int .u64 (told:Int),.bool last]) (by go_simp) ?_⟩
    refine (blay_any s told last W24 hs (HTab.out.below (HBW.out.bel.trans (hMid.out.bel.mono HBW.out.bel.size)) HLt.out) htl).mono ?_
    rintro e W25 ⟨rfl,hb⟩
    refine ⟨_,rfl,hb.mono (by rw [HBB.out];exact hMid.out.bel.size),?_⟩
    rw [HV.out]
    replace hMid:=hid_up (hMid.out.call hb)
    clear hb
    have hst1:=store_row W25 g9 _ _ (M.map uv) (hMid.out.a9 g9 rfl).2 (by simp [hMl,zero16B]) (uv_oneCell M)
    have hst2:=store_row (W25.setRow g9 (M.map uv).toArray) g10 _ _ (V.map uv) (by rw [setRow_other _ _ _ _ (Ne.symm (hMid.out.ne g9 g10 rfl rfl))];exact (hMid.out.a10 g10 rfl).2) (by simp [hVl,zero16B]) (uv_oneCell V)
    have HF:Hid (Wt w gs gr g9 g10 s M V ((W25.setRow g9 (M.map uv).toArray).setRow g10 (V.map uv).toArray)):=Wt.new HBW.out hMid.out
    have hsz:B ≤ g9:=by rw [HBB.out];exact (hMid.out.a9 g9 rfl).1
    clear hMid HBW HTab HLt IS IP IM
    refine sched_end (G:=Below B) (fun _ => Below.refl _ _) (fun _ _ _ h k => Below.trans h k) (by kernel_rfl) [(8,false),(9,false)] rfl (by kernel_rfl) ?_
    intro KM hKM
    go_simp
    refine sched_put rfl (by rfl) (w':=W25.setRow g9 (M.map uv).toArray) (by go_simp) (below_setRow (Below.refl _ _) hsz _) ?_
    go_simp
    refine sched_store rfl (by rfl) (w':=(W25.setRow g9 (M.map uv).toArray).setRow g10 (V.map uv).toArray) (by go_simp) (by kernel_rfl) ?_
    go_simp
    exact hKM.out _ _ ⟨rfl,g9,g10,rfl,HF⟩
  ·refine ⟨_,rfl,by rfl,oper_val (v:=.pointer (some ⟨W.heap.size,0,none⟩)) (w':=W.alloc (.cells zero16B 189)) (by go_simp;rfl) ⟨(Below.refl _ _).alloc (by rw [HBB.out];exact hMid.out.bel.size) _,?_⟩⟩
   replace hMid:=hid_up hMid.out.seven
   generalize W.alloc (.cells zero16B 189) = W26 at hMid ⊢
   generalize W.heap.size = g10 at hMid ⊢
   refine sched_fork [1,6] (by kernel_rfl) rfl ?_
   intro i hi
   simp only [List.mem_cons,List.not_mem_nil,or_false] at hi
   rcases hi with rfl | rfl
   ·refine ⟨_,rfl,by rfl,oper_call (f:=149) (args:=#[.agg (p.map bv).toArray]) (by go_simp) ?_⟩
    refine (btell_any p W26 hp).mono ?_
    rintro e W27 ⟨rfl,hb⟩
    refine ⟨_,rfl,hb.mono (by rw [HBB.out];exact hMid.out.bel.size),?_⟩
    rw [HM.out]
    replace hMid:=hid_up (hMid.out.call hb)
    clear hb
    refine sched_fork [5,6] (by kernel_rfl) rfl ?_
    intro i hi
    simp only [List.mem_cons,List.not_mem_nil,or_false] at hi
    rcases hi with rfl | rfl
    ·refine ⟨_,rfl,by rfl,oper_call (f:=150) (args:=#[.agg (s.map uv).toArray,.int .u64 (told:Int),.bool last]) (by go_simp) ?_⟩
     refine (blay_any s told last W27 hs (HTab.out.below (HBW.out.bel.trans (hMid.out.bel.mono HBW.out.bel.size)) HLt.out) htl).mono ?_
     rintro e W28 ⟨rfl,hb⟩
     refine ⟨_,rfl,hb.mono (by rw [HBB.out];exact hMid.out.bel.size),?_⟩
     rw [HV.out]
     replace hMid:=hid_up (hMid.out.call hb)
     clear hb
     refine sched_fork [6] (by kernel_rfl) rfl ?_
     intro i hi
     simp only [List.mem_cons,List.not_mem_nil,or_false] at hi
     subst hi
     refine ⟨_,rfl,by rfl,oper_val (v:=.pointer (some ⟨W28.heap.size,0,none⟩)) (w':=W28.alloc (.cells zero16B 189)) (by go_simp;rfl) ⟨(Below.refl _ _).alloc (by rw [HBB.out];exact hMid.out.bel.size) _,?_⟩⟩
     replace hMid:=hid_up hMid.out.six
     generalize W28.alloc (.cells zero16B 189) = W29 at hMid ⊢
     generalize W28.heap.size = g9 at hMid ⊢
     have hst1:=store_row W29 g9 _ _ (M.map uv) (hMid.out.a9 g9 rfl).2 (by simp [hMl,zero16B]) (uv_oneCell M)
     have hst2:=store_row (W29.setRow g9 (M.map uv).toArray) g10 _ _ (V.map uv) (by rw [setRow_other _ _ _ _ (Ne.symm (hMid.out.ne g9 g10 rfl rfl))];exact (hMid.out.a10 g10 rfl).2) (by simp [hVl,zero16B]) (uv_oneCell V)
     have HF:Hid (Wt w gs gr g9 g10 s M V ((W29.setRow g9 (M.map uv).toArray).setRow g10 (V.map uv).toArray)):=Wt.new HBW.out hMid.out
     have hsz:B ≤ g9:=by rw [HBB.out];exact (hMid.out.a9 g9 rfl).1
     clear hMid HBW HTab HLt IS IP IM
     refine sched_end (G:=Below B) (fun _ => Below.refl _ _) (fun _ _ _ h k => Below.trans h k) (by kernel_rfl) [(8,false),(9,false)] rfl (by kernel_rfl) ?_
     intro KM hKM
     go_simp
     refine sched_put rfl (by rfl) (w':=W29.setRow g9 (M.map uv).toArray) (by go_simp) (below_setRow (Below.refl _ _) hsz _) ?_
     go_simp
     refine sched_store rfl (by rfl) (w':=(W29.setRow g9 (M.map uv).toArray).setRow g10 (V.map uv).toArray) (by go_simp) (by kernel_rfl) ?_
     go_simp
     exact hKM.out _ _ ⟨rfl,g9,g10,rfl,HF⟩
    ·refine ⟨_,rfl,by rfl,oper_val (v:=.pointer (some ⟨W27.heap.size,0,none⟩)) (w':=W27.alloc (.cells zero16B 189)) (by go_simp;rfl) ⟨(Below.refl _ _).alloc (by rw [HBB.out];exact hMid.out.bel.size) _,?_⟩⟩
     replace hMid:=hid_up hMid.out.six
     generalize W27.alloc (.cells zero16B 189) = W30 at hMid ⊢
     generalize W27.heap.size = g9 at hMid ⊢
     refine sched_fork [5] (by kernel_rfl) rfl ?_
     intro i hi
     simp only [List.mem_cons,List.not_mem_nil,or_false] at hi
     subst hi
     refine ⟨_,rfl,by rfl,oper_call (f:=150) (args:=#[.agg (s.map uv).toArray,.int .u64 (told:Int),.bool last]) (by go_simp) ?_⟩
     refine (blay_any s told last W30 hs (HTab.out.below (HBW.out.bel.trans (hMid.out.bel.mono HBW.out.bel.size)) HLt.out) htl).mono ?_
     rintro e W31 ⟨rfl,hb⟩
     refine ⟨_,rfl,hb.mono (by rw [HBB.out];exact hMid.out.bel.size),?_⟩
     rw [HV.out]
     replace hMid:=hid_up (hMid.out.call hb)
     clear hb
     have hst1:=store_row W31 g9 _ _ (M.map uv) (hMid.out.a9 g9 rfl).2 (by simp [hMl,zero16B]) (uv_oneCell M)
     have hst2:=store_row (W31.setRow g9 (M.map uv).toArray) g10 _ _ (V.map uv) (by rw [setRow_other _ _ _ _ (Ne.symm (hMid.out.ne g9 g10 rfl rfl))];exact (hMid.out.a10 g10 rfl).2) (by simp [hVl,zero16B]) (uv_oneCell V)
     have HF:Hid (Wt w gs gr g9 g10 s M V ((W31.setRow g9 (M.map uv).toArray).setRow g10 (V.map uv).toArray)):=Wt.new HBW.out hMid.out
     have hsz:B ≤ g9:=by rw [HBB.out];exact (hMid.out.a9 g9 rfl).1
     clear hMid HBW HTab HLt IS IP IM
     refine sched_end (G:=Below B) (fun _ => Below.refl _ _) (fun _ _ _ h k => Below.trans h k) (by kernel_rfl) [(8,false),(9,false)] rfl (by kernel_rfl) ?_
     intro KM hKM
     go_simp
     refine sched_put rfl (by rfl) (w':=W31.setRow g9 (M.map uv).toArray) (by go_simp) (below_setRow (Below.refl _ _) hsz _) ?_
     go_simp
     refine sched_store rfl (by rfl) (w':=(W31.setRow g9 (M.map uv).toArray).setRow g10 (V.map uv).toArray) (by go_simp) (by kernel_rfl) ?_
     go_simp
     exact hKM.out _ _ ⟨rfl,g9,g10,rfl,HF⟩
   ·refine ⟨_,rfl,by rfl,oper_val (v:=.pointer (some ⟨W26.heap.size,0,none⟩)) (w':=W26.alloc (.cells zero16B 189)) (by go_simp;rfl) ⟨(Below.refl _ _).alloc (by rw [HBB.out];exact hMid.out.bel.size) _,?_⟩⟩
    replace hMid:=hid_up hMid.out.six
    generalize W26.alloc (.cells zero16B 189) = W32 at hMid ⊢
    generalize W26.heap.size = g9 at hMid ⊢
    refine sched_fork [1] (by kernel_rfl) rfl ?_
    intro i hi
    simp only [List.mem_cons,List.not_mem_nil,or_false] at hi
    subst hi
    refine ⟨_,rfl,by rfl,oper_call (f:=149) (args:=#[.agg (p.map bv).toArray]) (by go_simp) ?_⟩
    refine (btell_any p W32 hp).mono ?_
    rintro e W33 ⟨rfl,hb⟩
    refine ⟨_,rfl,hb.mono (by rw [HBB.out];exact hMid.out.bel.size),?_⟩
    rw [HM.out]
    replace hMid:=hid_up (hMid.out.call hb)
    clear hb
    refine sched_fork [5] (by kernel_rfl) rfl ?_
    intro i hi
    simp only [List.mem_cons,List.not_mem_nil,or_false] at hi
    subst hi
    refine ⟨_,rfl,by rfl,oper_call (f:=150) (args:=#[.agg (s.map uv).toArray,.int .u64 (told:Int),.bool last]) (by go_simp) ?_⟩
    refine (blay_any s told last W33 hs (HTab.out.below (HBW.out.bel.trans (hMid.out.bel.mono HBW.out.bel.size)) HLt.out) htl).mono ?_
    rintro e W34 ⟨rfl,hb⟩
    refine ⟨_,rfl,hb.mono (by rw [HBB.out];exact hMid.out.bel.size),?_⟩
    rw [HV.out]
    replace hMid:=hid_up (hMid.out.call hb)
    clear hb
    have hst1:=store_row W34 g9 _ _ (M.map uv) (hMid.out.a9 g9 rfl).2 (by simp [hMl,zero16B]) (uv_oneCell M)
    have hst2:=store_row (W34.setRow g9 (M.map uv).toArray) g10 _ _ (V.map uv) (by rw [setRow_other _ _ _ _ (Ne.symm (hMid.out.ne g9 g10 rfl rfl))];exact (hMid.out.a10 g10 rfl).2) (by simp [hVl,zero16B]) (uv_oneCell V)
    have HF:Hid (Wt w gs gr g9 g10 s M V ((W34.setRow g9 (M.map uv).toArray).setRow g10 (V.map uv).toArray)):=Wt.new HBW.out hMid.out
    have hsz:B ≤ g9:=by rw [HBB.out];exact (hMid.out.a9 g9 rfl).1
    clear hMid HBW HTab HLt IS IP IM
    refine sched_end (G:=Below B) (fun _ => Below.refl _ _) (fun _ _ _ h k => Below.trans h k) (by kernel_rfl) [(8,false),(9,false)] rfl (by kernel_rfl) ?_
    intro KM hKM
    go_simp
    refine sched_put rfl (by rfl) (w':=W34.setRow g9 (M.map uv).toArray) (by go_simp) (below_setRow (Below.refl _ _) hsz _) ?_
    go_simp
    refine sched_store rfl (by rfl) (w':=(W34.setRow g9 (M.map uv).toArray).setRow g10 (V.map uv).toArray) (by go_simp) (by kernel_rfl) ?_
    go_simp
    exact hKM.out _ _ ⟨rfl,g9,g10,rfl,HF⟩
 ·rintro a W ⟨g9,g10,rfl,HW1⟩
  clear HT1 IP
  dsimp only
  go_wp2
  have htl:∀ k,(bturned M k V).length = 16:=fun k => by rw [bturned_length,hVl]
  go_loopw [19] (fun i wr => ∃ k:Nat,k ≤ 10 ∧ i = .int .i64 k ∧ Hid (Wt w gs gr g9 g10 s M (bturned M k V) wr)) (fun i _ => 10 - (intOf i).toNat)
  case atStart => exact ⟨0,by omega,rfl,HW1⟩
  case round =>
   clear HW1
   obtain ⟨k,hk,rfl,hT⟩:=hrel
   by_cases hlt:k < 10
   ·have i1:(k:Int) < 10:=by omega
    obtain ⟨q,hq⟩:∃ q,k * 16 = q:=⟨_,rfl⟩
    have HTd:Hid (Wt w gs gr g9 g10 s M (bturned M k V) wr.drew):=hT.out.drew
    clear hT
    go_wp2
    refine wp_region_sched' (G:=But g10) (by kernel_rfl) (But.refl g10) (But.trans g10) (by kernel_rfl) [(0,true),(1,true),(2,true),(3,true),(4,false)] rfl (by kernel_rfl) ?_
    intro KK hKK
    generalize wr.drew = W1 at HTd
    have HTb:Hid (∀ w',But g10 W1 w' → Tab w'):=fun w' hw' => (HTab.out.below HTd.out.bel HLt.out).but hw' (by have h1:=HLt.out;have h2:=HTd.out.bv;omega)
    refine sched_take rfl (by rfl) (v:=.agg (M.map uv).toArray) (fun w' hw' => exec_load_row 189 _ rfl g9 rfl 189 _ (0,0) _ (HTd.out.m.but HTd.out.nm hw') Tryz.underlying189 rfl IM.out) ?_
    go_simp
    iterate 2 (refine sched_take rfl (by rfl) (v:=?_) ?_ ?_;rotate_left;(intro w' hw';clear hw';go_simp;with_reducible rfl);go_simp)
    refine sched_take rfl (by rfl) (v:=.agg (rowV k).toArray) (fun w' hw' => exec_load_part 119 _ rfl 2 q (by rw [← hq];rfl) (rowV k) _ ((HTb.out w' hw').row k hlt q (by omega)) Tryz.underlying119 rfl (by rw [rowV_length];kernel_rfl)) ?_
    go_simp
    refine sched_call (f:=151) (args:=#[.pointer (some ⟨g10,0,none⟩),.agg (M.map uv).toArray,.agg (rowV k).toArray]) rfl (by rfl) (by go_simp) ?_
    refine (bturn_any g10 k M _ W1 (htl k) hMl hlt HTd.out.v).mono ?_
    rintro e w8 ⟨⟨v,rfl⟩,hs8,hg8⟩
    refine ⟨_,rfl,hg8,?_⟩
    have HT8:Hid (Wt w gs gr g9 g10 s M (bturned M (k + 1) V) w8):=HTd.out.next hs8 hg8
    clear hs8 hg8 HTb HTd
    go_simp
    refine sched_done hKK ?_
    go_wp2
    exact ⟨⟨k + 1,by omega,by go_num,HT8⟩,by simp [intOf];omega⟩
   ·have ek:k = 10:=by omega
    have hkr:¬ (k:Int) < 10:=by omega
    obtain ⟨U,hU⟩:∃ U,bturned M 10 V = U:=⟨_,rfl⟩
    have hUl:U.length = 16:=by rw [← hU];exact htl 10
    have HU:Hid (bturned M 10 V = U):=hU
    have HT0:Hid (Wt w gs gr g9 g10 (finTo s U 0) M U wr):=by have:=hT.out;rw [ek,hU] at this;exact this
    clear hT htl hU IM
    have hfl:∀ k,(finTo s U k).length = 8:=fun k => by rw [finTo_length,hs]
    go_wp2
    go_loopw [28] (fun i wr => ∃ k:Nat,k ≤ 8 ∧ i = .int .i64 k ∧ Hid (Wt w gs gr g9 g10 (finTo s U k) M U wr)) (fun i _ => 8 - (intOf i).toNat)
    case atStart => exact ⟨0,by omega,rfl,HT0⟩
    case round =>
     clear HT0
     obtain ⟨j,hj,rfl,hT⟩:=hrel
     by_cases hjl:j < 8
     ·obtain ⟨q,hq⟩:∃ q,8 + j = q:=⟨_,rfl⟩
      have e1:IntKind.i64.wrap ((8:Int) + (j:Int)) = (q:Int):=by rw [IntKind.wrap_i64];omega
      have i1:(j:Int) < 8:=by omega
      have i2:(j:Int) < 16:=by omega
      have i3:(q:Int) < 16:=by omega
      have hTd:=hT.out.drew
      obtain ⟨cs,fs⟩:=hTd.s.word j (by rw [hfl];omega)
      rw [finTo_at s U j j (by omega)] at cs
      obtain ⟨c1,_⟩:=hTd.v.word j (by omega)
      obtain ⟨c2,_⟩:=hTd.v.word q (by omega)
      obtain ⟨x,hx⟩:∃ x,at32 s j = x:=⟨_,rfl⟩
      obtain ⟨y,hy⟩:∃ x,at32 U j = x:=⟨_,rfl⟩
      obtain ⟨z,hz⟩:∃ x,at32 U q = x:=⟨_,rfl⟩
      rw [hx] at cs
      rw [hy] at c1
      rw [hz] at c2
      obtain ⟨r,hr⟩:∃ r,x ^^^ y ^^^ z = r:=⟨_,rfl⟩
      have HX:Hid (bits .xor .u32 (x.toNat:Int) (bits .xor .u32 (y.toNat:Int) (z.toNat:Int)) = (r.toNat:Int)):=by
       show _ = _
       rw [xor_uv,xor_uv,← BitVec.xor_assoc,hr]
      have hT2:=hTd.put j r
      obtain ⟨W1,hW1⟩:∃ W,wr.drew = W:=⟨_,rfl⟩
      rw [hW1] at cs fs c1 c2 hT2
      obtain ⟨W2,hW2⟩:∃ W2,W1.setCell ⟨gs,j,none⟩ (uv r) = W2:=⟨_,rfl⟩
      rw [hW2] at hT2
      have HT2:Hid (Wt w gs gr g9 g10 (finTo s U (j + 1)) M U W2):=by
       rw [finTo,hx,hy,hq,hz,hr]
       exact hT2
      have HW1:Hid (wr.drew = W1):=hW1
      have HW2:Hid (W1.setCell ⟨gs,j,none⟩ (.int .u32 (r.toNat:Int)) = W2):=hW2
      clear hT hTd hT2 hW1 hW2 hx hy hz hr
      go_wp2
      refine wp_region_sched' (G:=Stays) (by kernel_rfl) Stays.refl Stays.trans (by kernel_rfl) [(0,true),(1,true),(2,true),(3,true),(4,true),(5,true),(6,true),(7,true),(8,true),(9,true),(10,true),(11,true),(12,true),(13,false)] rfl (by kernel_rfl) ?_
      intro KK hKK
      rw [HW1.out]
      iterate 13 (refine sched_take rfl (by rfl) (v:=?_) ?_ ?_;rotate_left;(rintro w' rfl;go_simp;with_reducible rfl);go_simp)
      refine sched_store rfl (by rfl) (w':=W2) (by rw [← HW2.out];go_simp;rw [HX.out]) (by kernel_rfl) ?_
      go_simp
      refine sched_done hKK ?_
      go_wp2
      exact ⟨⟨j + 1,by omega,by go_num,HT2⟩,by simp [intOf];omega⟩
     ·have ej:j = 8:=by omega
      have hjr:¬ (j:Int) < 8:=by omega
      obtain ⟨F,hF⟩:∃ F,finTo s U 8 = F:=⟨_,rfl⟩
      have hFl:F.length = 8:=by rw [← hF];exact hfl 8
      have HF:Hid (bpart s p told last = F):=by
       show _ = _
       rw [← hF,finTo_all s U hs,bpart,HM.out,HV.out,HU.out]
      have HO:Hid (Wt w gs gr g9 g10 F M U wr):=by have:=hT.out;rw [ej,hF] at this;exact this
      have IB:Hid ((Tryz.prog.info? 161).map (·.size) = some (F.map uv).toArray.size):=info_words (n:=8) (by kernel_rfl) F hFl
      have hst:=store_row wr gr _ _ (F.map uv) HO.out.res (by simp [hFl,zero8B]) (uv_oneCell F)
      have hrow:=setRow_heap wr gr _ (F.map uv).toArray _ _ HO.out.res
      have HBel:Hid (Below w.heap.size w (wr.setRow gr (F.map uv).toArray)):=below_setRow HO.out.bel HO.out.br _
      obtain ⟨W4,hW4⟩:∃ W4,wr.setRow gr (F.map uv).toArray = W4:=⟨_,rfl⟩
      rw [hW4] at hst hrow HBel
      have HRow:Hid (W4.heap[gr]? = some (.cells (F.map uv).toArray 161 (0,0))):=hrow
      clear hrow hW4 hT hF hfl IS
      go_wp2_with (first | refine wpList_load_row rfl 161 _ rfl gs rfl 161 _ (0,0) _ HO.out.s Tryz.underlying161 rfl IB.out ?_)
      (try simp only [Exit.inBlock,Exit.then])
      refine bodyPost_ret (results_cell_row rfl _ _ gr 161 _ (0,0) _ rfl HRow.out Tryz.underlying161 rfl IB.out) rfl ?_
      exact ⟨by rw [HF.out],HBel.out⟩
end Go.Proofs.YthmkhdnnljdglaaGreatDoor
