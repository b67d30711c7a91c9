import Derived.Test.YthmkhdnnljdglaaGreatDoorQah
import Derived.Test.YthmkhdnnljdglaaGreatDoorQap
namespace Go.Proofs.YthmkhdnnljdglaaGreatDoor
set_option linter.unusedVariables false
set_option maxRecDepth 100000
open Go.RowKit
def also (d:Nat → Bool) (i:Nat):Nat → Bool:=fun j => j == i || d j
def upd (v:Nat → Value) (i:Nat) (x:Value):Nat → Value:=fun j => if j = i then x else v j
def dstOf (ops:Array Oper) (j:Nat):Option Tmp:=match ops[j]? with | some o => o.dst | none => none
def putAll (ops:Array Oper) (v:Nat → Value) (d:Nat → Bool):Nat → Act → Act
 | 0,a => a
 | n + 1,a => if d n = true then (putAll ops v d n a).put (dstOf ops n) (v n) else putAll ops v d n a
theorem put_comm (a:Act) (p q:Option Tmp) (x y:Value) (h:p = none ∨ p ≠ q):(a.put p x).put q y = (a.put q y).put p x:=by
 cases p with
 | none => cases q <;> rfl
 | some i =>
  cases q with
  | none => rfl
  | some j =>
   have hij:i ≠ j:=fun e => by
    rcases h with h | h
    ·cases h
    ·exact h (by rw [e])
   simp only [Act.put]
   rw [Array.setIfInBounds_comm _ _ hij]
theorem putAll_same (ops:Array Oper) {v v':Nat → Value} {d d':Nat → Bool} (a:Act):∀ n,(∀ j,j < n → d j = d' j) → (∀ j,j < n → v j = v' j) → putAll ops v d n a = putAll ops v' d' n a
 | 0,_,_ => rfl
 | n + 1,hd,hv => by
  have ih:=putAll_same ops a n (fun j hj => hd j (by omega)) (fun j hj => hv j (by omega))
  rw [putAll,putAll,ih,hd n (by omega),hv n (by omega)]
def apartB (ops:Array Oper) (m:Nat):Bool:=(List.range m).all fun i => (List.range m).all fun j => i == j || dstOf ops i == none || dstOf ops i != dstOf ops j
theorem apart_spec {ops:Array Oper} {m i j:Nat} (h:apartB ops m = true) (hi:i < m) (hj:j < m) (hij:i ≠ j):dstOf ops i = none ∨ dstOf ops i ≠ dstOf ops j:=by
 unfold apartB at h
 rw [List.all_eq_true] at h
 have h1:=h i (List.mem_range.2 hi)
 rw [List.all_eq_true] at h1
 have h2:=h1 j (List.mem_range.2 hj)
 simp only [Bool.or_eq_true,beq_iff_eq,bne_iff_ne] at h2
 rcases h2 with (h2 | h2) | h2
 ·exact absurd h2 hij
 ·exact .inl h2
 ·exact .inr h2
theorem putAll_also {ops:Array Oper} {m:Nat} (hap:apartB ops m = true) (v:Nat → Value) (d:Nat → Bool) (a:Act) (i:Nat) (x:Value) (hdi:d i = false):∀ n,n ≤ m → i < n → putAll ops (upd v i x) (also d i) n a = (putAll ops v d n a).put (dstOf ops i) x
 | 0,_,h => absurd h (by omega)
 | n + 1,hn,h => by
  by_cases e:i = n
  ·subst e
   have h1:also d i i = true:=by simp [also]
   have h2:upd v i x i = x:=by simp [upd]
   have h4:∀ j,j < i → also d i j = d j:=fun j hj => by
    have:(j == i) = false:=by simp;omega
    simp [also,this]
   have h5:∀ j,j < i → upd v i x j = v j:=fun j hj => by
    have:j ≠ i:=by omega
    simp [upd,this]
   have h3:putAll ops (upd v i x) (also d i) i a = putAll ops v d i a:=putAll_same ops a i h4 h5
   rw [putAll,putAll,if_pos h1,h2,h3,if_neg (by rw [hdi];decide)]
  ·have ih:=putAll_also hap v d a i x hdi n (by omega) (by omega)
   have h1:also d i n = d n:=by
    have:(n == i) = false:=by simp;omega
    simp [also,this]
   have h2:upd v i x n = v n:=by
    have:n ≠ i:=by omega
    simp [upd,this]
   rw [putAll,putAll,h1,h2,ih]
   split
   ·exact put_comm _ _ _ _ _ (apart_spec hap (by omega) (by omega) e)
   ·rfl
theorem putAll_size (ops:Array Oper) (v:Nat → Value) (d:Nat → Bool) (a:Act):∀ n,(putAll ops v d n a).tmps.size = a.tmps.size
 | 0 => rfl
 | n + 1 => by
  rw [putAll]
  split
  ·rw [← putAll_size ops v d a n]
   cases dstOf ops n <;> simp [Act.put]
  ·exact putAll_size ops v d a n
theorem put_other (a:Act) (q:Option Tmp) (x:Value) (p:Nat) (h:q ≠ some p):(a.put q x).tmps.getD p undef = a.tmps.getD p undef:=by
 cases q with
 | none => rfl
 | some i =>
  have hip:i ≠ p:=fun e => h (by rw [e])
  simp [Act.put,Array.getElem?_setIfInBounds_ne hip]
theorem putAll_old (ops:Array Oper) (v:Nat → Value) (d:Nat → Bool) (a:Act) (p:Nat):∀ n,(∀ j,j < n → dstOf ops j ≠ some p) → (putAll ops v d n a).tmps.getD p undef = a.tmps.getD p undef
 | 0,_ => rfl
 | n + 1,h => by
  rw [putAll]
  split
  ·rw [put_other _ _ _ _ (h n (by omega)),putAll_old ops v d a p n (fun j hj => h j (by omega))]
  ·exact putAll_old ops v d a p n (fun j hj => h j (by omega))
theorem putAll_new {ops:Array Oper} {m:Nat} (hap:apartB ops m = true) (v:Nat → Value) (d:Nat → Bool) (a:Act) (p j:Nat) (hd:d j = true) (hp:dstOf ops j = some p) (hs:p < a.tmps.size):∀ n,n ≤ m → j < n → (putAll ops v d n a).tmps.getD p undef = v j
 | 0,_,h => absurd h (by omega)
 | n + 1,hn,h => by
  rw [putAll]
  by_cases e:j = n
  ·subst e
   rw [if_pos hd,hp]
   have:p < (putAll ops v d j a).tmps.size:=by rw [putAll_size];exact hs
   simp [Act.put,this]
  ·have ih:=putAll_new hap v d a p j hd hp hs n (by omega) (by omega)
   split
   ·rw [put_other _ _ _ _ ?_,ih]
    intro e2
    rcases apart_spec hap (show j < m by omega) (show n < m by omega) e with h1 | h1
    ·rw [hp] at h1;cases h1
    ·exact h1 (by rw [hp,e2])
   ·exact ih
structure Here (ops:Array Oper) (m:Nat) (v:Nat → Value) (d:Nat → Bool) (a A:Act):Prop where
 old:∀ p,(∀ j,j < m → dstOf ops j ≠ some p) → A.eval (.tmp p) = a.tmps.getD p undef
 new:∀ j p,j < m → d j = true → dstOf ops j = some p → p < a.tmps.size → A.eval (.tmp p) = v j
section
variable {P:Program} {ops:Array Oper} {Q:Exit → Act → World → Prop} {md:Region.Mode}
def downB (md:Region.Mode) (ops:Array Oper):Bool:=
 (List.range ops.size).all fun i => match ops[i]? with | none => true | some o => o.after.all fun e => !Region.binds md e || decide (e.on < i)
theorem down_spec (h:downB md ops = true) {i:Nat} {o:Oper} (ho:ops[i]? = some o) {e:Edge} (he:e ∈ o.after) (hb:Region.binds md e = true):e.on < i:=by
 unfold downB at h
 rw [List.all_eq_true] at h
 have h1:=h i (List.mem_range.2 (Array.getElem?_eq_some_iff.1 ho).1)
 rw [ho] at h1
 simp only [Array.all_eq_true_iff_forall_mem] at h1
 have h2:=h1 e he
 simpa [hb] using h2
def reachB (md:Region.Mode) (ops:Array Oper):Nat → Nat → Nat → Bool
 | 0,_,_ => false
 | n + 1,i,k => match ops[i]? with
  | none => false
  | some o => o.after.any fun e => Region.binds md e && (e.on == k || reachB md ops n e.on k)
theorem reach_spec {n i k:Nat} (h:reachB md ops (n + 1) i k = true):∃ o,ops[i]? = some o ∧ ∃ e ∈ o.after,Region.binds md e = true ∧ (e.on = k ∨ reachB md ops n e.on k = true):=by
 rw [reachB] at h
 cases ho:ops[i]? with
 | none => rw [ho] at h;cases h
 | some o =>
  rw [ho] at h
  obtain ⟨q,hq,hqq⟩:=Array.any_eq_true.1 h
  obtain ⟨hb,hon⟩:=Bool.and_eq_true_iff.1 hqq
  refine ⟨o,rfl,o.after[q],Array.getElem_mem hq,hb,?_⟩
  simpa using hon
theorem reach_lt (hd:downB md ops = true):∀ {n i k:Nat},reachB md ops n i k = true → k < i
 | 0,_,_,h => by cases h
 | n + 1,i,k,h => by
  obtain ⟨o,ho,e,he,hb,hon⟩:=reach_spec h
  have h1:=down_spec hd ho he hb
  rcases hon with hon | hon
  ·omega
  ·have:=reach_lt hd hon
   omega
def tailB (md:Region.Mode) (ops:Array Oper) (m:Nat):Bool:=
 (List.range ops.size).all fun i => decide (i < m) || (List.range i).all fun k => reachB md ops 5 i k
theorem tail_spec {m:Nat} (h:tailB md ops m = true) {i k:Nat} {o:Oper} (hm:m ≤ i) (ho:ops[i]? = some o) (hk:k < i) :
  ∃ e ∈ o.after,Region.binds md e = true ∧ (e.on = k ∨ reachB md ops 4 e.on k = true):=by
 unfold tailB at h
 rw [List.all_eq_true] at h
 have h1:=h i (List.mem_range.2 (Array.getElem?_eq_some_iff.1 ho).1)
 have him:decide (i < m) = false:=decide_eq_false (by omega)
 rw [him,Bool.false_or,List.all_eq_true] at h1
 obtain ⟨o',ho',h3⟩:=reach_spec (h1 k (List.mem_range.2 hk))
 obtain rfl:o = o':=Option.some.inj (ho.symm.trans ho')
 exact h3
theorem reach_done {listed:Array Bool} (hcl:∀ k o,ops[k]? = some o → listed.getD k false = true → ∀ e ∈ o.after,Region.binds md e = true → listed.getD e.on false = true):∀ {n i k:Nat},listed.getD i false = true → reachB md ops n i k = true → listed.getD k false = true
 | 0,_,_,_,h => by cases h
 | n + 1,i,k,hi,h => by
  obtain ⟨o,ho,e,he,hb,hon⟩:=reach_spec h
  have h1:=hcl i o ho hi e he hb
  rcases hon with hon | hon
  ·rw [← hon];exact h1
  ·exact reach_done hcl h1 hon
theorem getD_true_false {listed:Array Bool} {i:Nat} (h:listed.getD i true = false):i < listed.size ∧ listed.getD i false = false:=by
 rcases Nat.lt_or_ge i listed.size with h' | h'
 ·refine ⟨h',?_⟩
  simp [h'] at h ⊢
  exact h
 ·simp [h'] at h
theorem getD_false_true {listed:Array Bool} {i:Nat} (hi:i < listed.size) (h:listed.getD i false = false):listed.getD i true = false:=by
 simp [hi] at h ⊢
 exact h
theorem tail_any {m:Nat} (hdown:downB md ops = true) (htl:tailB md ops m = true):∀ (fuel:Nat) (listed:Array Bool) (k:Nat) (a:Act) (w:World),listed.size = ops.size → (∀ i,i < ops.size → listed.getD i false = decide (i < k)) → m ≤ k → k ≤ ops.size → ops.size - k ≤ fuel →
  wpList P ops Q (ops.toList.drop k) a w → wpAny P md ops Q fuel listed a w:=by
 intro fuel
 induction fuel with
 | zero =>
  intro listed k a w hs hl hmk hk hf h
  have ek:k = ops.size:=by omega
  subst ek
  rw [List.drop_eq_nil_of_le (by simp)] at h
  refine ⟨?_,h⟩
  rw [List.eq_nil_iff_forall_not_mem]
  intro i hi
  obtain ⟨h1,o,ho,_⟩:=mem_ready.1 hi
  have h2:=getD_true_false h1
  rw [hl i (by omega),decide_eq_false_iff_not] at h2
  omega
 | succ fuel ih =>
  intro listed k a w hs hl hmk hk hf h
  refine ⟨fun h0 => ?_,fun i hi => ?_⟩
  ·by_cases ek:k = ops.size
   ·subst ek
    rw [List.drop_eq_nil_of_le (by simp)] at h
    exact h
   ·exfalso
    have hlt:k < ops.size:=by omega
    have hm:k ∈ Region.ready md ops listed:=mem_ready.2 ⟨getD_false_true (by omega) (by rw [hl k hlt];simp),ops[k],by simp [hlt],fun e he hb => by
     have hd:=down_spec hdown (show ops[k]? = some ops[k] by simp [hlt]) he hb
     rw [hl e.on (by omega)]
     simpa using hd⟩
    rw [h0] at hm
    cases hm
  ·obtain ⟨h1,o,ho,hall⟩:=mem_ready.1 hi
   obtain ⟨his,h2⟩:=getD_true_false h1
   rw [hl i (by omega),decide_eq_false_iff_not] at h2
   have eik:i = k:=by
    rcases Nat.lt_or_ge k i with hki | hki
    ·exfalso
     obtain ⟨e,he,hb,hon⟩:=tail_spec htl (by omega) ho hki
     have h3:=hall e he hb
     have hei:=down_spec hdown ho he hb
     rw [hl e.on (by omega),decide_eq_true_eq] at h3
     rcases hon with hon | hon
     ·omega
     ·have:=reach_lt hdown hon
      omega
    ·omega
   subst eik
   have hlt:i < ops.size:=by omega
   have hoi:ops[i] = o:=by simpa [hlt] using ho
   rw [List.drop_eq_getElem_cons (by simpa using hlt)] at h
   have hto:ops.toList[i]'(by simpa using hlt) = o:=by simpa using hoi
   rw [hto] at h
   unfold wpOp
   rw [ho]
   unfold wpList at h
   have hnext:∀ a' w',wpList P ops Q (ops.toList.drop (i + 1)) a' w' → wpAny P md ops Q fuel (listed.setIfInBounds i true) a' w':=fun a' w' h' =>
    ih (listed.setIfInBounds i true) (i + 1) a' w' (by simpa using hs) (fun j hj => by
     by_cases hji:i = j
     ·subst hji
      simp [his]
     ·rw [getD_set_ne false hji,hl j hj]
      rw [decide_eq_decide]
      omega) (by omega) (by omega) (by omega) h'
   split at h
   ·rename_i hw
    simp only [hw,if_true]
    rcases h with h | h
    ·exact .inl (Oper.wp_mono hnext h)
    ·exact .inr h
   ·rename_i hw
    simp only [hw]
    exact hnext _ _ h
theorem free_any {m:Nat} (hdown:downB md ops = true) (hap:apartB ops m = true) (htl:tailB md ops m = true) (hm:m ≤ ops.size) (a0:Act) (T:(Nat → Bool) → (Nat → Value) → World → Prop)
  (hstep:∀ d v W i o A,T d v W → i < m → ops[i]? = some o → d i = false → (∀ e ∈ o.after,Region.binds md e = true → d e.on = true) → Here ops m v d a0 A →
   Region.wanted o (yielded ops A.tmps) = true ∧ o.wp P A W (fun a' W' => ∃ x,a' = A.put o.dst x ∧ T (also d i) (upd v i x) W') Q)
  (hend:∀ d v W,(∀ j,j < m → d j = true) → T d v W → wpList P ops Q (ops.toList.drop m) (putAll ops v (fun _ => true) m a0) W) :
  ∀ (fuel:Nat) (L:List Nat) (listed:Array Bool) (v:Nat → Value) (W:World),listed.size = ops.size → (∀ i,m ≤ i → i < ops.size → listed.getD i false = false) → (∀ i,i < m → listed.getD i false = false → i ∈ L) →
   (∀ k o,ops[k]? = some o → listed.getD k false = true → ∀ e ∈ o.after,Region.binds md e = true → listed.getD e.on false = true) → L.length + (ops.size - m) ≤ fuel →
   T (fun j => listed.getD j false) v W → wpAny P md ops Q fuel listed (putAll ops v (fun j => listed.getD j false) m a0) W:=by
 intro fuel
 induction fuel with
 | zero =>
  intro L listed v W hs htop hL hcl hf hT
  have hdone:∀ j,j < m → listed.getD j false = true:=fun j hj => by
   cases h:listed.getD j false with
   | true => rfl
   | false =>
    have h1:=hL j hj h
    have h2:=List.length_pos_of_mem h1
    omega
  rw [putAll_same ops a0 m (d':=fun _ => true) (v':=v) (fun j hj => hdone j hj) (fun _ _ => rfl)]
  exact tail_any hdown htl 0 listed m _ _ hs (fun i hi => by
   rcases Nat.lt_or_ge i m with h | h
   ·rw [hdone i h];exact (decide_eq_true h).symm
   ·rw [htop i h hi];exact (decide_eq_false (by omega)).symm) (Nat.le_refl _) hm (by omega) (hend _ v W hdone hT)
 | succ fuel ih =>
  intro L listed v W hs htop hL hcl hf hT
  by_cases hdone:∀ j,j < m → listed.getD j false = true
  ·rw [putAll_same ops a0 m (d':=fun _ => true) (v':=v) (fun j hj => hdone j hj) (fun _ _ => rfl)]
   exact tail_any hdown htl (fuel + 1) listed m _ _ hs (fun i hi => by
    rcases Nat.lt_or_ge i m with h | h
    ·rw [hdone i h];exact (decide_eq_true h).symm
    ·rw [htop i h hi];exact (decide_eq_false (by omega)).symm) (Nat.le_refl _) hm (by omega) (hend _ v W hdone hT)
  ·refine ⟨fun h0 => ?_,fun i hi => ?_⟩
   ·exfalso
    refine hdone fun j => ?_
    induction j using Nat.strongRecOn with
    | _ j ihj =>
     intro hj
     cases hlj:listed.getD j false with
     | true => rfl
     | false =>
      have hlt:j < ops.size:=by omega
      have hmem:j ∈ Region.ready md ops listed:=mem_ready.2 ⟨getD_false_true (by omega) hlj,ops[j],by simp [hlt],fun e he hb => by
       have hd:=down_spec hdown (show ops[j]? = some ops[j] by simp [hlt]) he hb
       exact ihj e.on hd (by omega)⟩
      rw [h0] at hmem
      cases hmem
   ·obtain ⟨h1,o,ho,hall⟩:=mem_ready.1 hi
    obtain ⟨his,h2⟩:=getD_true_false h1
    have him:i < m:=by
     rcases Nat.lt_or_ge i m with h | h
     ·exact h
     ·exfalso
      refine hdone fun j hj => ?_
      obtain ⟨e,he,hb,hon⟩:=tail_spec htl h ho (show j < i by omega)
      have h3:=hall e he hb
      rcases hon with hon | hon
      ·rw [← hon];exact h3
      ·exact reach_done hcl h3 hon
    have hA:Here ops m v (fun j => listed.getD j false) a0 (putAll ops v (fun j => listed.getD j false) m a0):=
     ⟨fun p hp => putAll_old ops v _ a0 p m hp,fun j p hj hd hp hsz => putAll_new hap v _ a0 p j hd hp hsz m (Nat.le_refl _) hj⟩
    obtain ⟨hw,hwp⟩:=hstep _ v W i o _ hT him ho h2 hall hA
    unfold wpOp
    rw [ho]
    simp only [hw,if_true]
    left
    refine Oper.wp_mono ?_ hwp
    rintro a' W' ⟨x,rfl,hT'⟩
    have hfun:(fun j => (listed.setIfInBounds i true).getD j false) = also (fun j => listed.getD j false) i:=by
     funext j
     by_cases hji:i = j
     ·subst hji
      simp [also,his]
     ·rw [getD_set_ne false hji]
      have:(j == i) = false:=by simp;omega
      simp [also,this]
    have hdst:dstOf ops i = o.dst:=by simp [dstOf,ho]
    have hput:=putAll_also hap v (fun j => listed.getD j false) a0 i x h2 m (Nat.le_refl _) him
    rw [hdst] at hput
    have:=ih (L.erase i) (listed.setIfInBounds i true) (upd v i x) W' (by simpa using hs) (fun j hj hjs => by
      rw [getD_set_ne false (by omega)]
      exact htop j hj hjs) (fun j hj hlj => by
      have hji:i ≠ j:=fun e => by
       subst e
       simp [his] at hlj
      rw [getD_set_ne false hji] at hlj
      exact (List.mem_erase_of_ne (fun e => hji e.symm)).2 (hL j hj hlj)) (fun k o' ho' hk e he hb => by
      by_cases hki:i = k
      ·subst hki
       rw [ho] at ho'
       cases ho'
       have h3:=hall e he hb
       by_cases hei:i = e.on
       ·rw [← hei];simp [his]
       ·rw [getD_set_ne false hei];exact h3
      ·rw [getD_set_ne false hki] at hk
       have h3:=hcl k o' ho' hk e he hb
       by_cases hei:i = e.on
       ·rw [← hei];simp [his]
       ·rw [getD_set_ne false hei];exact h3) (by
      have hiL:=hL i him h2
      have:=List.length_erase_of_mem hiL
      have:=List.length_pos_of_mem hiL
      omega) (by rw [hfun];exact hT')
    rw [hfun,hput] at this
    exact this
theorem wp_region_free {id:Nat} {a:Act} {w:World} (hmx:P.follows .mixedOrders = true) (m:Nat) (hm:m ≤ ops.size) (hdown:downB .any ops = true) (hap:apartB ops m = true) (htl:tailB .any ops m = true) (T:(Nat → Bool) → (Nat → Value) → World → Prop) (v:Nat → Value) (h0:T (fun _ => false) v w.drew)
  (hstep:∀ d v W i o A,T d v W → i < m → ops[i]? = some o → d i = false → (∀ e ∈ o.after,Region.binds .any e = true → d e.on = true) → Here ops m v d a A →
   Region.wanted o (yielded ops A.tmps) = true ∧ o.wp P A W (fun a' W' => ∃ x,a' = A.put o.dst x ∧ T (also d i) (upd v i x) W') Q)
  (hend:∀ d v W,(∀ j,j < m → d j = true) → T d v W → wpList P ops Q (ops.toList.drop m) (putAll ops v (fun _ => true) m a) W):(Code.region id ops true).wp P Q a w:=by
 refine wp_region_any hmx ?_
 have hf:(fun j => (Array.replicate ops.size false).getD j false) = fun _ => false:=by
  funext j
  rcases Nat.lt_or_ge j ops.size with h | h
  ·simp [h]
  ·simp [h]
 have:=free_any (P:=P) (Q:=Q) hdown hap htl hm a T hstep hend ops.size (List.range m) (Array.replicate ops.size false) v w.drew (by simp) (fun i _ _ => congrFun hf i) (fun i hi _ => List.mem_range.2 hi)
  (fun k o ho hk => by rw [congrFun hf k] at hk;cases hk) (by simp;omega) (by rw [hf];exact h0)
 rw [hf] at this
 have hz:∀ n,putAll ops v (fun _ => false) n a = a:=fun n => by
  induction n with
  | zero => rfl
  | succ n ih => rw [putAll,if_neg (by decide),ih]
 rw [hz] at this
 exact this
end
end Go.Proofs.YthmkhdnnljdglaaGreatDoor
namespace Go.Proofs.YthmkhdnnljdglaaGreatDoor
set_option linter.unusedVariables false
set_option maxRecDepth 100000
open Go.RowKit
theorem vup_ne {v:Nat → Value} {i j:Nat} {x:Value} (h:j ≠ i):upd v i x j = v j:=by simp [upd,h]
theorem vup_eq {v:Nat → Value} {i:Nat} {x:Value}:upd v i x i = x:=by simp [upd]
theorem valso_ne {d:Nat → Bool} {i j:Nat} (h:j ≠ i):also d i j = d j:=by simp [also,h]
def voldB (ops:Array Oper) (m p:Nat):Bool:=(List.range m).all fun j => dstOf ops j != some p
theorem Here.keep {ops:Array Oper} {m:Nat} {v:Nat → Value} {d:Nat → Bool} {a A:Act} (h:Here ops m v d a A) (p:Nat) (hp:voldB ops m p = true):A.eval (.tmp p) = a.tmps.getD p undef:=
 h.old p fun j hj e => by
  unfold voldB at hp
  rw [List.all_eq_true] at hp
  have:=hp j (List.mem_range.2 hj)
  rw [e] at this
  simp at this
theorem vdone {o:Oper} {d:Nat → Bool} (hd:∀ e ∈ o.after,Region.binds .any e = true → d e.on = true) (j:Nat) (h:(o.after.any fun e => Region.binds .any e && e.on == j) = true):d j = true:=by
 obtain ⟨q,hq,hqq⟩:=Array.any_eq_true.1 h
 obtain ⟨hb,hon⟩:=Bool.and_eq_true_iff.1 hqq
 have:=hd o.after[q] (Array.getElem_mem hq) hb
 rw [show o.after[q].on = j by simpa using hon] at this
 exact this
theorem Here.got {ops:Array Oper} {m:Nat} {v:Nat → Value} {d:Nat → Bool} {a A:Act} (h:Here ops m v d a A) {o:Oper} (hd:∀ e ∈ o.after,Region.binds .any e = true → d e.on = true) (j p:Nat) (hj:j < m) (hw:(o.after.any fun e => Region.binds .any e && e.on == j) = true) (hp:dstOf ops j = some p) (hs:p < a.tmps.size):A.eval (.tmp p) = v j:=
 h.new j p hj (vdone hd j hw) hp hs
theorem wp_region_vals {P:Program} {ops:Array Oper} {Q:Exit → Act → World → Prop} {id:Nat} {a:Act} {w:World} (m:Nat) (hm:m ≤ ops.size) (hmx:P.follows .mixedOrders = true) (hdown:downB .any ops = true) (hap:apartB ops m = true) (htl:tailB .any ops m = true)
  (Sp:Nat → Value → World → Prop) (hmono:∀ j x W W',Sp j x W → Below W.heap.size W W' → Sp j x W')
  (hval:∀ (d:Nat → Bool) (v:Nat → Value) (W:World) (i:Nat) (o:Oper) (A:Act),i < m → ops[i]? = some o → (∀ j,j < m → d j = true → Sp j (v j) W) → (∀ e ∈ o.after,Region.binds .any e = true → d e.on = true) → Here ops m v d a A → Below w.drew.heap.size w.drew W →
   Region.wanted o (yielded ops A.tmps) = true ∧ o.wp P A W (fun a' W' => ∃ x,a' = A.put o.dst x ∧ Sp i x W' ∧ Below W.heap.size W W') Q)
  (hend:∀ (v:Nat → Value) (W:World),(∀ j,j < m → Sp j (v j) W) → Below w.drew.heap.size w.drew W → wpList P ops Q (ops.toList.drop m) (putAll ops v (fun _ => true) m a) W) :
  (Code.region id ops true).wp P Q a w:=by
 refine wp_region_free hmx m hm hdown hap htl (fun d v W => Below w.drew.heap.size w.drew W ∧ ∀ j,j < m → d j = true → Sp j (v j) W) (fun _ => undef) ⟨Below.refl _ _,fun j _ h => by cases h⟩ ?_ ?_
 ·rintro d v W i o A ⟨hb,hS⟩ hi ho hdi hall hA
  obtain ⟨hw,hwp⟩:=hval d v W i o A hi ho hS hall hA hb
  refine ⟨hw,Oper.wp_mono ?_ hwp⟩
  rintro a' W' ⟨x,rfl,hx,hb'⟩
  refine ⟨x,rfl,hb.trans (hb'.mono hb.size),fun j hj hdj => ?_⟩
  by_cases e:j = i
  ·subst e;rw [vup_eq];exact hx
  ·rw [vup_ne e]
   rw [valso_ne e] at hdj
   exact hmono j _ _ _ (hS j hj hdj) hb'
 ·rintro d v W hall ⟨hb,hS⟩
  exact hend v W (fun j hj => hS j hj (hall j hj)) hb
theorem slotv {A:Act} {p:Nat} {x:Value} (h:A.eval (.tmp p) = x):A.tmps[p]?.getD undef = x:=by
 rw [← h]
 simp [Act.eval]
theorem vtail {P:Program} {ops:Array Oper} {Q:Exit → Act → World → Prop} {l l':List Oper} {a a':Act} {w:World} (hl:l = l') (ha:a = a') (h:wpList P ops Q l' a' w):wpList P ops Q l a w:=by rw [hl,ha];exact h
theorem row_later9 {W W':World} {g:Nat} {o:Obj} (h:W.heap[g]? = some o) (hb:Below W.heap.size W W'):W'.heap[g]? = some o:=by
 rw [hb.block g (Array.getElem?_eq_some_iff.1 h).1]
 exact h
structure C3 (w:World) (g off:Nat) (a:Option Addr) (la ca:Nat) (c:Option Addr) (lc cc:Nat) (W:World):Prop where
 p1:W.heap[w.heap.size]? = some (.cells #[.pointer (some ⟨g,off,none⟩)] 87 (0,0))
 p2:W.heap[w.heap.size + 1]? = some (.cells #[.slice a la ca] 22 (0,0))
 p3:W.heap[w.heap.size + 2]? = some (.cells #[.slice c lc cc] 22 (0,0))
 bel:Below w.heap.size w W
theorem C3.new (w:World) (g off:Nat) (a:Option Addr) (la ca:Nat) (c:Option Addr) (lc cc:Nat) :
  C3 w g off a la ca c lc cc (((w.alloc (.cells #[.pointer (some ⟨g,off,none⟩)] 87)).alloc (.cells #[.slice a la ca] 22)).alloc (.cells #[.slice c lc cc] 22)):=by
 have e1:=heap_alloc_new w (.cells #[.pointer (some ⟨g,off,none⟩)] 87)
 have e2:=heap_alloc_new (w.alloc (.cells #[.pointer (some ⟨g,off,none⟩)] 87)) (.cells #[.slice a la ca] 22)
 have e3:=heap_alloc_new ((w.alloc (.cells #[.pointer (some ⟨g,off,none⟩)] 87)).alloc (.cells #[.slice a la ca] 22)) (.cells #[.slice c lc cc] 22)
 simp only [World.size_alloc] at e2 e3
 refine ⟨?_,?_,e3,(((Below.refl _ _).alloc (Nat.le_refl _) _).alloc (by simp) _).alloc (by simp <;> omega) _⟩
 ·rw [Below.heap_alloc _ _ _ (by simp <;> omega),Below.heap_alloc _ _ _ (by simp)]
  exact e1
 ·rw [Below.heap_alloc _ _ _ (by simp)]
  exact e2
theorem C3.later {w W W':World} {g off:Nat} {a:Option Addr} {la ca:Nat} {c:Option Addr} {lc cc:Nat} (x:C3 w g off a la ca c lc cc W) (hb:Below W.heap.size W W'):C3 w g off a la ca c lc cc W':=
 ⟨row_later9 x.p1 hb,row_later9 x.p2 hb,row_later9 x.p3 hb,x.bel.trans (hb.mono x.bel.size)⟩
set_option maxHeartbeats 2000000 in
theorem kseal_any (g t off:Nat) (A B:List Value) (key:List UInt8) (has:Bool) (n:Nat) (a:Option Addr) (la ca:Nat) (ad:List UInt8) (c:Option Addr) (lc cc:Nat) (b:List UInt8) (w:World) (hK:KC w g t off A B key has n) (hn:n ≤ 18446744073709551615)
  (hA:Byt w a la ad) (hAn:a = none → ca = 0) (hla:la ≤ 1000) (hca:la ≤ ca) (hcam:ca ≤ maxLen) (hB:Byt w c lc b) (hBn:c = none → cc = 0) (hlc:lc ≤ 1000) (hcc:lc ≤ cc) (hccm:cc ≤ maxLen) :
  Calls Tryz.prog 26 #[.pointer (some ⟨g,off,none⟩),.slice a la ca,.slice c lc cc] w fun e w' =>
   ∃ v,e = .returned (.tuple #[v,.int .i64 ((sErr has n:Nat):Int)]) ∧ w.grownBy w' (some g) ∧ KC w' g t off A B key has (sNum has n) ∧ w'.ownsRow w.heap.size 5 1 v (sOut key has n ad b).length ((sOut key has n ad b).map bv):=by
 have hbl:=hB.1
 have hgl:=hK.lt
 have HK:=ohid hK
 have HA:=ohid hA
 have HB:=ohid hB
 have HC3:=ohid (C3.new w g off a la ca c lc cc)
 clear hK hA hB
 go_enter Tryz.func26,Tryz.ntmps26
 go_wp2_with fail
 refine from_world (P:=fun W => Calls Tryz.prog _ _ W _) (R:=fun W => Hid (C3 w g off a la ca c lc cc W)) _ HC3 ?_
 intro W0 HC0
 clear HC3
 refine (cnextS_any #[.pointer (some ⟨w.heap.size,0,none⟩),.pointer (some ⟨w.heap.size + 1,0,none⟩),.pointer (some ⟨w.heap.size + 2,0,none⟩)]
  (fun v er W' => er = 0 ∧ W'.ownsRow w.heap.size 5 1 v (lc + 16) ((sealB key (nonceB n) ad b).map bv)) g t off A B key has n c lc cc b W0 (HK.out.later HC0.out.bel) hn (HB.out.later HC0.out.bel) hBn (by omega) ?_).mono ?_
 ·refine ohid fun _ _ W hb => ?_
  have hc3:=HC0.out.later hb
  refine (cseal1_any g t off A B key has n w.heap.size (w.heap.size + 1) (w.heap.size + 2) (nonceB n) a la ca ad c lc cc b W (HK.out.later hc3.bel) (nonceB_length n) hc3.p1 hc3.p2 hc3.p3 (HA.out.later hc3.bel) hAn hla hca hcam (HB.out.later hc3.bel) hBn hlc hcc hccm).mono ?_
  rintro e w' ⟨v,rfl,hb',own⟩
  exact ⟨v,0,rfl,hb',rfl,own_lower own hc3.bel.size⟩
 ·rintro e w1 (⟨rfl,v1,rfl,hb1,own1⟩ | ⟨rfl,hl,rfl,rfl⟩ | ⟨rfl,hl,v1,er,W,hbW,⟨rfl,own1⟩,⟨h0,_⟩ | ⟨_,rfl,rfl⟩⟩)
  ·have HW1:=ohid (HC0.out.bel.trans (hb1.mono HC0.out.bel.size))
   have HO1:=ohid (own_lower own1 HC0.out.bel.size)
   clear hb1 own1 HC0
   go_wp2_with fail
   go_ret2
   exact ⟨v1,rfl,But.below g HW1.out,HK.out.later HW1.out,by show World.ownsRow _ _ _ _ _ b.length _;rw [hbl];exact HO1.out⟩
  ·have HL:=ohid hl
   clear hl
   go_wp2_with fail
   go_ret2
   have e1:sErr true n = 5:=by simp [sErr,HL.out]
   have e2:sNum true n = n:=by simp [sNum,HL.out]
   have e3:sOut key true n ad b = []:=by simp [sOut,HL.out]
   rw [e1,e2,e3]
   exact ⟨_,rfl,But.below g HC0.out.bel,HK.out.later HC0.out.bel,⟨rfl,.inl ⟨rfl,rfl⟩⟩⟩
  ·exact absurd rfl h0
  ·have HW:=ohid (HC0.out.bel.trans (hbW.mono HC0.out.bel.size))
   have HK2:=ohid ((HK.out.later HW.out).setN (n + 1))
   have HO2:Hid ((W.setCell ⟨g,off + 33,none⟩ (.int .u64 ((n + 1:Nat):Int))).ownsRow w.heap.size 5 1 v1 (lc + 16) ((sealB key (nonceB n) ad b).map bv)):=own_but own1 (But.setCell W g _ _) (fun b' hb' e => by
    have:=(own_base own1 b' hb').1
    cases e
    omega)
   have HG2:Hid (w.grownBy (W.setCell ⟨g,off + 33,none⟩ (.int .u64 ((n + 1:Nat):Int))) (some g)):=World.grownBy.trans (But.below g HW.out) (But.setCell W g _ _)
   have HL:=ohid hl
   obtain ⟨X,hX⟩:∃ X,W.setCell ⟨g,off + 33,none⟩ (.int .u64 ((n + 1:Nat):Int)) = X:=⟨_,rfl⟩
   rw [hX] at HK2 HO2 HG2 ⊢
   clear hX hl own1 hbW HC0 HW
   go_wp2_with fail
   go_ret2
   have e1:sErr true n = 0:=by simp [sErr,HL.out]
   have e2:sNum true n = n + 1:=by simp [sNum,HL.out]
   have e3:sOut key true n ad b = sealB key (nonceB n) ad b:=by simp [sOut,HL.out]
   rw [e1,e2,e3,sealB_length,hbl]
   exact ⟨v1,rfl,HG2.out,HK2.out,HO2.out⟩
set_option maxHeartbeats 2000000 in
theorem kopen_any (g t off:Nat) (A B:List Value) (key:List UInt8) (has:Bool) (n:Nat) (a:Option Addr) (la ca:Nat) (ad:List UInt8) (c:Option Addr) (lc cc:Nat) (b:List UInt8) (w:World) (hK:KC w g t off A B key has n) (hn:n ≤ 18446744073709551615)
  (hA:Byt w a la ad) (hAn:a = none → ca = 0) (hla:la ≤ 1000) (hca:la ≤ ca) (hcam:ca ≤ maxLen) (hB:Byt w c lc b) (hBn:c = none → cc = 0) (hlc:lc ≤ 1100) (hcc:lc ≤ cc) (hccm:cc ≤ maxLen) :
  Calls Tryz.prog 27 #[.pointer (some ⟨g,off,none⟩),.slice a la ca,.slice c lc cc] w fun e w' =>
   ∃ v,e = .returned (.tuple #[v,.int .i64 ((oErr key has n ad b:Nat):Int)]) ∧ w.grownBy w' (some g) ∧ KC w' g t off A B key has (oNum key has n ad b) ∧ w'.ownsRow w.heap.size 5 1 v (oOut key has n ad b).length ((oOut key has n ad b).map bv):=by
 have hbl:=hB.1
 have hgl:=hK.lt
 have HK:=ohid hK
 have HA:=ohid hA
 have HB:=ohid hB
 have HC3:=ohid (C3.new w g off a la ca c lc cc)
 clear hK hA hB
 go_enter Tryz.func27,Tryz.ntmps27
 go_wp2_with fail
 refine from_world (P:=fun W => Calls Tryz.prog _ _ W _) (R:=fun W => Hid (C3 w g off a la ca c lc cc W)) _ HC3 ?_
 intro W0 HC0
 clear HC3
 refine (cnextO_any #[.pointer (some ⟨w.heap.size,0,none⟩),.pointer (some ⟨w.heap.size + 1,0,none⟩),.pointer (some ⟨w.heap.size + 2,0,none⟩)]
  (fun v er W' => (sealedB key (nonceB n) ad b = true ∧ er = 0 ∧ W'.ownsRow w.heap.size 5 1 v (lc - 16) ((openB key (nonceB n) b).map bv)) ∨ (sealedB key (nonceB n) ad b = false ∧ er = 3)) g t off A B key has n c lc cc b W0 (HK.out.later HC0.out.bel) hn (HB.out.later HC0.out.bel) hBn (by omega) ?_).mono ?_
 ·refine ohid fun _ _ W hb => ?_
  have hc3:=HC0.out.later hb
  refine (copen1_any g t off A B key has n w.heap.size (w.heap.size + 1) (w.heap.size + 2) (nonceB n) a la ca ad c lc cc b W (HK.out.later hc3.bel) (nonceB_length n) hc3.p1 hc3.p2 hc3.p3 (HA.out.later hc3.bel) hAn hla hca hcam (HB.out.later hc3.bel) hBn hlc hcc hccm).mono ?_
  rintro e w' ⟨hb',⟨hs,a',c',rfl,own⟩ | ⟨hs,rfl⟩⟩
  ·exact ⟨_,0,rfl,hb',.inl ⟨hs,rfl,own_lower own hc3.bel.size⟩⟩
  ·exact ⟨_,3,rfl,hb',.inr ⟨hs,rfl⟩⟩
 ·rintro e w1 (⟨rfl,v1,rfl,hb1,own1⟩ | ⟨rfl,hl,rfl,rfl⟩ | ⟨rfl,hl,v1,er,W,hbW,hD,⟨h0,rfl,rfl⟩ | ⟨h0,rfl,rfl⟩⟩)
  ·have HW1:=ohid (HC0.out.bel.trans (hb1.mono HC0.out.bel.size))
   have HO1:=ohid (own_lower own1 HC0.out.bel.size)
   clear hb1 own1 HC0
   go_wp2_with fail
   go_ret2
   exact ⟨v1,rfl,But.below g HW1.out,HK.out.later HW1.out,by show World.ownsRow _ _ _ _ _ b.length _;rw [hbl];exact HO1.out⟩
  ·have HL:=ohid hl
   clear hl
   go_wp2_with fail
   go_ret2
   have e1:oErr key true n ad b = 5:=by simp [oErr,HL.out]
   have e2:oNum key true n ad b = n:=by simp [oNum,HL.out]
   have e3:oOut key true n ad b = []:=by simp [oOut,HL.out]
   rw [e1,e2,e3]
   exact ⟨_,rfl,But.below g HC0.out.bel,HK.out.later HC0.out.bel,⟨rfl,.inl ⟨rfl,rfl⟩⟩⟩
  ·have hs:sealedB key (nonceB n) ad b = false:=by
    rcases hD with ⟨_,h1,_⟩ | ⟨h1,_⟩
    ·exact absurd h1 h0
    ·exact h1
   have h3:er = 3:=by
    rcases hD with ⟨_,h1,_⟩ | ⟨_,h1⟩
    ·exact absurd h1 h0
    ·exact h1
   subst h3
   have HW:=ohid (HC0.out.bel.trans (hbW.mono HC0.out.bel.size))
   have HL:=ohid (And.intro hl hs)
   clear hl hs hD hbW HC0 h0
   go_wp2_with fail
   go_ret2
   have e1:oErr key true n ad b = 3:=by simp [oErr,HL.out.1,HL.out.2]
   have e2:oNum key true n ad b = n:=by simp [oNum,HL.out.1,HL.out.2]
   have e3:oOut key true n ad b = []:=by simp [oOut,HL.out.1,HL.out.2]
   rw [e1,e2,e3]
   exact ⟨_,rfl,But.below g HW.out,HK.out.later HW.out,⟨rfl,.inl ⟨rfl,rfl⟩⟩⟩
  ·subst h0
   have hs:sealedB key (nonceB n) ad b = true ∧ W.ownsRow w.heap.size 5 1 v1 (lc - 16) ((openB key (nonceB n) b).map bv):=by
    rcases hD with ⟨h1,_,h2⟩ | ⟨_,h1⟩
    ·exact ⟨h1,h2⟩
    ·cases h1
   obtain ⟨hs,own1⟩:=hs
   have HW:=ohid (HC0.out.bel.trans (hbW.mono HC0.out.bel.size))
   have HK2:=ohid ((HK.out.later HW.out).setN (n + 1))
   have HO2:Hid ((W.setCell ⟨g,off + 33,none⟩ (.int .u64 ((n + 1:Nat):Int))).ownsRow w.heap.size 5 1 v1 (lc - 16) ((openB key (nonceB n) b).map bv)):=own_but own1 (But.setCell W g _ _) (fun b' hb' e => by
    have:=(own_base own1 b' hb').1
    cases e
    omega)
   have HG2:Hid (w.grownBy (W.setCell ⟨g,off + 33,none⟩ (.int .u64 ((n + 1:Nat):Int))) (some g)):=World.grownBy.trans (But.below g HW.out) (But.setCell W g _ _)
   have HL:=ohid (And.intro hl hs)
   obtain ⟨X,hX⟩:∃ X,W.setCell ⟨g,off + 33,none⟩ (.int .u64 ((n + 1:Nat):Int)) = X:=⟨_,rfl⟩
   rw [hX] at HK2 HO2 HG2 ⊢
   clear hX hl own1 hbW HC0 HW hs hD
   go_wp2_with fail
   go_ret2
   have e1:oErr key true n ad b = 0:=by simp [oErr,HL.out.1,HL.out.2]
   have e2:oNum key true n ad b = n + 1:=by simp [oNum,HL.out.1,HL.out.2]
   have e3:oOut key true n ad b = openB key (nonceB n) b:=by simp [oOut,HL.out.1,HL.out.2]
   rw [e1,e2,e3,openB_length,hbl]
   exact ⟨v1,rfl,HG2.out,HK2.out,HO2.out⟩
set_option maxHeartbeats 2000000 in
theorem ckeyed_any (key:List UInt8) (w:World) (hk:key.length = 32) :
  Calls Tryz.prog 77 #[.agg (key.map bv).toArray] w fun e w' => e = .returned (.agg (CiV key true 0).toArray) ∧ Below w.heap.size w w':=by
 have HIK:Hid ((Tryz.prog.info? 24).map (·.size) = some (key.map bv).toArray.size):=info_size (n:=32) (by kernel_rfl) key hk
 obtain ⟨W0,hW0⟩:∃ W0,w.alloc (.cells (key.map bv).toArray 24) = W0:=⟨_,rfl⟩
 have hb0:Below w.heap.size w W0:=by rw [← hW0];exact (Below.refl _ _).alloc (Nat.le_refl _) _
 have hs0:W0.heap.size = w.heap.size + 1:=by rw [← hW0];simp
 have hA0:Arr W0 w.heap.size 24 key:=by rw [← hW0];exact Arr.new w _ _
 have hst:=ci_store W0 key true 0 hk ciZ rfl
 have hC1:=CiIs.new W0 key true 0 hk
 have hA1:Arr (W0.alloc (.cells ciZ 42)) w.heap.size 24 key:=hA0.later ((Below.refl _ _).alloc (Nat.le_refl _) _)
 have HB1:=ohid (hb0.alloc hb0.size (.cells (CiV key true 0).toArray 42))
 have HA1:=ohid hA1
 have HC1:=ohid hC1.row
 simp only [ciZ] at hst HA1
 rw [hs0] at hst HC1
 rw [← hW0] at hst HA1 HC1 HB1
 have HIC:=ohid (ci_info key true 0 hk)
 have hlen:(CiV key true 0).length = 34:=by rw [CiV_length,hk]
 clear hb0 hs0 hA0 hC1 hA1 hW0
 go_enter Tryz.func77,Tryz.ntmps77
 go_wp2_with (first | refine wpList_load_row rfl 24 _ rfl w.heap.size rfl 24 _ (0,0) _ HA1.out Tryz.underlying24 rfl HIK.out ?_ | refine wpList_ci2 key true hk rfl (.tmp 3) (.const (.bool true)) rfl rfl rfl ?_ | fail)
 (try simp only [Exit.inBlock,Exit.then])
 refine bodyPost_ret (results_cell_row rfl _ _ (w.heap.size + 1) 42 _ (0,0) _ rfl HC1.out Tryz.underlying42 rfl HIC.out) rfl ?_
 exact ⟨rfl,HB1.out⟩
end Go.Proofs.YthmkhdnnljdglaaGreatDoor
