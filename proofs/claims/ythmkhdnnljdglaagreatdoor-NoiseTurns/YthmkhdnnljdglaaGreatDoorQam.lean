import Derived.Test.YthmkhdnnljdglaaGreatDoorQab
import Derived.Test.YthmkhdnnljdglaaGreatDoorQak
import Derived.Test.YthmkhdnnljdglaaGreatDoorQal
import Derived.Test.YthmkhdnnljdglaaGreatDoorQah
namespace Go.Proofs.YthmkhdnnljdglaaGreatDoor
set_option linter.unusedVariables false
set_option maxRecDepth 100000
open Go.RowKit
def valL:List Nat → Nat
 | [] => 0
 | c :: r => c + 67108864 * valL r
theorem valL_append:∀ a b,valL (a ++ b) = valL a + 67108864 ^ a.length * valL b
 | [],b => by simp [valL]
 | c :: r,b => by simp only [List.cons_append,valL,valL_append r b,List.length_cons,Nat.pow_succ];rw [Nat.mul_add,← Nat.mul_assoc,Nat.mul_comm (67108864 ^ r.length) 67108864,Nat.add_assoc]
theorem valL_snoc (a:List Nat) (x:Nat):valL (a ++ [x]) = valL a + 67108864 ^ a.length * x:=by rw [valL_append];simp [valL]
theorem valL_take_succ (l:List Nat) (k:Nat) (h:k < l.length):valL (l.take (k + 1)) = valL (l.take k) + 67108864 ^ k * atD l k:=by
 rw [take_snoc l k h,valL_snoc,List.length_take,Nat.min_eq_left (by omega)]
theorem valL_set:∀ (l:List Nat) (i x:Nat),i < l.length → valL (l.set i (atD l i + x)) = valL l + 67108864 ^ i * x
 | [],i,x,h => by simp at h
 | c :: r,0,x,h => by simp [valL,atD];omega
 | c :: r,i + 1,x,h => by
  have ih:=valL_set r i x (by simpa using h)
  have e:atD (c :: r) (i + 1) = atD r i:=by simp [atD]
  rw [e]
  simp only [List.set_cons_succ,valL,ih]
  rw [Nat.mul_add,Nat.pow_succ,← Nat.mul_assoc,Nat.mul_comm 67108864 (67108864 ^ i),Nat.add_assoc]
theorem valL_lt:∀ l:List Nat,(∀ x ∈ l,x < 67108864) → valL l < 67108864 ^ l.length
 | [],_ => by simp [valL]
 | c :: r,h => by
  have h1:=h c (by simp)
  have h2:=valL_lt r (fun x hx => h x (by simp [hx]))
  simp only [valL,List.length_cons,Nat.pow_succ]
  omega
theorem five (l:List Nat) (h:l.length = 5):∃ a b c d e,l = [a,b,c,d,e]:=by
 match l,h with
 | [a,b,c,d,e],_ => exact ⟨a,b,c,d,e,rfl⟩
theorem atD_bound (l:List Nat) (B:Nat) (hB:0 < B) (h:∀ x ∈ l,x < B) (i:Nat):atD l i < B:=by
 rcases Nat.lt_or_ge i l.length with hi | hi
 ·exact h _ (atD_mem l i hi)
 ·rw [atD_out l i hi];exact hB
def addTo (a b:List Nat):Nat → List Nat
 | 0 => a
 | k + 1 => (addTo a b k).set k (atD (addTo a b k) k + atD b k)
theorem addTo_length (a b:List Nat):∀ k,(addTo a b k).length = a.length
 | 0 => rfl
 | k + 1 => by rw [addTo,List.length_set,addTo_length a b k]
theorem addTo_at (a b:List Nat):∀ k j,k ≤ j → atD (addTo a b k) j = atD a j
 | 0,j,_ => rfl
 | k + 1,j,h => by rw [addTo,atD_set_other _ _ _ _ (by omega),addTo_at a b k j (by omega)]
theorem addTo_val (a b:List Nat) (ha:a.length = 5) (hb:b.length = 5):valL (addTo a b 5) = valL a + valL b:=by
 obtain ⟨a0,a1,a2,a3,a4,rfl⟩:=five a ha
 obtain ⟨b0,b1,b2,b3,b4,rfl⟩:=five b hb
 show valL [a0 + b0,a1 + b1,a2 + b2,a3 + b3,a4 + b4] = _
 simp only [valL];omega
theorem addTo_lt (a b:List Nat) (ha:a.length = 5) (hb:b.length = 5) (h1:∀ x ∈ a,x < 67108864) (h2:∀ x ∈ b,x < 67108864):∀ x ∈ addTo a b 5,x < 134217728:=by
 obtain ⟨a0,a1,a2,a3,a4,rfl⟩:=five a ha
 obtain ⟨b0,b1,b2,b3,b4,rfl⟩:=five b hb
 show ∀ x ∈ [a0 + b0,a1 + b1,a2 + b2,a3 + b3,a4 + b4],x < 134217728
 simp at h1 h2 ⊢
 omega
def carTo (l:List Nat):Nat → List Nat × Nat
 | 0 => (l,0)
 | k + 1 => ((carTo l k).1.set k ((atD (carTo l k).1 k + (carTo l k).2) % 67108864),(atD (carTo l k).1 k + (carTo l k).2) / 67108864)
def carL (l:List Nat):List Nat:=(carTo l 5).1.set 0 (atD (carTo l 5).1 0 + 5 * (carTo l 5).2)
theorem carTo_length (l:List Nat):∀ k,(carTo l k).1.length = l.length
 | 0 => rfl
 | k + 1 => by rw [carTo,List.length_set,carTo_length l k]
theorem carTo_at (l:List Nat):∀ k j,k ≤ j → atD (carTo l k).1 j = atD l j
 | 0,j,_ => rfl
 | k + 1,j,h => by rw [carTo,atD_set_other _ _ _ _ (by omega),carTo_at l k j (by omega)]
theorem carTo_over (l:List Nat) (h:∀ x ∈ l,x < 4611686018427387904):∀ k,(carTo l k).2 < 137438953472
 | 0 => by simp [carTo]
 | k + 1 => by
  have h1:=carTo_over l h k
  have h2:atD (carTo l k).1 k < 4611686018427387904:=by rw [carTo_at l k k (Nat.le_refl _)];exact atD_bound l _ (by omega) h k
  rw [carTo];simp only;omega
theorem carTo_lt (l:List Nat) (h:∀ x ∈ l,x < 4611686018427387904):∀ k,∀ x ∈ (carTo l k).1,x < 4611686018427387904
 | 0 => h
 | k + 1 => by
  intro x hx
  rw [carTo] at hx
  rcases List.mem_or_eq_of_mem_set hx with h1 | h1
  ·exact carTo_lt l h k x h1
  ·rw [h1];omega
theorem carL_length (l:List Nat):(carL l).length = l.length:=by rw [carL,List.length_set,carTo_length]
theorem carL_five (a b c d e:Nat):∃ o0 o1 o2 o3 o4:Nat,o0 = a / 67108864 ∧ o1 = (b + o0) / 67108864 ∧ o2 = (c + o1) / 67108864 ∧ o3 = (d + o2) / 67108864 ∧ o4 = (e + o3) / 67108864 ∧
  carL [a,b,c,d,e] = [a % 67108864 + 5 * o4,(b + o0) % 67108864,(c + o1) % 67108864,(d + o2) % 67108864,(e + o3) % 67108864]:=by
 refine ⟨_,_,_,_,_,rfl,rfl,rfl,rfl,rfl,?_⟩
 simp [carL,carTo,atD]
theorem carL_small (l:List Nat) (h:l.length = 5) (hl:∀ x ∈ l,x < 4611686018427387904):∀ x ∈ carL l,x < 4611686018427387904:=by
 obtain ⟨a,b,c,d,e,rfl⟩:=five l h
 obtain ⟨o0,o1,o2,o3,o4,h0,h1,h2,h3,h4,he⟩:=carL_five a b c d e
 rw [he]
 simp at hl ⊢
 omega
def carN (l:List Nat):Nat → List Nat
 | 0 => l
 | t + 1 => carL (carN l t)
theorem carN_length (l:List Nat):∀ t,(carN l t).length = l.length
 | 0 => rfl
 | t + 1 => by rw [carN,carL_length,carN_length l t]
theorem carN_small (l:List Nat) (h:l.length = 5) (hl:∀ x ∈ l,x < 4611686018427387904):∀ t,∀ x ∈ carN l t,x < 4611686018427387904
 | 0 => hl
 | t + 1 => carL_small _ (by rw [carN_length,h]) (carN_small l h hl t)
theorem carL_val (l:List Nat) (h:l.length = 5):∃ q,valL (carL l) + P1305 * q = valL l:=by
 obtain ⟨a,b,c,d,e,rfl⟩:=five l h
 obtain ⟨o0,o1,o2,o3,o4,h0,h1,h2,h3,h4,he⟩:=carL_five a b c d e
 refine ⟨o4,?_⟩
 rw [he]
 simp only [valL,P1305]
 omega
theorem carL_lt (l:List Nat) (h:l.length = 5) (hl:∀ x ∈ l,x < 4611686018427387904):∀ x ∈ carL (carL (carL l)),x < 67108864:=by
 obtain ⟨a,b,c,d,e,rfl⟩:=five l h
 obtain ⟨o0,o1,o2,o3,o4,h0,h1,h2,h3,h4,he⟩:=carL_five a b c d e
 rw [he]
 simp at hl
 obtain ⟨l0,l1,l2,l3,l4⟩:=hl
 have b4:o4 < 137438953472:=by omega
 have m1:(b + o0) % 67108864 < 67108864:=Nat.mod_lt _ (by decide)
 have m2:(c + o1) % 67108864 < 67108864:=Nat.mod_lt _ (by decide)
 have m3:(d + o2) % 67108864 < 67108864:=Nat.mod_lt _ (by decide)
 have m4:(e + o3) % 67108864 < 67108864:=Nat.mod_lt _ (by decide)
 have m0:a % 67108864 + 5 * o4 < 700000000000:=by omega
 generalize (b + o0) % 67108864 = b' at m1 ⊢
 generalize (c + o1) % 67108864 = c' at m2 ⊢
 generalize (d + o2) % 67108864 = d' at m3 ⊢
 generalize (e + o3) % 67108864 = e' at m4 ⊢
 generalize a % 67108864 + 5 * o4 = a' at m0 ⊢
 clear h0 h1 h2 h3 h4 he b4 l0 l1 l2 l3 l4
 obtain ⟨p0,p1,p2,p3,p4,h0,h1,h2,h3,h4,he⟩:=carL_five a' b' c' d' e'
 rw [he]
 have q0:p0 ≤ 10431:=by omega
 have q1:p1 ≤ 1:=by omega
 have q2:p2 ≤ 1:=by omega
 have q3:p3 ≤ 1:=by omega
 have q4:p4 ≤ 1:=by omega
 by_cases hp4:p4 = 0
 ·subst hp4
  obtain ⟨r0,r1,r2,r3,r4,g0,g1,g2,g3,g4,ge⟩:=carL_five (a' % 67108864 + 5 * 0) ((b' + p0) % 67108864) ((c' + p1) % 67108864) ((d' + p2) % 67108864) ((e' + p3) % 67108864)
  rw [ge]
  simp
  omega
 ·have hp1:p4 = 1:=by omega
  subst hp1
  have hp3:p3 = 1:=by omega
  have hp2:p2 = 1:=by omega
  have hp1:p1 = 1:=by omega
  obtain ⟨r0,r1,r2,r3,r4,g0,g1,g2,g3,g4,ge⟩:=carL_five (a' % 67108864 + 5 * 1) ((b' + p0) % 67108864) ((c' + p1) % 67108864) ((d' + p2) % 67108864) ((e' + p3) % 67108864)
  rw [ge]
  have s0:r0 ≤ 1:=by omega
  have s1:r1 = 0:=by omega
  have s2:r2 = 0:=by omega
  have s3:r3 = 0:=by omega
  have s4:r4 = 0:=by omega
  simp
  omega
def mulRow (o:List Nat) (x:Nat) (r:List Nat) (i:Nat):Nat → List Nat
 | 0 => o
 | j + 1 => if i + j < 5 then (mulRow o x r i j).set (i + j) (atD (mulRow o x r i j) (i + j) + x * atD r j)
   else (mulRow o x r i j).set (i + j - 5) (atD (mulRow o x r i j) (i + j - 5) + 5 * x * atD r j)
def mulTo (n r:List Nat):Nat → List Nat
 | 0 => [0,0,0,0,0]
 | i + 1 => mulRow (mulTo n r i) (atD n i) r i 5
theorem mulRow_length (o:List Nat) (x:Nat) (r:List Nat) (i:Nat):∀ j,(mulRow o x r i j).length = o.length
 | 0 => rfl
 | j + 1 => by
  rw [mulRow]
  split <;> rw [List.length_set,mulRow_length o x r i j]
theorem mulTo_length (n r:List Nat):∀ i,(mulTo n r i).length = 5
 | 0 => rfl
 | i + 1 => by rw [mulTo,mulRow_length,mulTo_length n r i]
theorem set_bound (l:List Nat) (i x B:Nat) (h:∀ y ∈ l,y ≤ B) (hx:x ≤ B):∀ y ∈ l.set i x,y ≤ B:=by
 intro y hy
 rcases List.mem_or_eq_of_mem_set hy with h1 | h1
 ·exact h y h1
 ·rw [h1];exact hx
theorem atD_le (l:List Nat) (B:Nat) (h:∀ x ∈ l,x ≤ B) (i:Nat):atD l i ≤ B:=by
 rcases Nat.lt_or_ge i l.length with hi | hi
 ·exact h _ (atD_mem l i hi)
 ·rw [atD_out l i hi];omega
theorem mul_small (x y:Nat) (hx:x < 134217728) (hy:y < 67108864):x * y ≤ 9007199254740992:=by
 have:=Nat.mul_le_mul (Nat.le_of_lt hx) (Nat.le_of_lt hy)
 omega
theorem mulRow_le (o:List Nat) (x:Nat) (r:List Nat) (i B:Nat) (hx:x < 134217728) (hr:∀ y ∈ r,y < 67108864) (ho:∀ y ∈ o,y ≤ B):∀ j,∀ y ∈ mulRow o x r i j,y ≤ B + j * 45035996273704960
 | 0 => by simpa [mulRow] using ho
 | j + 1 => by
  have ih:=mulRow_le o x r i B hx hr ho j
  have ih':∀ y ∈ mulRow o x r i j,y ≤ B + (j + 1) * 45035996273704960:=fun y hy => Nat.le_trans (ih y hy) (Nat.add_le_add_left (Nat.mul_le_mul_right _ (Nat.le_succ j)) B)
  have hm:=mul_small x (atD r j) hx (atD_bound r _ (by omega) hr j)
  have hm5:5 * x * atD r j = 5 * (x * atD r j):=Nat.mul_assoc _ _ _
  rw [mulRow]
  split
  ·refine set_bound _ _ _ _ ih' ?_
   have:=atD_le _ _ ih (i + j)
   rw [Nat.succ_mul];omega
  ·refine set_bound _ _ _ _ ih' ?_
   have:=atD_le _ _ ih (i + j - 5)
   rw [hm5]
   rw [Nat.succ_mul];omega
theorem mulTo_le (n r:List Nat) (hn:∀ y ∈ n,y < 134217728) (hr:∀ y ∈ r,y < 67108864):∀ i,∀ y ∈ mulTo n r i,y ≤ i * 225179981368524800
 | 0 => by simp [mulTo]
 | i + 1 => by
  have ih:=mulTo_le n r hn hr i
  have:=mulRow_le (mulTo n r i) (atD n i) r i _ (atD_bound n _ (by omega) hn i) hr ih 5
  intro y hy
  rw [mulTo] at hy
  have:=this y hy
  omega
theorem pow_wrap (i j:Nat) (h:5 ≤ i + j):67108864 ^ i * 67108864 ^ j = 67108864 ^ (i + j - 5) * (P1305 + 5):=by
 rw [← Nat.pow_add,show i + j = (i + j - 5) + 5 by omega,Nat.pow_add]
 rfl
theorem mulRow_val (o:List Nat) (x:Nat) (r:List Nat) (i:Nat) (ho:o.length = 5) (hi:i < 5) (hr:r.length = 5):∀ j,j ≤ 5 → ∃ q,valL (mulRow o x r i j) + P1305 * q = valL o + 67108864 ^ i * x * valL (r.take j)
 | 0,_ => ⟨0,by simp [mulRow,valL]⟩
 | j + 1,hj => by
  obtain ⟨q,hq⟩:=mulRow_val o x r i ho hi hr j (by omega)
  have hlen:(mulRow o x r i j).length = 5:=by rw [mulRow_length,ho]
  rw [valL_take_succ r j (by omega),mulRow,Nat.mul_add,← Nat.add_assoc,← hq]
  split
  ·rename_i hlt
   refine ⟨q,?_⟩
   rw [valL_set _ _ _ (by omega),Nat.pow_add]
   have e:67108864 ^ i * 67108864 ^ j * (x * atD r j) = 67108864 ^ i * x * (67108864 ^ j * atD r j):=by
    rw [Nat.mul_assoc,Nat.mul_assoc,Nat.mul_left_comm (67108864 ^ j) x (atD r j)]
   omega
  ·rename_i hge
   refine ⟨q + 67108864 ^ (i + j - 5) * (x * atD r j),?_⟩
   rw [valL_set _ _ _ (by omega)]
   have e:67108864 ^ i * x * (67108864 ^ j * atD r j) = 67108864 ^ (i + j - 5) * (x * atD r j) * P1305 + 5 * (67108864 ^ (i + j - 5) * (x * atD r j)):=by
    have e1:67108864 ^ i * x * (67108864 ^ j * atD r j) = 67108864 ^ i * 67108864 ^ j * (x * atD r j):=by
     rw [Nat.mul_assoc,Nat.mul_assoc,Nat.mul_left_comm (67108864 ^ j) x (atD r j)]
    rw [e1,pow_wrap i j (by omega)]
    generalize 67108864 ^ (i + j - 5) = A
    generalize x * atD r j = B
    generalize P1305 = C
    rw [Nat.mul_assoc,Nat.mul_comm (C + 5) B,← Nat.mul_assoc,Nat.mul_add,Nat.mul_comm (A * B) 5]
   have e2:67108864 ^ (i + j - 5) * (5 * x * atD r j) = 5 * (67108864 ^ (i + j - 5) * (x * atD r j)):=by
    rw [Nat.mul_assoc 5,Nat.mul_left_comm]
   rw [e,e2,Nat.mul_add,Nat.mul_comm P1305 (67108864 ^ (i + j - 5) * (x * atD r j))]
   omega
theorem mulTo_val (n r:List Nat) (hn:n.length = 5) (hr:r.length = 5):∀ i,i ≤ 5 → ∃ q,valL (mulTo n r i) + P1305 * q = valL (n.take i) * valL r
 | 0,_ => ⟨0,by simp [mulTo,valL]⟩
 | i + 1,hi => by
  obtain ⟨q,hq⟩:=mulTo_val n r hn hr i (by omega)
  obtain ⟨q2,hq2⟩:=mulRow_val (mulTo n r i) (atD n i) r i (mulTo_length n r i) (by omega) hr 5 (by omega)
  have e5:r.take 5 = r:=List.take_of_length_le (by omega)
  rw [e5] at hq2
  refine ⟨q + q2,?_⟩
  rw [mulTo,valL_take_succ n i (by omega),Nat.add_mul,← hq,Nat.mul_add]
  omega
def timL (n r:List Nat):List Nat:=carL (carL (carL (mulTo n r 5)))
theorem timL_length (n r:List Nat):(timL n r).length = 5:=by simp only [timL,carL_length,mulTo_length]
theorem timL_lt (n r:List Nat) (hn:∀ y ∈ n,y < 134217728) (hr:∀ y ∈ r,y < 67108864):∀ x ∈ timL n r,x < 67108864:=
 carL_lt _ (mulTo_length n r 5) (fun x hx => by have:=mulTo_le n r hn hr 5 x hx;omega)
theorem timL_val (n r:List Nat) (hn:n.length = 5) (hr:r.length = 5):valL (timL n r) % P1305 = valL n * valL r % P1305:=by
 obtain ⟨q,hq⟩:=mulTo_val n r hn hr 5 (by omega)
 obtain ⟨q1,h1⟩:=carL_val (mulTo n r 5) (mulTo_length n r 5)
 obtain ⟨q2,h2⟩:=carL_val (carL (mulTo n r 5)) (by rw [carL_length,mulTo_length])
 obtain ⟨q3,h3⟩:=carL_val (carL (carL (mulTo n r 5))) (by rw [carL_length,carL_length,mulTo_length])
 rw [List.take_of_length_le (by omega)] at hq
 have e:valL n * valL r = valL (timL n r) + P1305 * (q3 + q2 + q1 + q):=by
  rw [← hq,← h1,← h2,← h3]
  simp only [timL,Nat.mul_add]
  omega
 rw [e,Nat.add_mul_mod_self_left]
def limbs (N:Nat):List Nat:=(List.range 5).map fun i => N / 67108864 ^ i % 67108864
theorem limbs_length (N:Nat):(limbs N).length = 5:=by simp [limbs]
theorem limbs_lt (N:Nat):∀ x ∈ limbs N,x < 67108864:=by
 intro x hx
 simp only [limbs,List.mem_map] at hx
 obtain ⟨i,_,rfl⟩:=hx
 exact Nat.mod_lt _ (by decide)
theorem limbs_val (N:Nat) (h:N < 2 ^ 130):valL (limbs N) = N:=by
 have e:limbs N = [N % 67108864,N / 67108864 % 67108864,N / 4503599627370496 % 67108864,N / 302231454903657293676544 % 67108864,N / 20282409603651670423947251286016 % 67108864]:=by
  simp [limbs,List.range_succ]
 rw [e]
 simp only [valL]
 omega
def nv (n:Nat):Value:=.int .u64 (n:Int)
def Num (w:World) (g:Nat) (l:List Nat):Prop:=w.heap[g]? = some (.cells (l.map nv).toArray 181 (0,0))
theorem Num.set {w:World} {g:Nat} {l:List Nat} (h:Num w g l) (i:Nat) (x:Nat):Num (w.setCell ⟨g,i,none⟩ (nv x)) g (l.set i x):=by
 have:=heap_setCell_same w g i _ _ (nv x) h
 unfold Num
 rw [this,List.map_set]
 simp
theorem Num.other {w:World} {g g':Nat} {l:List Nat} (h:Num w g l) (hne:g ≠ g') (i:Nat) (v:Value):Num (w.setCell ⟨g',i,none⟩ v) g l:=by
 unfold Num
 rw [heap_setCell_other w ⟨g',i,none⟩ g v hne]
 exact h
theorem Num.drew {w:World} {g:Nat} {l:List Nat} (h:Num w g l):Num w.drew g l:=h
theorem Num.word {w:World} {g:Nat} {l:List Nat} (h:Num w g l) (i:Nat) (hi:i < l.length) :
  w.cell? ⟨g,i,none⟩ = some (.int .u64 (atD l i:Int)) ∧ w.frozen? ⟨g,i,none⟩ = false:=by
 refine ⟨?_,frozen_of_row w g i _ _ h⟩
 rw [cell_of_row w g i _ _ (0,0) h,atD_get l i hi]
 simp [hi,nv]
theorem Num.lt {w:World} {g:Nat} {l:List Nat} (h:Num w g l):g < w.heap.size:=(Array.getElem?_eq_some_iff.1 h).1
theorem Num.later {w w':World} {g:Nat} {l:List Nat} (h:Num w g l) (hb:Below w.heap.size w w'):Num w' g l:=by
 unfold Num
 rw [hb.block g h.lt]
 exact h
theorem nv_oneCell (l:List Nat):∀ u ∈ l.map nv,u.oneCell' = true:=by
 intro u hu
 simp only [List.mem_map] at hu
 obtain ⟨c,_,rfl⟩:=hu
 rfl
theorem num_info (l:List Nat) (hl:l.length = 5):(Tryz.prog.info? 181).map (·.size) = some (l.map nv).toArray.size:=by
 have e1:(Tryz.prog.info? 181).map (·.size) = some 5:=by kernel_rfl
 rw [e1];simp [hl]
structure NB (w:World) (g r:Nat) (l:List Nat) (W:World):Prop where
 now:Num W g l
 res:Num W r [0,0,0,0,0]
 ne:g ≠ r
 bg:w.heap.size ≤ g
 br:w.heap.size ≤ r
 bel:Below w.heap.size w W
theorem NB.set {w W:World} {g r:Nat} {l:List Nat} (h:NB w g r l W) (i x:Nat):NB w g r (l.set i x) (W.setCell ⟨g,i,none⟩ (nv x)):=by
 have hg:=h.bg
 exact ⟨h.now.set i x,h.res.other (Ne.symm h.ne) i _,h.ne,h.bg,h.br,h.bel.setCell (p:=⟨g,i,none⟩) (by show _ ≤ g;omega) _⟩
theorem NB.new1 (w:World) (l:List Nat):NB w w.heap.size (w.heap.size + 1) l ((w.alloc (.cells (l.map nv).toArray 181)).alloc (.cells #[.int .u64 0,.int .u64 0,.int .u64 0,.int .u64 0,.int .u64 0] 181)):=by
 refine ⟨?_,?_,by omega,by omega,by omega,?_⟩
 ·unfold Num
  rw [Below.heap_alloc _ _ _ (by simp)]
  exact heap_alloc_new w _
 ·have:=heap_alloc_new (w.alloc (.cells (l.map nv).toArray 181)) (.cells #[.int .u64 0,.int .u64 0,.int .u64 0,.int .u64 0,.int .u64 0] 181)
  rw [World.size_alloc] at this
  exact this
 ·exact ((Below.refl _ _).alloc (Nat.le_refl _) _).alloc (by simp) _
theorem and26 (n:Nat) (h:n < 18446744073709551616):bits .and .u64 (n:Int) 67108863 = ((n % 67108864:Nat):Int):=by
 have e:(BitVec.ofInt 64 (n:Int) &&& BitVec.ofInt 64 67108863).toNat = n % 67108864:=by
  rw [BitVec.toNat_and,BitVec.toNat_ofInt]
  have h7:(BitVec.ofInt 64 67108863).toNat = 2 ^ 26 - 1:=by decide
  rw [h7,Nat.and_two_pow_sub_one_eq_mod]
  omega
 show IntKind.u64.wrap ((BitVec.ofInt 64 (n:Int) &&& BitVec.ofInt 64 67108863).toNat:Int) = _
 rw [e,IntKind.wrap_u64]
 omega
set_option maxHeartbeats 400000 in
set_option maxRecDepth 100000 in
theorem carry_any (l:List Nat) (w:World) (hl:l.length = 5) (hb:∀ x ∈ l,x < 4611686018427387904) :
  Calls Tryz.prog 163 #[.agg (l.map nv).toArray] w fun e w' => e = .returned (.agg ((carL l).map nv).toArray) ∧ Below w.heap.size w w':=by
 go_enter Tryz.func163,Tryz.ntmps163
 go_wp2
 refine from_world (P:=Code.wp Tryz.prog _ _ _) (R:=fun W => Hid (NB w w.heap.size (w.heap.size + 1) l W)) _ (NB.new1 w l) ?_
 intro W0 hN0
 generalize hg:w.heap.size = g at hN0 ⊢
 generalize hr:g + 1 = r at hN0 ⊢
 go_loopw [3,5] (fun o i wr => ∃ k x:Nat,k ≤ 5 ∧ i = .int .i64 k ∧ o = .int .u64 (x:Int) ∧ Hid ((carTo l k).2 = x) ∧ Hid (NB w g r (carTo l k).1 wr)) (fun _ i _ => 5 - (intOf i).toNat)
 case atStart => exact ⟨0,0,by omega,rfl,rfl,rfl,hN0⟩
 case round =>
  clear hN0
  obtain ⟨k,x,hk,rfl,rfl,hx,hN⟩:=hrel
  by_cases hlt:k < 5
  ·have hki:(k:Int) < 5:=by omega
   obtain ⟨a,ha⟩:∃ a,atD (carTo l k).1 k = a:=⟨_,rfl⟩
   obtain ⟨cc,fr⟩:=hN.out.now.word k (by rw [carTo_length];omega)
   rw [ha] at cc
   have hN1:=(hN.out.set k (a + x)).set k ((a + x) % 67108864)
   rw [List.set_set] at hN1
   have HN1:Hid (NB w g r (carTo l (k + 1)).1 ((wr.setCell ⟨g,k,none⟩ (.int .u64 ((a + x:Nat):Int))).setCell ⟨g,k,none⟩ (.int .u64 (((a + x) % 67108864:Nat):Int)))):=by rw [carTo,ha,hx.out];exact hN1
   have hov:=carTo_over l hb k
   rw [hx.out] at hov
   have hab:a < 4611686018427387904:=by rw [← ha,carTo_at l k k (Nat.le_refl _)];exact atD_bound l _ (by omega) hb k
   have e1:IntKind.u64.wrap ((a:Int) + (x:Int)) = ((a + x:Nat):Int):=by rw [IntKind.wrap_u64];omega
   have E1:Hid (IntKind.u64.wrap ((a:Int) + (x:Int)) = ((a + x:Nat):Int)):=e1
   have E2:Hid (bits .and .u64 ((a + x:Nat):Int) 67108863 = (((a + x) % 67108864:Nat):Int)):=and26 (a + x) (by omega)
   have E3:Hid ((carTo l (k + 1)).2 = (a + x) / 67108864):=by rw [carTo,ha,hx.out];rfl
   clear hN hN1 e1 hx ha hov hab
   go_wp2
   rw [E1.out,E2.out]
   exact ⟨⟨k + 1,(a + x) / 67108864,by omega,by go_num,by congr 1 <;> omega,E3,HN1⟩,by simp [intOf];omega⟩
  ·have ek:k = 5:=by omega
   subst ek
   have hkr:¬ ((5:Nat):Int) < 5:=by omega
   obtain ⟨a,ha⟩:∃ a,atD (carTo l 5).1 0 = a:=⟨_,rfl⟩
   obtain ⟨cc,fr⟩:=hN.out.now.word 0 (by rw [carTo_length];omega)
   rw [ha] at cc
   have hN1:=hN.out.set 0 (a + 5 * x)
   have hov:=carTo_over l hb 5
   rw [hx.out] at hov
   have hab:a < 4611686018427387904:=by rw [← ha];exact atD_bound _ _ (by omega) (carTo_lt l hb 5) 0
   have e1:IntKind.u64.wrap ((a:Int) + 5 * (x:Int)) = ((a + 5 * x:Nat):Int):=by rw [IntKind.wrap_u64];omega
   obtain ⟨W1,hW1⟩:∃ W1,wr.setCell ⟨g,0,none⟩ (.int .u64 (IntKind.u64.wrap ((a:Int) + 5 * (x:Int)))) = W1:=⟨_,rfl⟩
   have hN2:NB w g r (carL l) W1:=by rw [carL,ha,hx.out,← hW1,e1];exact hN1
   obtain ⟨m,hm⟩:∃ m,carL l = m:=⟨_,rfl⟩
   have hml:m.length = 5:=by rw [← hm,carL_length,hl]
   rw [hm] at hN2
   have HM:Hid (carL l = m):=hm
   have HN:Hid (NB w g r m W1):=hN2
   have HW1:Hid (wr.setCell ⟨g,0,none⟩ (.int .u64 (IntKind.u64.wrap ((a:Int) + 5 * (x:Int)))) = W1):=hW1
   have IB:Hid ((Tryz.prog.info? 181).map (·.size) = some (m.map nv).toArray.size):=num_info m hml
   have hst:=store_row W1 r _ _ (m.map nv) HN.out.res (by simp [hml]) (nv_oneCell m)
   have hrow:=setRow_heap W1 r _ (m.map nv).toArray _ _ HN.out.res
   have HBel:Hid (Below w.heap.size w (W1.setRow r (m.map nv).toArray)):=below_setRow HN.out.bel HN.out.br _
   obtain ⟨W4,hW4⟩:∃ W4,W1.setRow r (m.map nv).toArray = W4:=⟨_,rfl⟩
   rw [hW4] at hst hrow HBel
   have HRow:Hid (W4.heap[r]? = some (.cells (m.map nv).toArray 181 (0,0))):=hrow
   clear hN hN1 hN2 hW1 hrow hW4 hx ha hm hab e1 hb
   go_wp2_with (first | (rw [HW1.out];refine wpList_load_row rfl 181 _ rfl g rfl 181 _ (0,0) _ HN.out.now Tryz.underlying181 rfl IB.out ?_))
   (try simp only [Exit.inBlock,Exit.then])
   refine bodyPost_ret (results_cell_row rfl _ _ r 181 _ (0,0) _ rfl HRow.out Tryz.underlying181 rfl IB.out) rfl ?_
   exact ⟨by rw [HM.out],by rw [← hg];exact HBel.out⟩
structure N3 (w:World) (g h r:Nat) (l m:List Nat) (W:World):Prop where
 now:Num W g l
 oth:Num W h m
 res:Num W r [0,0,0,0,0]
 nh:h ≠ g
 nr:r ≠ g
 bg:w.heap.size ≤ g
 br:w.heap.size ≤ r
 bel:Below w.heap.size w W
theorem N3.set {w W:World} {g h r:Nat} {l m:List Nat} (t:N3 w g h r l m W) (i x:Nat):N3 w g h r (l.set i x) m (W.setCell ⟨g,i,none⟩ (nv x)):=by
 have hg:=t.bg
 exact ⟨t.now.set i x,t.oth.other t.nh i _,t.res.other t.nr i _,t.nh,t.nr,t.bg,t.br,t.bel.setCell (p:=⟨g,i,none⟩) (by show _ ≤ g;omega) _⟩
theorem N3.drew {w W:World} {g h r:Nat} {l m:List Nat} (t:N3 w g h r l m W):N3 w g h r l m W.drew:=
 ⟨t.now,t.oth,t.res,t.nh,t.nr,t.bg,t.br,t.bel.drew⟩
theorem num_new2 (w:World) (l m:List Nat):Num ((w.alloc (.cells (l.map nv).toArray 181)).alloc (.cells (m.map nv).toArray 181)) (w.heap.size + 1) m ∧ Num ((w.alloc (.cells (l.map nv).toArray 181)).alloc (.cells (m.map nv).toArray 181)) w.heap.size l:=by
 constructor
 ·have:=heap_alloc_new (w.alloc (.cells (l.map nv).toArray 181)) (.cells (m.map nv).toArray 181)
  rw [World.size_alloc] at this
  exact this
 ·unfold Num
  rw [Below.heap_alloc _ _ _ (by simp)]
  exact heap_alloc_new w _
theorem Num.alloc {w:World} {g:Nat} {l:List Nat} (h:Num w g l) (o:Obj):Num (w.alloc o) g l:=by
 unfold Num
 rw [Below.heap_alloc _ _ _ h.lt]
 exact h
theorem N3.new (w:World) (l m:List Nat):N3 w w.heap.size (w.heap.size + 1) (w.heap.size + 1 + 1) l m (((w.alloc (.cells (l.map nv).toArray 181)).alloc (.cells (m.map nv).toArray 181)).alloc (.cells #[.int .u64 0,.int .u64 0,.int .u64 0,.int .u64 0,.int .u64 0] 181)):=by
 obtain ⟨h1,h2⟩:=num_new2 w l m
 refine ⟨h2.alloc _,h1.alloc _,?_,by omega,by omega,by omega,by omega,?_⟩
 ·have:=heap_alloc_new ((w.alloc (.cells (l.map nv).toArray 181)).alloc (.cells (m.map nv).toArray 181)) (.cells #[.int .u64 0,.int .u64 0,.int .u64 0,.int .u64 0,.int .u64 0] 181)
  rw [World.size_alloc,World.size_alloc] at this
  exact this
 ·exact (((Below.refl _ _).alloc (Nat.le_refl _) _).alloc (by simp) _).alloc (by simp <;> omega) _
set_option maxHeartbeats 400000 in
set_option maxRecDepth 100000 in
theorem add_any (l m:List Nat) (w:World) (hl:l.length = 5) (hm:m.length = 5) (hb:∀ x ∈ l,x < 4611686018427387904) (hc:∀ x ∈ m,x < 4611686018427387904) :
  Calls Tryz.prog 145 #[.agg (l.map nv).toArray,.agg (m.map nv).toArray] w fun e w' => e = .returned (.agg ((addTo l m 5).map nv).toArray) ∧ Below w.heap.size w w':=by
 go_enter Tryz.func145,Tryz.ntmps145
 go_wp2
 refine from_world (P:=Code.wp Tryz.prog _ _ _) (R:=fun W => Hid (N3 w w.heap.size (w.heap.size + 1) (w.heap.size + 1 + 1) l m W)) _ (N3.new w l m) ?_
 intro W0 hN0
 generalize hg:w.heap.size = g at hN0 ⊢
 generalize hh:g + 1 = h at hN0 ⊢
 generalize hr:h + 1 = r at hN0 ⊢
 go_loopw [6] (fun i wr => ∃ k:Nat,k ≤ 5 ∧ i = .int .i64 k ∧ Hid (N3 w g h r (addTo l m k) m wr)) (fun i _ => 5 - (intOf i).toNat)
 case atStart => exact ⟨0,by omega,rfl,hN0⟩
 case round =>
  clear hN0
  obtain ⟨k,hk,rfl,hN⟩:=hrel
  by_cases hlt:k < 5
  ·have hki:(k:Int) < 5:=by omega
   obtain ⟨a,ha⟩:∃ a,atD (addTo l m k) k = a:=⟨_,rfl⟩
   obtain ⟨b,hb'⟩:∃ b,atD m k = b:=⟨_,rfl⟩
   obtain ⟨W1,hW1⟩:∃ W1,wr.drew = W1:=⟨_,rfl⟩
   have hN1:=hN.out.drew
   rw [hW1] at hN1
   obtain ⟨c1,f1⟩:=hN1.now.word k (by rw [addTo_length];omega)
   obtain ⟨c2,f2⟩:=hN1.oth.word k (by omega)
   rw [ha] at c1
   rw [hb'] at c2
   have hab:a < 4611686018427387904:=by rw [← ha,addTo_at l m k k (Nat.le_refl _)];exact atD_bound l _ (by omega) hb k
   have hbb:b < 4611686018427387904:=by rw [← hb'];exact atD_bound m _ (by omega) hc k
   obtain ⟨W2,hW2⟩:∃ W2,W1.setCell ⟨g,k,none⟩ (.int .u64 ((a:Int) + (b:Int))) = W2:=⟨_,rfl⟩
   have HN2:Hid (N3 w g h r (addTo l m (k + 1)) m W2):=by rw [addTo,ha,hb',← hW2];exact hN1.set k (a + b)
   have E1:Hid (IntKind.u64.wrap ((a:Int) + (b:Int)) = (a:Int) + (b:Int)):=by show _ = _;rw [IntKind.wrap_u64];omega
   have HW1:Hid (wr.drew = W1):=hW1
   have HW2:Hid (W1.setCell ⟨g,k,none⟩ (.int .u64 ((a:Int) + (b:Int))) = W2):=hW2
   clear hN hN1 hW1 hW2 ha hb'
   go_wp2
   refine wp_region_sched' (G:=Stays) (by kernel_rfl) Stays.refl Stays.trans (by kernel_rfl) [(0,true),(1,true),(2,true),(3,true),(4,true),(5,true),(6,true),(7,true),(8,false)] rfl (by kernel_rfl) ?_
   intro KK hKK
   rw [HW1.out]
   iterate 8 (refine sched_take rfl (by rfl) (v:=?_) ?_ ?_;rotate_left;(rintro w' rfl;go_simp;with_reducible rfl);go_simp)
   refine sched_store rfl (by rfl) (w':=W2) (by rw [← HW2.out];go_simp;rw [E1.out]) (by kernel_rfl) ?_
   go_simp
   refine sched_done hKK ?_
   go_wp2
   exact ⟨⟨k + 1,by omega,by go_num,HN2⟩,by simp [intOf];omega⟩
  ·have ek:k = 5:=by omega
   subst ek
   have hkr:¬ ((5:Nat):Int) < 5:=by omega
   obtain ⟨s,hs⟩:∃ s,addTo l m 5 = s:=⟨_,rfl⟩
   have hsl:s.length = 5:=by rw [← hs,addTo_length,hl]
   rw [hs] at hN
   have HS:Hid (addTo l m 5 = s):=hs
   have IB:Hid ((Tryz.prog.info? 181).map (·.size) = some (s.map nv).toArray.size):=num_info s hsl
   have hst:=store_row wr r _ _ (s.map nv) hN.out.res (by simp [hsl]) (nv_oneCell s)
   have hrow:=setRow_heap wr r _ (s.map nv).toArray _ _ hN.out.res
   have HBel:Hid (Below w.heap.size w (wr.setRow r (s.map nv).toArray)):=below_setRow hN.out.bel hN.out.br _
   obtain ⟨W4,hW4⟩:∃ W4,wr.setRow r (s.map nv).toArray = W4:=⟨_,rfl⟩
   rw [hW4] at hst hrow HBel
   have HRow:Hid (W4.heap[r]? = some (.cells (s.map nv).toArray 181 (0,0))):=hrow
   clear hrow hW4 hs hb hc
   go_wp2_with (first | (refine wpList_load_row rfl 181 _ rfl g rfl 181 _ (0,0) _ hN.out.now Tryz.underlying181 rfl IB.out ?_))
   (try simp only [Exit.inBlock,Exit.then])
   refine bodyPost_ret (results_cell_row rfl _ _ r 181 _ (0,0) _ rfl HRow.out Tryz.underlying181 rfl IB.out) rfl ?_
   exact ⟨by rw [HS.out],by rw [← hg];exact HBel.out⟩
theorem N3.new4 (w:World) (n l:List Nat):N3 w (w.heap.size + 1 + 1 + 1) (w.heap.size + 1) (w.heap.size + 1 + 1) [0,0,0,0,0] l ((((w.alloc (.cells (n.map nv).toArray 181)).alloc (.cells (l.map nv).toArray 181)).alloc (.cells #[.int .u64 0,.int .u64 0,.int .u64 0,.int .u64 0,.int .u64 0] 181)).alloc (.cells #[.int .u64 0,.int .u64 0,.int .u64 0,.int .u64 0,.int .u64 0] 181)):=by
 have h0:=N3.new w n l
 refine ⟨?_,h0.oth.alloc _,h0.res.alloc _,by omega,by omega,by omega,by omega,h0.bel.alloc (by simp <;> omega) _⟩
 have:=heap_alloc_new (((w.alloc (.cells (n.map nv).toArray 181)).alloc (.cells (l.map nv).toArray 181)).alloc (.cells #[.int .u64 0,.int .u64 0,.int .u64 0,.int .u64 0,.int .u64 0] 181)) (.cells #[.int .u64 0,.int .u64 0,.int .u64 0,.int .u64 0,.int .u64 0] 181)
 rw [World.size_alloc,World.size_alloc,World.size_alloc] at this
 exact this
theorem N3.later {w W W':World} {g h r:Nat} {l m:List Nat} (t:N3 w g h r l m W) (hb:Below W.heap.size W W'):N3 w g h r l m W':=
 ⟨t.now.later hb,t.oth.later hb,t.res.later hb,t.nh,t.nr,t.bg,t.br,t.bel.trans (hb.mono t.bel.size)⟩
theorem N3.put {w W:World} {g h r:Nat} {l m:List Nat} (t:N3 w g h r l m W) (l':List Nat):N3 w g h r l' m (W.setRow g (l'.map nv).toArray):=by
 have hg:=t.bg
 refine ⟨setRow_heap W g _ _ _ _ t.now,?_,?_,t.nh,t.nr,t.bg,t.br,below_setRow t.bel hg _⟩
 ·unfold Num;rw [setRow_other _ _ _ _ t.nh];exact t.oth
 ·unfold Num;rw [setRow_other _ _ _ _ t.nr];exact t.res
theorem num_index (n:List Nat) (i:Nat) (hi:i < n.length):(n.map nv).toArray[i]? = some (.int .u64 (atD n i:Int)):=by
 rw [atD_get n i hi];simp [hi,nv]
theorem run_num_index (w:World) (n:List Nat) (i:Nat) (hn:n.length = 5) (hi:i < 5):(Instr.index 181 (.agg (n.map nv).toArray) (.int .i64 (i:Int))).run Tryz.prog w = .ok (.int .u64 (atD n i:Int)) w:=by
 have hu:Tryz.prog.underlying 181 = some (.array 5 40):=Tryz.underlying181
 have he:Tryz.prog.plainKey 40 = true:=by kernel_rfl
 have hc:Tryz.prog.cellsOf 40 = 1:=by kernel_rfl
 have p1:=run_part_plain (P:=Tryz.prog) w he (xs:=(n.map nv).toArray) (off:=i * 1) (v:=.int .u64 (atD n i:Int)) (by rw [Nat.mul_one];exact num_index n i (by omega))
 rw [Nat.mul_one] at p1
 simp [Instr.index,asIntOf,run_underlying hu,hi,go_sem]
 rw [List.getElem?_eq_getElem (by omega),atD_get n i (by omega)]
 rfl
set_option maxHeartbeats 2000000 in
set_option maxRecDepth 100000 in
theorem times_any (n r:List Nat) (w:World) (hn:n.length = 5) (hr:r.length = 5) (hb:∀ x ∈ n,x < 134217728) (hc:∀ x ∈ r,x < 67108864) :
  Calls Tryz.prog 147 #[.agg (n.map nv).toArray,.agg (r.map nv).toArray] w fun e w' => e = .returned (.agg ((timL n r).map nv).toArray) ∧ Below w.heap.size w w':=by
 have IN:Hid ((Tryz.prog.info? 181).map (·.size) = some (n.map nv).toArray.size):=num_info n hn
 have IR:Hid ((Tryz.prog.info? 181).map (·.size) = some (r.map nv).toArray.size):=num_info r hr
 have hNn:=(((num_new2 w n r).2.alloc (.cells #[.int .u64 0,.int .u64 0,.int .u64 0,.int .u64 0,.int .u64 0] 181)).alloc (.cells #[.int .u64 0,.int .u64 0,.int .u64 0,.int .u64 0,.int .u64 0] 181))
 have HNn:Hid _:=hNn
 clear hNn
 go_enter Tryz.func147,Tryz.ntmps147
 go_wp2_with (first | (refine wpList_load_row rfl 181 _ rfl w.heap.size rfl 181 _ (0,0) _ HNn.out Tryz.underlying181 rfl IN.out ?_))
 clear HNn
 refine from_world (P:=Code.wp Tryz.prog _ _ _) (R:=fun W => Hid (N3 w (w.heap.size + 1 + 1 + 1) (w.heap.size + 1) (w.heap.size + 1 + 1) [0,0,0,0,0] r W)) _ (N3.new4 w n r) ?_
 intro W0 hN0
 generalize w.heap.size + 1 + 1 + 1 = g at hN0 ⊢
 generalize w.heap.size + 1 + 1 = q at hN0 ⊢
 generalize w.heap.size + 1 = h at hN0 ⊢
 go_loopw [11] (fun i wr => ∃ k:Nat,k ≤ 5 ∧ i = .int .i64 k ∧ Hid (N3 w g h q (mulTo n r k) r wr)) (fun i _ => 5 - (intOf i).toNat)
 case atStart => exact ⟨0,by omega,rfl,hN0⟩
 case round =>
  clear hN0
  obtain ⟨k,hk,rfl,hN⟩:=hrel
  by_cases hlt:k < 5
  ·have hki:(k:Int) < 5:=by omega
   obtain ⟨x,hx⟩:∃ x,atD n k = x:=⟨_,rfl⟩
   have hix:=run_num_index wr n k hn hlt
   rw [hx] at hix
   go_wp2_with (first | (refine wpList_load_row rfl 181 _ rfl h rfl 181 _ (0,0) _ hN.out.oth Tryz.underlying181 rfl IR.out ?_))
   clear hix
   have HO:Hid (N3 w g h q (mulRow (mulTo n r k) x r k 0) r wr):=hN
   clear hN
   go_loopw [16] (fun i wr => ∃ j:Nat,j ≤ 5 ∧ i = .int .i64 j ∧ Hid (N3 w g h q (mulRow (mulTo n r k) x r k j) r wr)) (fun i _ => 5 - (intOf i).toNat)
   case atStart => exact ⟨0,by omega,rfl,HO⟩
   case round =>
    clear HO
    obtain ⟨j,hj,rfl,hN⟩:=hrel
    have hxb:x < 134217728:=by rw [← hx];exact atD_bound n _ (by omega) hb k
    by_cases hjl:j < 5
    ·have hji:(j:Int) < 5:=by omega
     obtain ⟨y,hy⟩:∃ y,atD r j = y:=⟨_,rfl⟩
     have hyb:y < 67108864:=by rw [← hy];exact atD_bound r _ (by omega) hc j
     have hix:=run_num_index wr r j hr hjl
     rw [hy] at hix
     have hle:=mulRow_le (mulTo n r k) x r k _ hxb hc (mulTo_le n r hb hc k) j
     have hzs:=mul_small x y hxb hyb
     by_cases hp:k + j < 5
     ·obtain ⟨p,hpe⟩:∃ p,k + j = p:=⟨_,rfl⟩
      obtain ⟨c,hc1⟩:∃ c,atD (mulRow (mulTo n r k) x r k j) p = c:=⟨_,rfl⟩
      obtain ⟨cc,fr⟩:=hN.out.now.word p (by rw [mulRow_length,mulTo_length];omega)
      rw [hc1] at cc
      have hcb:=atD_le _ _ hle p
      rw [hc1] at hcb
      have hpi:(k:Int) + (j:Int) = (p:Int):=by omega
      have hp5:(p:Int) < 5:=by omega
      have hN1:=hN.out.set p (c + x * y)
      obtain ⟨z,hz⟩:∃ z,x * y = z:=⟨_,rfl⟩
      have hzi:(x:Int) * (y:Int) = (z:Int):=by rw [← hz];simp
      rw [hz] at hzs hN1
      have hzb:z < 18446744073709551616:=by omega
      have hczb:c + z < 18446744073709551616:=by omega
      have HN1:Hid (N3 w g h q (mulRow (mulTo n r k) x r k (j + 1)) r (wr.setCell ⟨g,p,none⟩ (.int .u64 ((c:Int) + (z:Int))))):=by
       rw [mulRow,if_pos hp,hpe,hc1,hy,hz];exact hN1
      clear hN hN1 hle hz hcb
      go_wp2
      exact ⟨⟨j + 1,by omega,by go_num,HN1⟩,by simp [intOf];omega⟩
     ·obtain ⟨p0,hpe0⟩:∃ p,k + j = p:=⟨_,rfl⟩
      obtain ⟨p,hpe⟩:∃ p,k + j - 5 = p:=⟨_,rfl⟩
      obtain ⟨c,hc1⟩:∃ c,atD (mulRow (mulTo n r k) x r k j) p = c:=⟨_,rfl⟩
      obtain ⟨cc,fr⟩:=hN.out.now.word p (by rw [mulRow_length,mulTo_length];omega)
      rw [hc1] at cc
      have hcb:=atD_le _ _ hle p
      rw [hc1] at hcb
      have hpi:(k:Int) + (j:Int) = (p0:Int):=by omega
      have hp5:¬ (p0:Int) < 5:=by omega
      have hpi2:(p0:Int) - 5 = (p:Int):=by omega
      have hp5':(p:Int) < 5:=by omega
      have hN1:=hN.out.set p (c + 5 * x * y)
      obtain ⟨z,hz⟩:∃ z,5 * x * y = z:=⟨_,rfl⟩
      have hz5:z = 5 * (x * y):=by rw [← hz];exact Nat.mul_assoc _ _ _
      have hzi:5 * (x:Int) * (y:Int) = (z:Int):=by rw [← hz];simp
      rw [hz] at hN1
      have hzb:z < 18446744073709551616:=by omega
      have hczb:c + z < 18446744073709551616:=by omega
      have HN1:Hid (N3 w g h q (mulRow (mulTo n r k) x r k (j + 1)) r (wr.setCell ⟨g,p,none⟩ (.int .u64 ((c:Int) + (z:Int))))):=by
       rw [mulRow,if_neg hp,hpe,hc1,hy,hz];exact hN1
      clear hN hN1 hle hz hcb hz5 hzs
      go_wp2
      exact ⟨⟨j + 1,by omega,by go_num,HN1⟩,by simp [intOf];omega⟩
    ·have ej:j = 5:=by omega
     subst ej
     have hjr:¬ ((5:Nat):Int) < 5:=by omega
     have HN1:Hid (N3 w g h q (mulTo n r (k + 1)) r wr):=by rw [mulTo,hx];exact hN
     clear hN
     go_wp2
     exact ⟨⟨k + 1,by omega,by go_num,HN1⟩,by simp [intOf];omega⟩
  ·have ek:k = 5:=by omega
   subst ek
   have hkr:¬ ((5:Nat):Int) < 5:=by omega
   obtain ⟨L,hL⟩:∃ L,mulTo n r 5 = L:=⟨_,rfl⟩
   have hLl:L.length = 5:=by rw [← hL,mulTo_length]
   have hLb:∀ x ∈ L,x < 4611686018427387904:=fun x hx => by have:=mulTo_le n r hb hc 5 x (by rw [hL];exact hx);omega
   have HL:Hid (timL n r = carN L 3):=by rw [timL,hL];rfl
   rw [hL] at hN
   clear hL hb hc
   go_wp2
   go_loopw [48] (fun i wr => ∃ t:Nat,t ≤ 3 ∧ i = .int .i64 t ∧ Hid (N3 w g h q (carN L t) r wr)) (fun i _ => 3 - (intOf i).toNat)
   case atStart => exact ⟨0,by omega,rfl,hN⟩
   case round =>
    clear hN
    obtain ⟨t,ht,rfl,hN⟩:=hrel
    obtain ⟨M,hM⟩:∃ M,carN L t = M:=⟨_,rfl⟩
    have hMl:M.length = 5:=by rw [← hM,carN_length,hLl]
    have hMb:∀ x ∈ M,x < 4611686018427387904:=by rw [← hM];exact carN_small L hLl hLb t
    rw [hM] at hN
    have IM:Hid ((Tryz.prog.info? 181).map (·.size) = some (M.map nv).toArray.size):=num_info M hMl
    by_cases htl:t < 3
    ·have hti:(t:Int) < 3:=by omega
     go_wp2_with (first | (refine wpList_load_row rfl 181 _ rfl g rfl 181 _ (0,0) _ hN.out.now Tryz.underlying181 rfl IM.out ?_))
     refine (carry_any M wr hMl hMb).mono ?_
     rintro e w8 ⟨rfl,hb8⟩
     have hN8:=hN.out.later hb8
     have hcl:(carL M).length = 5:=by rw [carL_length,hMl]
     have hst:=store_row w8 g _ _ ((carL M).map nv) hN8.now (by simp [hcl,hMl]) (nv_oneCell _)
     have HN9:Hid (N3 w g h q (carN L (t + 1)) r (w8.setRow g ((carL M).map nv).toArray)):=by rw [carN,hM];exact hN8.put _
     clear hN hN8 hb8
     go_wp2
     exact ⟨⟨t + 1,by omega,by go_num,HN9⟩,by simp [intOf];omega⟩
    ·have et:t = 3:=by omega
     subst et
     have htr:¬ ((3:Nat):Int) < 3:=by omega
     have HM:Hid (timL n r = M):=HL.out.trans hM
     have hst:=store_row wr q _ _ (M.map nv) hN.out.res (by simp [hMl]) (nv_oneCell M)
     have hrow:=setRow_heap wr q _ (M.map nv).toArray _ _ hN.out.res
     have HBel:Hid (Below w.heap.size w (wr.setRow q (M.map nv).toArray)):=below_setRow hN.out.bel hN.out.br _
     obtain ⟨W4,hW4⟩:∃ W4,wr.setRow q (M.map nv).toArray = W4:=⟨_,rfl⟩
     rw [hW4] at hst hrow HBel
     have HRow:Hid (W4.heap[q]? = some (.cells (M.map nv).toArray 181 (0,0))):=hrow
     clear hrow hW4 hM hMb hLb
     go_wp2_with (first | (refine wpList_load_row rfl 181 _ rfl g rfl 181 _ (0,0) _ hN.out.now Tryz.underlying181 rfl IM.out ?_))
     (try simp only [Exit.inBlock,Exit.then])
     refine bodyPost_ret (results_cell_row rfl _ _ q 181 _ (0,0) _ rfl HRow.out Tryz.underlying181 rfl IM.out) rfl ?_
     exact ⟨by rw [HM.out],HBel.out⟩
theorem leN_take (l:List UInt8) (n:Nat):leN (l.take n) = leN l % 256 ^ n:=by
 rcases Nat.lt_or_ge n l.length with h | h
 ·have e:=leN_append (l.take n) (l.drop n)
  rw [List.take_append_drop] at e
  have hl:(l.take n).length = n:=by simp;omega
  have hb:=leN_lt (l.take n)
  rw [hl] at e hb
  rw [e,Nat.add_mul_mod_self_left,Nat.mod_eq_of_lt hb]
 ·rw [List.take_of_length_le h,Nat.mod_eq_of_lt (Nat.lt_of_lt_of_le (leN_lt l) (Nat.pow_le_pow_right (by decide) h))]
theorem leN_drop (l:List UInt8) (n:Nat):leN (l.drop n) = leN l / 256 ^ n:=by
 rcases Nat.lt_or_ge n l.length with h | h
 ·have e:=leN_append (l.take n) (l.drop n)
  rw [List.take_append_drop] at e
  have hl:(l.take n).length = n:=by simp;omega
  have hb:=leN_lt (l.take n)
  rw [hl] at e hb
  rw [e,Nat.add_mul_div_left _ _ (Nat.pow_pos (by decide)),Nat.div_eq_of_lt hb,Nat.zero_add]
 ·rw [List.drop_eq_nil_of_le h,Nat.div_eq_of_lt (Nat.lt_of_lt_of_le (leN_lt l) (Nat.pow_le_pow_right (by decide) h))]
  rfl
theorem leN_cut (l:List UInt8) (a n:Nat):leN (cutB l a n) = leN l / 256 ^ a % 256 ^ n:=by
 rw [cutB,leN_take,leN_drop]
theorem getV_cut (l:List UInt8) (a n:Nat):getV l false a n = leN l / 256 ^ a % 256 ^ n:=by
 show leN (cutB l a n) = _
 exact leN_cut l a n
theorem limb_cut (l:List UInt8) (k:Nat) (h:k < 5):getV l false (26 * k / 8) 4 / 2 ^ (26 * k % 8) % 67108864 = leN l / 67108864 ^ k % 67108864:=by
 rw [getV_cut]
 generalize leN l = N
 have hk:k = 0 ∨ k = 1 ∨ k = 2 ∨ k = 3 ∨ k = 4:=by omega
 rcases hk with rfl | rfl | rfl | rfl | rfl <;> simp <;> omega
def tellTo (N:Nat):Nat → List Nat
 | 0 => [0,0,0,0,0]
 | k + 1 => (tellTo N k).set k (N / 67108864 ^ k % 67108864)
theorem tellTo_length (N:Nat):∀ k,(tellTo N k).length = 5
 | 0 => rfl
 | k + 1 => by rw [tellTo,List.length_set,tellTo_length N k]
theorem tellTo_all (N:Nat):tellTo N 5 = limbs N:=by
 simp [tellTo,limbs,List.range_succ]
theorem leN_zeros (n:Nat):leN (List.replicate n 0) = 0:=by
 induction n with
 | zero => rfl
 | succ n ih => rw [List.replicate_succ,leN,ih];rfl
theorem leN_closed (l:List UInt8) (n:Nat):leN (l ++ List.replicate n 0) = leN l:=by rw [leN_append,leN_zeros];simp
theorem partN_small (l:List UInt8) (k:Nat):partN l k < 2 ^ 130:=by
 have hlen:(cutB l (16 * k) 16).length ≤ 16:=by simp [cutB];omega
 have h:=leN_lt (cutB l (16 * k) 16)
 have h2:256 ^ (cutB l (16 * k) 16).length ≤ 256 ^ 16:=Nat.pow_le_pow_right (by decide) hlen
 unfold partN
 rw [leN_append]
 have h3:leN [1] = 1:=rfl
 rw [h3]
 have h4:(256:Nat) ^ 16 = 340282366920938463463374607431768211456:=by decide
 omega
theorem polyR_small (key:List UInt8):polyR key < 2 ^ 130:=Nat.lt_trans (polyR_lt key) (by decide)
theorem least_five (a b c d e:Nat) (ha:a < 67108864) (hb:b < 67108864) (hc:c < 67108864) (hd:d < 67108864) (he:e < 67108864) :
  a + b * 67108864 + c % 4096 * 4503599627370496 = valL [a,b,c,d,e] % 18446744073709551616 ∧
  c / 4096 + d * 16384 + e % 16777216 * 1099511627776 = valL [a,b,c,d,e] / 18446744073709551616 % 18446744073709551616 ∧
  e / 16777216 = valL [a,b,c,d,e] / 340282366920938463463374607431768211456:=by
 simp only [valL]
 refine ⟨?_,?_,?_⟩ <;> omega
theorem tag_words (V S:Nat) (hV:V < 2 ^ 130):∃ W,W = V % P1305 ∧
  (V + 5 < 2 ^ 130 → W % 18446744073709551616 = V % 18446744073709551616 ∧ W / 18446744073709551616 % 18446744073709551616 = V / 18446744073709551616 % 18446744073709551616) ∧
  (2 ^ 130 ≤ V + 5 → W % 18446744073709551616 = (V + 5) % 18446744073709551616 ∧ W / 18446744073709551616 % 18446744073709551616 = (V + 5) / 18446744073709551616 % 18446744073709551616):=by
 refine ⟨_,rfl,?_,?_⟩
 ·intro h
  have e:V % P1305 = V:=Nat.mod_eq_of_lt (by unfold P1305;omega)
  rw [e]
  exact ⟨rfl,rfl⟩
 ·intro h
  have e:V % P1305 = V + 5 - 2 ^ 130:=by
   have:V = P1305 + (V + 5 - 2 ^ 130):=by unfold P1305;omega
   rw [this,Nat.add_mod_left,Nat.mod_eq_of_lt (by unfold P1305;omega)]
   omega
  rw [e]
  omega
structure NT (w:World) (a g r:Nat) (B:List UInt8) (l:List Nat) (W:World):Prop where
 src:Arr W a 183 B
 now:Num W g l
 res:Num W r [0,0,0,0,0]
 na:a ≠ g
 nr:r ≠ g
 bg:w.heap.size ≤ g
 br:w.heap.size ≤ r
 bel:Below w.heap.size w W
theorem NT.set {w W:World} {a g r:Nat} {B:List UInt8} {l:List Nat} (t:NT w a g r B l W) (i x:Nat):NT w a g r B (l.set i x) (W.setCell ⟨g,i,none⟩ (nv x)):=by
 have hg:=t.bg
 exact ⟨t.src.other t.na i _,t.now.set i x,t.res.other t.nr i _,t.na,t.nr,t.bg,t.br,t.bel.setCell (p:=⟨g,i,none⟩) (by show _ ≤ g;omega) _⟩
theorem Arr.alloc {w:World} {g:Nat} {t:TypeId} {l:List UInt8} (h:Arr w g t l) (o:Obj):Arr (w.alloc o) g t l:=by
 unfold Arr
 rw [Below.heap_alloc _ _ _ h.lt]
 exact h
theorem NT.new (w:World) (B:List UInt8):NT w w.heap.size (w.heap.size + 1 + 1) (w.heap.size + 1) B [0,0,0,0,0] (((w.alloc (.cells (B.map bv).toArray 183)).alloc (.cells #[.int .u64 0,.int .u64 0,.int .u64 0,.int .u64 0,.int .u64 0] 181)).alloc (.cells #[.int .u64 0,.int .u64 0,.int .u64 0,.int .u64 0,.int .u64 0] 181)):=by
 have h1:Num ((w.alloc (.cells (B.map bv).toArray 183)).alloc (.cells #[.int .u64 0,.int .u64 0,.int .u64 0,.int .u64 0,.int .u64 0] 181)) (w.heap.size + 1) [0,0,0,0,0]:=by
  have:=heap_alloc_new (w.alloc (.cells (B.map bv).toArray 183)) (.cells #[.int .u64 0,.int .u64 0,.int .u64 0,.int .u64 0,.int .u64 0] 181)
  rw [World.size_alloc] at this
  exact this
 refine ⟨((Arr.new w _ B).alloc _).alloc _,?_,h1.alloc _,by omega,by omega,by omega,by omega,?_⟩
 ·have:=heap_alloc_new ((w.alloc (.cells (B.map bv).toArray 183)).alloc (.cells #[.int .u64 0,.int .u64 0,.int .u64 0,.int .u64 0,.int .u64 0] 181)) (.cells #[.int .u64 0,.int .u64 0,.int .u64 0,.int .u64 0,.int .u64 0] 181)
  rw [World.size_alloc,World.size_alloc] at this
  exact this
 ·exact (((Below.refl _ _).alloc (Nat.le_refl _) _).alloc (by simp) _).alloc (by simp <;> omega) _
set_option maxHeartbeats 400000 in
set_option maxRecDepth 100000 in
theorem tell_any (B:List UInt8) (w:World) (hB:B.length = 17) :
  Calls Tryz.prog 143 #[.agg (B.map bv).toArray] w fun e w' => e = .returned (.agg ((limbs (leN B)).map nv).toArray) ∧ Below w.heap.size w w':=by
 go_enter Tryz.func143,Tryz.ntmps143
 go_wp2
 refine from_world (P:=Code.wp Tryz.prog _ _ _) (R:=fun W => Hid (NT w w.heap.size (w.heap.size + 1 + 1) (w.heap.size + 1) B [0,0,0,0,0] W)) _ (NT.new w B) ?_
 intro W0 hN0
 generalize w.heap.size + 1 + 1 = g at hN0 ⊢
 generalize w.heap.size + 1 = r at hN0 ⊢
 generalize hb0:w.heap.size = b0 at hN0 ⊢
 go_loopw [8] (fun i wr => ∃ k:Nat,k ≤ 5 ∧ i = .int .i64 k ∧ Hid (NT w b0 g r B (tellTo (leN B) k) wr)) (fun i _ => 5 - (intOf i).toNat)
 case atStart => exact ⟨0,by omega,rfl,hN0⟩
 case round =>
  clear hN0
  obtain ⟨k,hk,rfl,hN⟩:=hrel
  by_cases hlt:k < 5
  ·have hki:(k:Int) < 5:=by omega
   obtain ⟨p,hp⟩:∃ p,26 * k = p:=⟨_,rfl⟩
   obtain ⟨q,hq⟩:∃ q,p / 8 = q:=⟨_,rfl⟩
   obtain ⟨s,hs⟩:∃ s,p % 8 = s:=⟨_,rfl⟩
   have e1:(k:Int) * 26 = (p:Int):=by omega
   have e2:(p:Int).tdiv 8 = (q:Int):=by rw [Int.tdiv_eq_ediv_of_nonneg (by omega)];omega
   have e2':(p:Int) / 8 = (q:Int):=by omega
   have e3:(p:Int).tmod 8 = (s:Int):=by rw [Int.tmod_eq_emod_of_nonneg (by omega)];omega
   have e3':(p:Int) % 8 = (s:Int):=by omega
   have hlc:=limb_cut B k hlt
   rw [hp,hq,hs] at hlc
   obtain ⟨cc,fr⟩:=hN.out.now.word k (by rw [tellTo_length];omega)
   have HB:Hid (Byt wr (some ⟨b0,0,none⟩) 17 B):=hN.out.src.byt 17 hB
   have HN:Hid (NT w b0 g r B (tellTo (leN B) k) wr):=hN
   clear hN
   go_wp2_with fail
   refine (get_yes b0 0 17 17 q 4 false B wr (by unfold maxLen;omega) (by omega) HB.out (by omega) (by omega) (by omega)).mono ?_
   rintro e w' ⟨rfl,rfl⟩
   obtain ⟨v,hv⟩:∃ v,getV B false q 4 = v:=⟨_,rfl⟩
   rw [hv] at hlc ⊢
   have hvb:v < 18446744073709551616:=by
    rw [← hv,getV_cut]
    exact Nat.lt_of_lt_of_le (Nat.mod_lt _ (by decide)) (by decide)
   have hs8:s < 8:=by omega
   have E1:Hid ((v:Int) / 2 ^ s = ((v / 2 ^ s:Nat):Int)):=by show _ = _;simp
   have hvs:v / 2 ^ s < 18446744073709551616:=Nat.lt_of_le_of_lt (Nat.div_le_self _ _) hvb
   have E2:Hid (bits .and .u64 ((v / 2 ^ s:Nat):Int) 67108863 = ((v / 2 ^ s % 67108864:Nat):Int)):=and26 _ hvs
   have HN1:Hid (NT w b0 g r B (tellTo (leN B) (k + 1)) (w'.setCell ⟨g,k,none⟩ (.int .u64 ((v / 2 ^ s % 67108864:Nat):Int)))):=by
    rw [tellTo,← hlc];exact HN.out.set k _
   clear HN hvs hlc
   go_wp2
   rw [E1.out,E2.out]
   exact ⟨⟨k + 1,by omega,by go_num,HN1⟩,by simp [intOf];omega⟩
  ·have ek:k = 5:=by omega
   subst ek
   have hkr:¬ ((5:Nat):Int) < 5:=by omega
   rw [tellTo_all] at hN
   obtain ⟨M,hM⟩:∃ M,limbs (leN B) = M:=⟨_,rfl⟩
   have hMl:M.length = 5:=by rw [← hM,limbs_length]
   rw [hM] at hN
   have HM:Hid (limbs (leN B) = M):=hM
   have IM:Hid ((Tryz.prog.info? 181).map (·.size) = some (M.map nv).toArray.size):=num_info M hMl
   have hst:=store_row wr r _ _ (M.map nv) hN.out.res (by simp [hMl]) (nv_oneCell M)
   have hrow:=setRow_heap wr r _ (M.map nv).toArray _ _ hN.out.res
   have HBel:Hid (Below w.heap.size w (wr.setRow r (M.map nv).toArray)):=below_setRow hN.out.bel hN.out.br _
   obtain ⟨W4,hW4⟩:∃ W4,wr.setRow r (M.map nv).toArray = W4:=⟨_,rfl⟩
   rw [hW4] at hst hrow HBel
   have HRow:Hid (W4.heap[r]? = some (.cells (M.map nv).toArray 181 (0,0))):=hrow
   clear hrow hW4 hM
   go_wp2_with (first | (refine wpList_load_row rfl 181 _ rfl g rfl 181 _ (0,0) _ hN.out.now Tryz.underlying181 rfl IM.out ?_))
   (try simp only [Exit.inBlock,Exit.then])
   refine bodyPost_ret (results_cell_row rfl _ _ r 181 _ (0,0) _ rfl HRow.out Tryz.underlying181 rfl IM.out) rfl ?_
   exact ⟨by rw [HM.out],by rw [← hb0];exact HBel.out⟩
def z17:List UInt8:=List.replicate 17 0
theorem arr17_info (l:List UInt8) (hl:l.length = 17):(Tryz.prog.info? 183).map (·.size) = some (l.map bv).toArray.size:=by
 have e1:(Tryz.prog.info? 183).map (·.size) = some 17:=by kernel_rfl
 rw [e1];simp [hl]
theorem Arr.put {w:World} {g:Nat} {t:TypeId} {l:List UInt8} (h:Arr w g t l) (l':List UInt8):Arr (w.setRow g (l'.map bv).toArray) g t l':=setRow_heap w g _ _ _ _ h
theorem Arr.keep {w:World} {g g':Nat} {t:TypeId} {l:List UInt8} (h:Arr w g t l) (hne:g ≠ g') (cs:Array Value):Arr (w.setRow g' cs) g t l:=by
 unfold Arr;rw [setRow_other _ _ _ _ hne];exact h
theorem arr_new2 (w:World) (t:TypeId) (l m:List UInt8) (s:TypeId):Arr ((w.alloc (.cells (l.map bv).toArray t)).alloc (.cells (m.map bv).toArray s)) (w.heap.size + 1) s m ∧ Arr ((w.alloc (.cells (l.map bv).toArray t)).alloc (.cells (m.map bv).toArray s)) w.heap.size t l:=by
 constructor
 ·have:=heap_alloc_new (w.alloc (.cells (l.map bv).toArray t)) (.cells (m.map bv).toArray s)
  rw [World.size_alloc] at this
  exact this
 ·exact (Arr.new w t l).alloc _
theorem closed_row (part:List UInt8) (n:Nat) (h:part.length = n) (hn:n ≤ 16):(z17.map bv).take 0 ++ part.map bv ++ (z17.map bv).drop (0 + n) = (part ++ List.replicate (17 - n) 0).map bv:=by
 rw [List.take_zero,List.nil_append,List.map_append,z17,List.map_replicate,List.map_replicate,List.drop_replicate,Nat.zero_add]
theorem closed_set (part:List UInt8) (n:Nat) (h:part.length = n) (hn:n ≤ 16):(part ++ List.replicate (17 - n) 0).set n 1 = part ++ 1 :: List.replicate (16 - n) 0:=by
 rw [show 17 - n = (16 - n) + 1 by omega,List.replicate_succ,List.set_append_right _ _ (by omega)]
 simp [h]
set_option maxHeartbeats 400000 in
set_option maxRecDepth 100000 in
theorem closed_any (b off len cap:Nat) (part:List UInt8) (w:World) (hB:Byt w (some ⟨b,off,none⟩) len part) (hl:len ≤ 16) :
  Calls Tryz.prog 146 #[.slice (some ⟨b,off,none⟩) len cap] w fun e w' => e = .returned (.agg ((part ++ 1 :: List.replicate (16 - len) 0).map bv).toArray) ∧ Below w.heap.size w w':=by
 have hpl:=hB.1
 obtain ⟨a1,a0⟩:=arr_new2 w 183 z17 z17 183
 have b1:Below w.heap.size w ((w.alloc (.cells (z17.map bv).toArray 183)).alloc (.cells (z17.map bv).toArray 183)):=((Below.refl _ _).alloc (Nat.le_refl _) _).alloc (by simp) _
 obtain ⟨W1,hW1⟩:∃ W1,(w.alloc (.cells (z17.map bv).toArray 183)).alloc (.cells (z17.map bv).toArray 183) = W1:=⟨_,rfl⟩
 rw [hW1] at a1 a0 b1
 have hcp:=run_copy_row Tryz.prog W1 22 22 3 5 (w.heap.size + 1) 0 17 17 ⟨b,off,none⟩ len cap _ _ (part.map bv) Tryz.underlying22 Tryz.info1U8 a1
  (by rw [List.length_map,hpl];show len = min len 17;omega) (fun j v hj => (hB.later b1).cells _ rfl j v (by simpa using hj)) (by simp [z17];omega) (bv_oneCell _)
 rw [List.length_map,hpl] at hcp
 simp only [] at hcp
 rw [closed_row part len hpl hl] at hcp
 have a2:=a1.put (part ++ List.replicate (17 - len) 0)
 have a02:=a0.keep (g':=w.heap.size + 1) (by omega) ((part ++ List.replicate (17 - len) 0).map bv).toArray
 have b2:Below w.heap.size w (W1.setRow (w.heap.size + 1) ((part ++ List.replicate (17 - len) 0).map bv).toArray):=below_setRow b1 (by omega) _
 obtain ⟨W2,hW2⟩:∃ W2,W1.setRow (w.heap.size + 1) ((part ++ List.replicate (17 - len) 0).map bv).toArray = W2:=⟨_,rfl⟩
 rw [hW2] at a2 a02 b2 hcp
 obtain ⟨cc,fr⟩:=a2.at_ len (by simp;omega)
 have a3:=a2.set len 1
 rw [closed_set part len hpl hl] at a3
 have a03:=a02.other (g':=w.heap.size + 1) (by omega) len (.int .u8 (((1:UInt8)).toNat:Int))
 have b3:Below w.heap.size w (W2.setCell ⟨w.heap.size + 1,len,none⟩ (.int .u8 (((1:UInt8)).toNat:Int))):=b2.setCell (p:=⟨w.heap.size + 1,len,none⟩) (by show _ ≤ _ + 1;omega) _
 obtain ⟨W3,hW3⟩:∃ W3,W2.setCell ⟨w.heap.size + 1,len,none⟩ (.int .u8 1) = W3:=⟨_,rfl⟩
 obtain ⟨C,hC⟩:∃ C,part ++ 1 :: List.replicate (16 - len) 0 = C:=⟨_,rfl⟩
 have hCl:C.length = 17:=by rw [← hC];simp;omega
 have e3:W2.setCell ⟨w.heap.size + 1,len,none⟩ (.int .u8 (((1:UInt8)).toNat:Int)) = W3:=hW3
 rw [e3] at a3 a03 b3
 rw [hC] at a3
 have HA3:Hid (Arr W3 (w.heap.size + 1) 183 C):=a3
 have IC:Hid ((Tryz.prog.info? 183).map (·.size) = some (C.map bv).toArray.size):=arr17_info C hCl
 have hst:=store_row W3 w.heap.size _ _ (C.map bv) a03 (by simp [hCl,z17]) (bv_oneCell C)
 have hrow:=setRow_heap W3 w.heap.size _ (C.map bv).toArray _ _ a03
 have HBel:Hid (Below w.heap.size w (W3.setRow w.heap.size (C.map bv).toArray)):=below_setRow b3 (Nat.le_refl _) _
 obtain ⟨W4,hW4⟩:∃ W4,W3.setRow w.heap.size (C.map bv).toArray = W4:=⟨_,rfl⟩
 rw [hW4] at hst hrow HBel
 have HRow:Hid (W4.heap[w.heap.size]? = some (.cells (C.map bv).toArray 183 (0,0))):=hrow
 have HCP:Hid ((Builtin.copy_ #[22,22] 3 #[.slice (some ⟨w.heap.size + 1,0,none⟩) 17 17,.slice (some ⟨b,off,none⟩) len cap]).run Tryz.prog ((w.alloc (.cells (z17.map bv).toArray 183)).alloc (.cells (z17.map bv).toArray 183)) = .ok (goInt len) W2):=by rw [hW1];exact hcp
 have HC:Hid (part ++ 1 :: List.replicate (16 - len) 0 = C):=hC
 have HW3:Hid (W2.setCell ⟨w.heap.size + 1,len,none⟩ (.int .u8 1) = W3):=hW3
 have hl17:(len:Int) < 17:=by omega
 clear hcp a0 a1 b1 hW1 a2 a02 b2 hW2 a3 a03 b3 e3 hW3 hC hrow hW4 hB
 have hcp:(Builtin.copy_ #[22,22] 3 #[.slice (some ⟨w.heap.size + 1,0,none⟩) 17 17,.slice (some ⟨b,off,none⟩) len cap]).run Tryz.prog ((w.alloc (.cells #[.int .u8 0,.int .u8 0,.int .u8 0,.int .u8 0,.int .u8 0,.int .u8 0,.int .u8 0,.int .u8 0,.int .u8 0,.int .u8 0,.int .u8 0,.int .u8 0,.int .u8 0,.int .u8 0,.int .u8 0,.int .u8 0,.int .u8 0] 183)).alloc (.cells #[.int .u8 0,.int .u8 0,.int .u8 0,.int .u8 0,.int .u8 0,.int .u8 0,.int .u8 0,.int .u8 0,.int .u8 0,.int .u8 0,.int .u8 0,.int .u8 0,.int .u8 0,.int .u8 0,.int .u8 0,.int .u8 0,.int .u8 0] 183)) = .ok (.int .i64 (len:Int)) W2:=HCP.out
 clear HCP
 go_enter Tryz.func146,Tryz.ntmps146
 go_wp2_with (first | (rw [HW3.out];refine wpList_load_row rfl 183 _ rfl (w.heap.size + 1) rfl 183 _ (0,0) _ HA3.out Tryz.underlying183 rfl IC.out ?_))
 (try simp only [Exit.inBlock,Exit.then])
 refine bodyPost_ret (results_cell_row rfl _ _ w.heap.size 183 _ (0,0) _ rfl HRow.out Tryz.underlying183 rfl IC.out) rfl ?_
 exact ⟨by rw [HC.out],HBel.out⟩
end Go.Proofs.YthmkhdnnljdglaaGreatDoor
