import Derived.Test.YthmkhdnnljdglaaGreatDoorQae
import Derived.Test.YthmkhdnnljdglaaGreatDoorQam
import Derived.Test.YthmkhdnnljdglaaGreatDoorQal
import Derived.Test.YthmkhdnnljdglaaGreatDoorQah
import Derived.Test.YthmkhdnnljdglaaGreatDoorQas
namespace Go.Proofs.YthmkhdnnljdglaaGreatDoor
set_option linter.unusedVariables false
set_option maxRecDepth 100000
open Go.RowKit
def valF:List Nat → Nat
 | [] => 0
 | c :: r => c + 2251799813685248 * valF r
theorem P255_num:P255 = 57896044618658097711785492504343953926634992332820282019728792003956564819949:=rfl
def plTo (l:List Nat) (n:Nat):Nat → List Nat × Nat
 | 0 => (l,n)
 | k + 1 => ((plTo l n k).1.set k ((atD (plTo l n k).1 k + (plTo l n k).2) % 2251799813685248),(atD (plTo l n k).1 k + (plTo l n k).2) / 2251799813685248)
theorem plTo_length (l:List Nat) (n:Nat):∀ k,(plTo l n k).1.length = l.length
 | 0 => rfl
 | k + 1 => by rw [plTo,List.length_set,plTo_length l n k]
theorem plTo_at (l:List Nat) (n:Nat):∀ k j,k ≤ j → atD (plTo l n k).1 j = atD l j
 | 0,j,_ => rfl
 | k + 1,j,h => by rw [plTo,atD_set_other _ _ _ _ (by omega),plTo_at l n k j (by omega)]
theorem plTo_over (l:List Nat) (n:Nat) (h:∀ x ∈ l,x < 9223372036854775808) (hn:n < 4611686018427387904):∀ k,(plTo l n k).2 < 4611686018427387904
 | 0 => hn
 | k + 1 => by
  have h1:=plTo_over l n h hn k
  have h2:atD (plTo l n k).1 k < 9223372036854775808:=by rw [plTo_at l n k k (Nat.le_refl _)];exact atD_bound l _ (by omega) h k
  rw [plTo];simp only;omega
theorem plTo_five (a b c d e n:Nat):∃ o0 o1 o2 o3 o4:Nat,o0 = (a + n) / 2251799813685248 ∧ o1 = (b + o0) / 2251799813685248 ∧ o2 = (c + o1) / 2251799813685248 ∧ o3 = (d + o2) / 2251799813685248 ∧ o4 = (e + o3) / 2251799813685248 ∧
  plTo [a,b,c,d,e] n 5 = ([(a + n) % 2251799813685248,(b + o0) % 2251799813685248,(c + o1) % 2251799813685248,(d + o2) % 2251799813685248,(e + o3) % 2251799813685248],o4):=by
 refine ⟨_,_,_,_,_,rfl,rfl,rfl,rfl,rfl,?_⟩
 simp [plTo,atD]
def IsE (l:List Nat):Prop:=∃ a b c d e,l = [a,b,c,d,e] ∧ a < 2251799813685286 ∧ b < 2251799813685248 ∧ c < 2251799813685248 ∧ d < 2251799813685248 ∧ e < 2251799813685248
theorem IsE.len {l:List Nat} (h:IsE l):l.length = 5:=by
 obtain ⟨a,b,c,d,e,rfl,_⟩:=h
 rfl
theorem IsE.lt {l:List Nat} (h:IsE l):∀ x ∈ l,x < 2251799813685286:=by
 obtain ⟨a,b,c,d,e,rfl,h0,h1,h2,h3,h4⟩:=h
 simp
 omega
theorem IsE.small {l:List Nat} (h:IsE l):∀ x ∈ l,x < 9223372036854775808:=fun x hx => Nat.lt_trans (h.lt x hx) (by decide)
def carF (l:List Nat):List Nat:=(plTo l 0 5).1.set 0 (atD (plTo l 0 5).1 0 + 19 * (plTo l 0 5).2)
theorem carF_length (l:List Nat):(carF l).length = l.length:=by rw [carF,List.length_set,plTo_length]
theorem carF_val (l:List Nat) (h:l.length = 5):valF (carF l) % P255 = valF l % P255:=by
 obtain ⟨a,b,c,d,e,rfl⟩:=five l h
 obtain ⟨o0,o1,o2,o3,o4,h0,h1,h2,h3,h4,he⟩:=plTo_five a b c d e 0
 have e1:valF (carF [a,b,c,d,e]) + P255 * o4 = valF [a,b,c,d,e]:=by
  rw [carF,he]
  simp only [List.set_cons_zero,atD,valF,P255_num,List.getD_cons_zero]
  omega
 rw [← e1,Nat.add_mul_mod_self_left]
theorem carF_isE (a b c d e:Nat) (ha:a < 9223372036854775808) (hb:b < 6755399441055742) (hc:c < 6755399441055742) (hd:d < 6755399441055742) (he:e < 6755399441055742)
  (h:a < 6755399441055744 ∨ (b < 2251799813685248 ∧ c < 2251799813685248 ∧ d < 2251799813685248 ∧ e < 2251799813685248)):IsE (carF [a,b,c,d,e]):=by
 obtain ⟨o0,o1,o2,o3,o4,h0,h1,h2,h3,h4,hp⟩:=plTo_five a b c d e 0
 have h4':o4 ≤ 2:=by omega
 refine ⟨(a + 0) % 2251799813685248 + 19 * o4,_,_,_,_,by rw [carF,hp];rfl,?_,Nat.mod_lt _ (by decide),Nat.mod_lt _ (by decide),Nat.mod_lt _ (by decide),Nat.mod_lt _ (by decide)⟩
 have:=Nat.mod_lt (a + 0) (show 0 < 2251799813685248 by decide)
 omega
theorem carF_in (l:List Nat) (h:IsE l):∀ x ∈ carF l,x < 2251799813685248:=by
 obtain ⟨a,b,c,d,e,rfl,ha,hb,hc,hd,he⟩:=h
 obtain ⟨o0,o1,o2,o3,o4,h0,h1,h2,h3,h4,hp⟩:=plTo_five a b c d e 0
 have hr:carF [a,b,c,d,e] = [(a + 0) % 2251799813685248 + 19 * o4,(b + o0) % 2251799813685248,(c + o1) % 2251799813685248,(d + o2) % 2251799813685248,(e + o3) % 2251799813685248]:=by rw [carF,hp];rfl
 rw [hr]
 have q0:o0 ≤ 1:=by omega
 have q1:o1 ≤ 1:=by omega
 have q2:o2 ≤ 1:=by omega
 have q3:o3 ≤ 1:=by omega
 have q4:o4 ≤ 1:=by omega
 have m0:(a + 0) % 2251799813685248 + 19 * o4 < 2251799813685248:=by omega
 simp
 omega
def lesF (l:List Nat):List Nat:=if 0 < (plTo (carF l) 19 5).2 then (plTo (carF l) 19 5).1 else carF l
theorem lesF_val (l:List Nat) (h:IsE l):valF (lesF l) = valF l % P255 ∧ (lesF l).length = 5 ∧ ∀ x ∈ lesF l,x < 2251799813685248:=by
 have hl:(carF l).length = 5:=by rw [carF_length,h.len]
 have hi:=carF_in l h
 rw [← carF_val l h.len]
 unfold lesF
 obtain ⟨a,b,c,d,e,hm⟩:=five (carF l) hl
 rw [hm] at hi ⊢
 simp at hi
 obtain ⟨ia,ib,ic,id_,ie⟩:=hi
 obtain ⟨o0,o1,o2,o3,o4,h0,h1,h2,h3,h4,hp⟩:=plTo_five a b c d e 19
 rw [hp]
 by_cases ho:0 < o4
 ·rw [if_pos ho]
  refine ⟨?_,rfl,by simp;omega⟩
  have q4:o4 = 1:=by omega
  have e1:valF [a,b,c,d,e] = valF [(a + 19) % 2251799813685248,(b + o0) % 2251799813685248,(c + o1) % 2251799813685248,(d + o2) % 2251799813685248,(e + o3) % 2251799813685248] + P255:=by
   simp only [valF,P255_num]
   omega
  have e2:valF [(a + 19) % 2251799813685248,(b + o0) % 2251799813685248,(c + o1) % 2251799813685248,(d + o2) % 2251799813685248,(e + o3) % 2251799813685248] < P255:=by
   have:valF [a,b,c,d,e] < P255 + P255:=by simp only [valF,P255_num];omega
   omega
  rw [e1,Nat.add_mod_right,Nat.mod_eq_of_lt e2]
 ·rw [if_neg ho]
  refine ⟨?_,rfl,by simp;omega⟩
  rw [Nat.mod_eq_of_lt]
  simp only [valF,P255_num]
  omega
def twP:List Nat:=[4503599627370458,4503599627370494,4503599627370494,4503599627370494,4503599627370494]
def subTo (a b:List Nat):Nat → List Nat
 | 0 => a
 | k + 1 => (subTo a b k).set k (atD (subTo a b k) k + (atD twP k - atD b k))
theorem subTo_length (a b:List Nat):∀ k,(subTo a b k).length = a.length
 | 0 => rfl
 | k + 1 => by rw [subTo,List.length_set,subTo_length a b k]
theorem subTo_at (a b:List Nat):∀ k j,k ≤ j → atD (subTo a b k) j = atD a j
 | 0,j,_ => rfl
 | k + 1,j,h => by rw [subTo,atD_set_other _ _ _ _ (by omega),subTo_at a b k j (by omega)]
theorem subTo_five (a b c d e a' b' c' d' e':Nat):subTo [a,b,c,d,e] [a',b',c',d',e'] 5 = [a + (4503599627370458 - a'),b + (4503599627370494 - b'),c + (4503599627370494 - c'),d + (4503599627370494 - d'),e + (4503599627370494 - e')]:=by
 simp [subTo,atD,twP]
theorem twP_lt (k:Nat):atD twP k < 4503599627370496:=atD_bound twP _ (by decide) (by decide) k
theorem twP_ge (l:List Nat) (h:IsE l) (k:Nat) (hk:k < 5):atD l k ≤ atD twP k:=by
 obtain ⟨a,b,c,d,e,rfl,ha,hb,hc,hd,he⟩:=h
 have:k = 0 ∨ k = 1 ∨ k = 2 ∨ k = 3 ∨ k = 4:=by omega
 rcases this with rfl | rfl | rfl | rfl | rfl <;> simp [atD,twP] <;> omega
theorem sub_isE (l m:List Nat) (hl:IsE l) (hm:IsE m):IsE (carF (subTo l m 5)):=by
 obtain ⟨a,b,c,d,e,rfl,ha,hb,hc,hd,he⟩:=hl
 obtain ⟨a',b',c',d',e',rfl,ha',hb',hc',hd',he'⟩:=hm
 rw [subTo_five]
 exact carF_isE _ _ _ _ _ (by omega) (by omega) (by omega) (by omega) (by omega) (.inl (by omega))
theorem sub_val (l m:List Nat) (hl:IsE l) (hm:IsE m):valF (subTo l m 5) % P255 = (valF l % P255 + (P255 - valF m % P255)) % P255:=by
 obtain ⟨a,b,c,d,e,rfl,ha,hb,hc,hd,he⟩:=hl
 obtain ⟨a',b',c',d',e',rfl,ha',hb',hc',hd',he'⟩:=hm
 rw [subTo_five]
 have e1:valF [a + (4503599627370458 - a'),b + (4503599627370494 - b'),c + (4503599627370494 - c'),d + (4503599627370494 - d'),e + (4503599627370494 - e')] + valF [a',b',c',d',e'] = valF [a,b,c,d,e] + P255 + P255:=by
  simp only [valF,P255_num]
  omega
 generalize valF [a + (4503599627370458 - a'),b + (4503599627370494 - b'),c + (4503599627370494 - c'),d + (4503599627370494 - d'),e + (4503599627370494 - e')] = V at e1 ⊢
 generalize valF [a,b,c,d,e] = X at e1 ⊢
 generalize valF [a',b',c',d',e'] = Y at e1 ⊢
 rw [P255_num] at e1 ⊢
 omega
theorem add_isE (l m:List Nat) (hl:IsE l) (hm:IsE m):IsE (carF (addTo l m 5)):=by
 obtain ⟨a,b,c,d,e,rfl,ha,hb,hc,hd,he⟩:=hl
 obtain ⟨a',b',c',d',e',rfl,ha',hb',hc',hd',he'⟩:=hm
 show IsE (carF [a + a',b + b',c + c',d + d',e + e'])
 exact carF_isE _ _ _ _ _ (by omega) (by omega) (by omega) (by omega) (by omega) (.inl (by omega))
theorem add_val (l m:List Nat) (hl:IsE l) (hm:IsE m):valF (addTo l m 5) % P255 = (valF l % P255 + valF m % P255) % P255:=by
 obtain ⟨a,b,c,d,e,rfl,ha,hb,hc,hd,he⟩:=hl
 obtain ⟨a',b',c',d',e',rfl,ha',hb',hc',hd',he'⟩:=hm
 have e1:valF (addTo [a,b,c,d,e] [a',b',c',d',e'] 5) = valF [a,b,c,d,e] + valF [a',b',c',d',e']:=by
  show valF [a + a',b + b',c + c',d + d',e + e'] = _
  simp only [valF]
  omega
 rw [e1,Nat.add_mod]
def prT (x y:List Nat) (k i:Nat):Nat:=if k < i then 19 * atD x i * atD y (k + 5 - i) else atD x i * atD y (k - i)
def rowT (x y:List Nat) (k c:Nat):Nat → Nat
 | 0 => c
 | i + 1 => rowT x y k c i + prT x y k i
def mulF (x y:List Nat):Nat → List Nat × Nat
 | 0 => ([0,0,0,0,0],0)
 | k + 1 => ((mulF x y k).1.set k (rowT x y k (mulF x y k).2 5 % 2251799813685248),rowT x y k (mulF x y k).2 5 / 2251799813685248)
theorem mulF_length (x y:List Nat):∀ k,(mulF x y k).1.length = 5
 | 0 => rfl
 | k + 1 => by rw [mulF,List.length_set,mulF_length x y k]
theorem prod_lt (a b A B:Nat) (ha:a ≤ A) (hb:b ≤ B):a * b ≤ A * B:=Nat.mul_le_mul ha hb
theorem prT_lt (x y:List Nat) (hx:IsE x) (hy:IsE y) (k i:Nat):prT x y k i < 96341445617348601000000000000000:=by
 have h1:∀ j,atD x j ≤ 2251799813685285:=fun j => Nat.le_of_lt_succ (atD_bound x _ (by decide) hx.lt j)
 have h2:∀ j,atD y j ≤ 2251799813685285:=fun j => Nat.le_of_lt_succ (atD_bound y _ (by decide) hy.lt j)
 unfold prT
 split
 ·have:=prod_lt _ _ _ _ (h1 i) (h2 (k + 5 - i))
  rw [Nat.mul_assoc]
  omega
 ·have:=prod_lt _ _ _ _ (h1 i) (h2 (k - i))
  omega
theorem rowT_lt (x y:List Nat) (hx:IsE x) (hy:IsE y) (k c:Nat):∀ i,rowT x y k c i ≤ c + i * 96341445617348601000000000000000
 | 0 => by simp [rowT]
 | i + 1 => by
  have h1:=rowT_lt x y hx hy k c i
  have h2:=prT_lt x y hx hy k i
  rw [rowT]
  omega
theorem mulF_over (x y:List Nat) (hx:IsE x) (hy:IsE y):∀ k,(mulF x y k).2 < 288230376151711744
 | 0 => by simp [mulF]
 | k + 1 => by
  have h1:=mulF_over x y hx hy k
  have h2:=rowT_lt x y hx hy k (mulF x y k).2 5
  rw [mulF];simp only;omega
theorem rowT_small (x y:List Nat) (hx:IsE x) (hy:IsE y) (k i:Nat) (hi:i ≤ 5):rowT x y k (mulF x y k).2 i < 649037107316853453566312041152512:=by
 have h1:=mulF_over x y hx hy k
 have h2:=rowT_lt x y hx hy k (mulF x y k).2 i
 have h3:i * 96341445617348601000000000000000 ≤ 5 * 96341445617348601000000000000000:=Nat.mul_le_mul_right _ hi
 omega
def endF (x y:List Nat):List Nat:=(mulF x y 5).1.set 0 (atD (mulF x y 5).1 0 + 19 * (mulF x y 5).2)
theorem rowT_five (a b c d e a' b' c' d' e' z:Nat) :
  rowT [a,b,c,d,e] [a',b',c',d',e'] 0 z 5 = z + a * a' + 19 * b * e' + 19 * c * d' + 19 * d * c' + 19 * e * b' ∧
  rowT [a,b,c,d,e] [a',b',c',d',e'] 1 z 5 = z + a * b' + b * a' + 19 * c * e' + 19 * d * d' + 19 * e * c' ∧
  rowT [a,b,c,d,e] [a',b',c',d',e'] 2 z 5 = z + a * c' + b * b' + c * a' + 19 * d * e' + 19 * e * d' ∧
  rowT [a,b,c,d,e] [a',b',c',d',e'] 3 z 5 = z + a * d' + b * c' + c * b' + d * a' + 19 * e * e' ∧
  rowT [a,b,c,d,e] [a',b',c',d',e'] 4 z 5 = z + a * e' + b * d' + c * c' + d * b' + e * a':=by
 refine ⟨?_,?_,?_,?_,?_⟩ <;> simp [rowT,prT,atD]
theorem mulF_five (x y:List Nat):∃ t0 t1 t2 t3 t4:Nat,t0 = rowT x y 0 0 5 ∧ t1 = rowT x y 1 (t0 / 2251799813685248) 5 ∧ t2 = rowT x y 2 (t1 / 2251799813685248) 5 ∧ t3 = rowT x y 3 (t2 / 2251799813685248) 5 ∧ t4 = rowT x y 4 (t3 / 2251799813685248) 5 ∧
  mulF x y 5 = ([t0 % 2251799813685248,t1 % 2251799813685248,t2 % 2251799813685248,t3 % 2251799813685248,t4 % 2251799813685248],t4 / 2251799813685248):=by
 refine ⟨_,_,_,_,_,rfl,rfl,rfl,rfl,rfl,?_⟩
 simp [mulF]
theorem five_sums (S0 S1 S2 S3 S4 t0 t1 t2 t3 t4:Nat) (h0:t0 = S0) (h1:t1 = t0 / 2251799813685248 + S1) (h2:t2 = t1 / 2251799813685248 + S2) (h3:t3 = t2 / 2251799813685248 + S3) (h4:t4 = t3 / 2251799813685248 + S4) :
  valF [t0 % 2251799813685248 + 19 * (t4 / 2251799813685248),t1 % 2251799813685248,t2 % 2251799813685248,t3 % 2251799813685248,t4 % 2251799813685248] + P255 * (t4 / 2251799813685248) = valF [S0,S1,S2,S3,S4]:=by
 simp only [valF,P255_num]
 omega
theorem mul_nat (a b c d e a' b' c' d' e':Nat) :
  (a + 2251799813685248 * (b + 2251799813685248 * (c + 2251799813685248 * (d + 2251799813685248 * e)))) * (a' + 2251799813685248 * (b' + 2251799813685248 * (c' + 2251799813685248 * (d' + 2251799813685248 * e')))) =
   (a * a' + 19 * b * e' + 19 * c * d' + 19 * d * c' + 19 * e * b') + 2251799813685248 * ((a * b' + b * a' + 19 * c * e' + 19 * d * d' + 19 * e * c') + 2251799813685248 * ((a * c' + b * b' + c * a' + 19 * d * e' + 19 * e * d') + 2251799813685248 * ((a * d' + b * c' + c * b' + d * a' + 19 * e * e') + 2251799813685248 * (a * e' + b * d' + c * c' + d * b' + e * a')))) +
   57896044618658097711785492504343953926634992332820282019728792003956564819949 * ((b * e' + c * d' + d * c' + e * b') + 2251799813685248 * ((c * e' + d * d' + e * c') + 2251799813685248 * ((d * e' + e * d') + 2251799813685248 * (e * e')))):=by
 grind
theorem endF_five (x y:List Nat) (hx:IsE x) (hy:IsE y):∃ q Q:Nat,valF (endF x y) + P255 * q = valF x * valF y - P255 * Q ∧ P255 * Q ≤ valF x * valF y:=by
 obtain ⟨a,b,c,d,e,rfl,_⟩:=hx
 obtain ⟨a',b',c',d',e',rfl,_⟩:=hy
 obtain ⟨t0,t1,t2,t3,t4,h0,h1,h2,h3,h4,hm⟩:=mulF_five [a,b,c,d,e] [a',b',c',d',e']
 rw [(rowT_five a b c d e a' b' c' d' e' _).1] at h0
 rw [(rowT_five a b c d e a' b' c' d' e' _).2.1] at h1
 rw [(rowT_five a b c d e a' b' c' d' e' _).2.2.1] at h2
 rw [(rowT_five a b c d e a' b' c' d' e' _).2.2.2.1] at h3
 rw [(rowT_five a b c d e a' b' c' d' e' _).2.2.2.2] at h4
 have hs:=five_sums (a * a' + 19 * b * e' + 19 * c * d' + 19 * d * c' + 19 * e * b') (a * b' + b * a' + 19 * c * e' + 19 * d * d' + 19 * e * c') (a * c' + b * b' + c * a' + 19 * d * e' + 19 * e * d') (a * d' + b * c' + c * b' + d * a' + 19 * e * e') (a * e' + b * d' + c * c' + d * b' + e * a') t0 t1 t2 t3 t4
  (by omega) (by omega) (by omega) (by omega) (by omega)
 have hr:=mul_nat a b c d e a' b' c' d' e'
 have he:endF [a,b,c,d,e] [a',b',c',d',e'] = [t0 % 2251799813685248 + 19 * (t4 / 2251799813685248),t1 % 2251799813685248,t2 % 2251799813685248,t3 % 2251799813685248,t4 % 2251799813685248]:=by rw [endF,hm];rfl
 refine ⟨t4 / 2251799813685248,(b * e' + c * d' + d * c' + e * b') + 2251799813685248 * ((c * e' + d * d' + e * c') + 2251799813685248 * ((d * e' + e * d') + 2251799813685248 * (e * e'))),?_,?_⟩
 ·rw [he,hs,P255_num]
  simp only [valF,Nat.mul_zero,Nat.add_zero]
  omega
 ·rw [P255_num]
  simp only [valF,Nat.mul_zero,Nat.add_zero]
  omega
theorem endF_val (x y:List Nat) (hx:IsE x) (hy:IsE y):valF (endF x y) % P255 = valF x % P255 * (valF y % P255) % P255:=by
 obtain ⟨q,Q,h1,h2⟩:=endF_five x y hx hy
 rw [← Nat.mul_mod]
 have h3:valF x * valF y = valF (endF x y) + P255 * (q + Q):=by rw [Nat.mul_add];omega
 rw [h3,Nat.add_mul_mod_self_left]
theorem endF_small (x y:List Nat) (hx:IsE x) (hy:IsE y):(endF x y).length = 5 ∧ (∀ t ∈ endF x y,t < 9223372036854775808) ∧ IsE (carF (endF x y)):=by
 have ho:=mulF_over x y hx hy 5
 obtain ⟨t0,t1,t2,t3,t4,h0,h1,h2,h3,h4,hm⟩:=mulF_five x y
 have he:endF x y = [t0 % 2251799813685248 + 19 * (t4 / 2251799813685248),t1 % 2251799813685248,t2 % 2251799813685248,t3 % 2251799813685248,t4 % 2251799813685248]:=by rw [endF,hm];rfl
 rw [hm] at ho
 simp only at ho
 clear h0 h1 h2 h3 h4 hm
 rw [he]
 refine ⟨rfl,by simp;omega,?_⟩
 exact carF_isE _ _ _ _ _ (by omega) (by omega) (by omega) (by omega) (by omega) (.inr ⟨by omega,by omega,by omega,by omega⟩)
def frT (n:Nat):Nat → List Nat
 | 0 => [0,0,0,0,0]
 | k + 1 => (frT n k).set k (n / 2251799813685248 ^ k % 2251799813685248)
theorem frT_length (n:Nat):∀ k,(frT n k).length = 5
 | 0 => rfl
 | k + 1 => by rw [frT,List.length_set,frT_length n k]
theorem frT_five (n:Nat):frT n 5 = [n / 2251799813685248 ^ 0 % 2251799813685248,n / 2251799813685248 ^ 1 % 2251799813685248,n / 2251799813685248 ^ 2 % 2251799813685248,n / 2251799813685248 ^ 3 % 2251799813685248,n / 2251799813685248 ^ 4 % 2251799813685248]:=by
 simp [frT]
theorem frT_isE (n:Nat):IsE (frT n 5):=
 ⟨_,_,_,_,_,frT_five n,Nat.lt_trans (Nat.mod_lt _ (by decide)) (by decide),Nat.mod_lt _ (by decide),Nat.mod_lt _ (by decide),Nat.mod_lt _ (by decide),Nat.mod_lt _ (by decide)⟩
theorem frT_val (n:Nat):valF (frT n 5) = n % 2 ^ 255:=by
 rw [frT_five]
 simp only [valF,show (2251799813685248:Nat) ^ 0 = 1 from rfl,show (2251799813685248:Nat) ^ 1 = 2251799813685248 from rfl,show (2251799813685248:Nat) ^ 2 = 5070602400912917605986812821504 from rfl,show (2251799813685248:Nat) ^ 3 = 11417981541647679048466287755595961091061972992 from rfl,show (2251799813685248:Nat) ^ 4 = 25711008708143844408671393477458601640355247900524685364822016 from rfl,show (2:Nat) ^ 255 = 57896044618658097711785492504343953926634992332820282019728792003956564819968 from rfl]
 omega
theorem fr_cut (l:List UInt8) (k q s:Nat) (hk:k < 5) (hq:q = min (k * 51 / 8) 24) (hs:s = k * 51 - 8 * q):getV l false q 8 / 2 ^ s % 2251799813685248 = leN l / 2251799813685248 ^ k % 2251799813685248:=by
 rw [getV_cut]
 generalize leN l = n
 have:k = 0 ∨ k = 1 ∨ k = 2 ∨ k = 3 ∨ k = 4:=by omega
 rcases this with rfl | rfl | rfl | rfl | rfl
 ·obtain rfl:q = 0:=by rw [hq];rfl
  obtain rfl:s = 0:=by rw [hs]
  simp only [show (256:Nat) ^ 0 = 1 from rfl,show (256:Nat) ^ 8 = 18446744073709551616 from rfl]
  omega
 ·obtain rfl:q = 6:=by rw [hq];rfl
  obtain rfl:s = 3:=by rw [hs]
  simp only [show (256:Nat) ^ 6 = 281474976710656 from rfl,show (256:Nat) ^ 8 = 18446744073709551616 from rfl,show (2:Nat) ^ 3 = 8 from rfl,show (2251799813685248:Nat) ^ 1 = 281474976710656 * 8 from rfl,← Nat.div_div_eq_div_mul]
  generalize n / 281474976710656 = m
  omega
 ·obtain rfl:q = 12:=by rw [hq];rfl
  obtain rfl:s = 6:=by rw [hs]
  simp only [show (256:Nat) ^ 12 = 79228162514264337593543950336 from rfl,show (256:Nat) ^ 8 = 18446744073709551616 from rfl,show (2:Nat) ^ 6 = 64 from rfl,show (2251799813685248:Nat) ^ 2 = 79228162514264337593543950336 * 64 from rfl,← Nat.div_div_eq_div_mul]
  generalize n / 79228162514264337593543950336 = m
  omega
 ·obtain rfl:q = 19:=by rw [hq];rfl
  obtain rfl:s = 1:=by rw [hs]
  simp only [show (256:Nat) ^ 8 = 18446744073709551616 from rfl,show (2:Nat) ^ 1 = 2 from rfl,show (2251799813685248:Nat) ^ 3 = 256 ^ 19 * 2 from rfl,← Nat.div_div_eq_div_mul]
  generalize n / 256 ^ 19 = m
  omega
 ·obtain rfl:q = 24:=by rw [hq];rfl
  obtain rfl:s = 12:=by rw [hs]
  simp only [show (256:Nat) ^ 8 = 18446744073709551616 from rfl,show (2:Nat) ^ 12 = 4096 from rfl,show (2251799813685248:Nat) ^ 4 = 256 ^ 24 * 4096 from rfl,← Nat.div_div_eq_div_mul]
  generalize n / 256 ^ 24 = m
  omega
theorem leB_both:∀ a b n,leB (a + b) n = leB a n ++ leB b (n / 256 ^ a)
 | 0,b,n => by simp [leB]
 | a + 1,b,n => by
  rw [show a + 1 + b = (a + b) + 1 by omega,leB,leB,leB_both a b (n / 256),Nat.div_div_eq_div_mul,Nat.pow_succ,Nat.mul_comm 256 (256 ^ a)]
  rfl
theorem leB_low:∀ a n,leB a (n % 256 ^ a) = leB a n
 | 0,n => rfl
 | a + 1,n => by
  have h1:n % 256 ^ (a + 1) % 256 = n % 256:=by rw [Nat.pow_succ,Nat.mul_comm,Nat.mod_mul_right_mod]
  have h2:n % 256 ^ (a + 1) / 256 = n / 256 % 256 ^ a:=by rw [Nat.pow_succ,Nat.mul_comm,Nat.mod_mul_right_div_self]
  rw [leB,leB,h2,leB_low a (n / 256)]
  simp only [h1]
def wds (x:Nat):Nat → List UInt8
 | 0 => []
 | k + 1 => wds x k ++ leB 8 (x / 18446744073709551616 ^ k % 18446744073709551616)
theorem wds_all (x:Nat):∀ k,wds x k = leB (8 * k) x
 | 0 => rfl
 | k + 1 => by
  rw [wds,wds_all x k,show 8 * (k + 1) = 8 * k + 8 by omega,leB_both (8 * k) 8 x,show (18446744073709551616:Nat) = 256 ^ 8 from rfl,leB_low 8,Nat.pow_mul]
theorem word_two (l:List Nat) (hl:l.length = 5) (hb:∀ x ∈ l,x < 2251799813685248) (k:Nat) (hk:k < 4) :
  atD l k / 2 ^ (13 * k) + atD l (k + 1) * 2 ^ (51 - 13 * k) % 18446744073709551616 = valF l / 18446744073709551616 ^ k % 18446744073709551616:=by
 obtain ⟨a,b,c,d,e,rfl⟩:=five l hl
 simp at hb
 obtain ⟨ha,hb,hc,hd,he⟩:=hb
 have:k = 0 ∨ k = 1 ∨ k = 2 ∨ k = 3:=by omega
 rcases this with rfl | rfl | rfl | rfl <;> simp [atD,valF] <;> omega
def pw (x e:Nat):Nat:=x ^ e % P255
theorem pw_one (x:Nat) (h:x < P255):pw x 1 = x:=by rw [pw,Nat.pow_one,Nat.mod_eq_of_lt h]
theorem pw_mul (x e f:Nat):pw x e * pw x f % P255 = pw x (e + f):=by rw [pw,pw,pw,← Nat.mul_mod,Nat.pow_add]
theorem pw_double (x e:Nat):pw x e * pw x e % P255 = pw x (e * 2):=by rw [pw_mul,Nat.mul_two]
theorem pw_inv (x e:Nat) (h:E255 = e):finv x = pw x e:=by rw [← h];rfl
theorem E255_num:E255 = 57896044618658097711785492504343953926634992332820282019728792003956564819947:=rfl
def nf (n:Nat):Value:=.int .u64 (n:Int)
def Nf (w:World) (g:Nat) (l:List Nat):Prop:=w.heap[g]? = some (.cells (l.map nf).toArray 96 (0,0))
theorem Nf.set {w:World} {g:Nat} {l:List Nat} (h:Nf w g l) (i:Nat) (x:Nat):Nf (w.setCell ⟨g,i,none⟩ (nf x)) g (l.set i x):=by
 have:=heap_setCell_same w g i _ _ (nf x) h
 unfold Nf
 rw [this,List.map_set]
 simp
theorem Nf.other {w:World} {g g':Nat} {l:List Nat} (h:Nf w g l) (hne:g ≠ g') (i:Nat) (v:Value):Nf (w.setCell ⟨g',i,none⟩ v) g l:=by
 unfold Nf
 rw [heap_setCell_other w ⟨g',i,none⟩ g v hne]
 exact h
theorem Nf.drew {w:World} {g:Nat} {l:List Nat} (h:Nf w g l):Nf w.drew g l:=h
theorem Nf.word {w:World} {g:Nat} {l:List Nat} (h:Nf w g l) (i:Nat) (hi:i < l.length) :
  w.cell? ⟨g,i,none⟩ = some (.int .u64 (atD l i:Int)) ∧ w.frozen? ⟨g,i,none⟩ = false:=by
 refine ⟨?_,frozen_of_row w g i _ _ h⟩
 rw [cell_of_row w g i _ _ (0,0) h,atD_get l i hi]
 simp [hi,nf]
theorem Nf.lt {w:World} {g:Nat} {l:List Nat} (h:Nf w g l):g < w.heap.size:=(Array.getElem?_eq_some_iff.1 h).1
theorem Nf.later {w w':World} {g:Nat} {l:List Nat} (h:Nf w g l) (hb:Below w.heap.size w w'):Nf w' g l:=by
 unfold Nf
 rw [hb.block g h.lt]
 exact h
theorem Nf.alloc {w:World} {g:Nat} {l:List Nat} (h:Nf w g l) (o:Obj):Nf (w.alloc o) g l:=by
 unfold Nf
 rw [Below.heap_alloc _ _ _ h.lt]
 exact h
theorem Nf.put_other {w:World} {g g':Nat} {l:List Nat} (h:Nf w g l) (hne:g ≠ g') (cs:Array Value):Nf (w.setRow g' cs) g l:=by
 unfold Nf
 rw [setRow_other _ _ _ _ hne]
 exact h
theorem nf_oneCell (l:List Nat):∀ u ∈ l.map nf,u.oneCell' = true:=by
 intro u hu
 simp only [List.mem_map] at hu
 obtain ⟨c,_,rfl⟩:=hu
 rfl
theorem nf_info (l:List Nat) (hl:l.length = 5):(Tryz.prog.info? 96).map (·.size) = some (l.map nf).toArray.size:=by
 have e1:(Tryz.prog.info? 96).map (·.size) = some 5:=by kernel_rfl
 rw [e1];simp [hl]
theorem results_cell_slot {P:Program} {fn:Func} {p q:Tmp} {ty:TypeId} (h:fn.results = #[.cell p ty,.tmp q]) (tmps:Array Value) (w:World) (g1:Nat) (t:TypeId) (A:Array Value) (v:Value) (d:TypeDesc)
  (hp:tmps.getD p undef = .pointer (some ⟨g1,0,none⟩)) (hq:tmps.getD q undef = v)
  (h1:w.heap[g1]? = some (.cells A t (0,0)))
  (hu:P.underlying ty = some d) (hd:(match d with | .struct _ | .array _ _ => true | _ => false) = true) (hA:(P.info? ty).map (·.size) = some A.size) :
  (results fn tmps).run P w = .ok (.tuple #[.agg A,v]) w:=by
 have hp':tmps[p]?.getD undef = .pointer (some ⟨g1,0,none⟩):=by simpa using hp
 have hq':tmps[q]?.getD undef = v:=by simpa using hq
 simp [results,h,hp',hq',asAddr,run_loadVar_row w g1 t ty A (0,0) d h1 hu hd hA]
structure FB (w:World) (g r:Nat) (l:List Nat) (W:World):Prop where
 now:Nf W g l
 res:Nf W r [0,0,0,0,0]
 ne:g ≠ r
 bg:w.heap.size ≤ g
 br:w.heap.size ≤ r
 bel:Below w.heap.size w W
theorem FB.set {w W:World} {g r:Nat} {l:List Nat} (h:FB w g r l W) (i x:Nat):FB w g r (l.set i x) (W.setCell ⟨g,i,none⟩ (nf x)):=by
 have hg:=h.bg
 exact ⟨h.now.set i x,h.res.other (Ne.symm h.ne) i _,h.ne,h.bg,h.br,h.bel.setCell (p:=⟨g,i,none⟩) (by show _ ≤ g;omega) _⟩
theorem FB.new1 (w:World) (l:List Nat):FB w w.heap.size (w.heap.size + 1) l ((w.alloc (.cells (l.map nf).toArray 96)).alloc (.cells #[.int .u64 0,.int .u64 0,.int .u64 0,.int .u64 0,.int .u64 0] 96)):=by
 refine ⟨?_,?_,by omega,by omega,by omega,?_⟩
 ·unfold Nf
  rw [Below.heap_alloc _ _ _ (by simp)]
  exact heap_alloc_new w _
 ·have:=heap_alloc_new (w.alloc (.cells (l.map nf).toArray 96)) (.cells #[.int .u64 0,.int .u64 0,.int .u64 0,.int .u64 0,.int .u64 0] 96)
  rw [World.size_alloc] at this
  exact this
 ·exact ((Below.refl _ _).alloc (Nat.le_refl _) _).alloc (by simp) _
theorem FB.later {w W W':World} {g r:Nat} {l:List Nat} (t:FB w g r l W) (hb:Below W.heap.size W W'):FB w g r l W':=
 ⟨t.now.later hb,t.res.later hb,t.ne,t.bg,t.br,t.bel.trans (hb.mono t.bel.size)⟩
theorem FB.put {w W:World} {g r:Nat} {l:List Nat} (t:FB w g r l W) (l':List Nat):FB w g r l' (W.setRow g (l'.map nf).toArray):=
 ⟨setRow_heap W g _ _ _ _ t.now,t.res.put_other (Ne.symm t.ne) _,t.ne,t.bg,t.br,below_setRow t.bel t.bg _⟩
theorem and51 (n:Nat) (h:n < 18446744073709551616):bits .and .u64 (n:Int) 2251799813685247 = ((n % 2251799813685248:Nat):Int):=by
 have e:(BitVec.ofInt 64 (n:Int) &&& BitVec.ofInt 64 2251799813685247).toNat = n % 2251799813685248:=by
  rw [BitVec.toNat_and,BitVec.toNat_ofInt]
  have h7:(BitVec.ofInt 64 2251799813685247).toNat = 2 ^ 51 - 1:=by decide
  rw [h7,Nat.and_two_pow_sub_one_eq_mod]
  omega
 show IntKind.u64.wrap ((BitVec.ofInt 64 (n:Int) &&& BitVec.ofInt 64 2251799813685247).toNat:Int) = _
 rw [e,IntKind.wrap_u64]
 omega
set_option maxHeartbeats 1000000 in
set_option maxRecDepth 100000 in
theorem plus_any (l:List Nat) (n:Nat) (w:World) (hl:l.length = 5) (hb:∀ x ∈ l,x < 9223372036854775808) (hn:n < 4611686018427387904) :
  Calls Tryz.prog 119 #[.agg (l.map nf).toArray,.int .u64 (n:Int)] w fun e w' => e = .returned (.tuple #[.agg ((plTo l n 5).1.map nf).toArray,.int .u64 ((plTo l n 5).2:Int)]) ∧ Below w.heap.size w w':=by
 go_enter Tryz.func119,Tryz.ntmps119
 go_wp2
 refine from_world (P:=Code.wp Tryz.prog _ _ _) (R:=fun W => Hid (FB w w.heap.size (w.heap.size + 1) l W)) _ (FB.new1 w l) ?_
 intro W0 hN0
 generalize hg:w.heap.size = g at hN0 ⊢
 generalize hr:g + 1 = r at hN0 ⊢
 go_loopw [6,9] (fun o i wr => ∃ k x:Nat,k ≤ 5 ∧ i = .int .i64 k ∧ o = .int .u64 (x:Int) ∧ Hid ((plTo l n k).2 = x) ∧ Hid (FB w g r (plTo l n k).1 wr)) (fun _ i _ => 5 - (intOf i).toNat)
 case atStart => exact ⟨0,n,by omega,rfl,rfl,rfl,hN0⟩
 case round =>
  clear hN0
  obtain ⟨k,x,hk,rfl,rfl,hx,hN⟩:=hrel
  by_cases hlt:k < 5
  ·have hki:(k:Int) < 5:=by omega
   obtain ⟨a,ha⟩:∃ a,atD (plTo l n k).1 k = a:=⟨_,rfl⟩
   obtain ⟨cc,fr⟩:=hN.out.now.word k (by rw [plTo_length];omega)
   rw [ha] at cc
   have hN1:=(hN.out.set k (a + x)).set k ((a + x) % 2251799813685248)
   rw [List.set_set] at hN1
   have HN1:Hid (FB w g r (plTo l n (k + 1)).1 ((wr.setCell ⟨g,k,none⟩ (.int .u64 ((a + x:Nat):Int))).setCell ⟨g,k,none⟩ (.int .u64 (((a + x) % 2251799813685248:Nat):Int)))):=by rw [plTo,ha,hx.out];exact hN1
   have hov:=plTo_over l n hb hn k
   rw [hx.out] at hov
   have hab:a < 9223372036854775808:=by rw [← ha,plTo_at l n k k (Nat.le_refl _)];exact atD_bound l _ (by omega) hb k
   have e1:IntKind.u64.wrap ((a:Int) + (x:Int)) = ((a + x:Nat):Int):=by rw [IntKind.wrap_u64];omega
   have E1:Hid (IntKind.u64.wrap ((a:Int) + (x:Int)) = ((a + x:Nat):Int)):=e1
   have E2:Hid (bits .and .u64 ((a + x:Nat):Int) 2251799813685247 = (((a + x) % 2251799813685248:Nat):Int)):=and51 (a + x) (by omega)
   have E3:Hid ((plTo l n (k + 1)).2 = (a + x) / 2251799813685248):=by rw [plTo,ha,hx.out];rfl
   clear hN hN1 e1 hx ha hov hab
   go_wp2
   rw [E1.out,E2.out]
   exact ⟨⟨k + 1,(a + x) / 2251799813685248,by omega,by go_num,by congr 1 <;> omega,E3,HN1⟩,by simp [intOf];omega⟩
  ·have ek:k = 5:=by omega
   subst ek
   have hkr:¬ ((5:Nat):Int) < 5:=by omega
   obtain ⟨m,hm⟩:∃ m,(plTo l n 5).1 = m:=⟨_,rfl⟩
   have hml:m.length = 5:=by rw [← hm,plTo_length,hl]
   rw [hm] at hN
   have HM:Hid ((plTo l n 5).1 = m):=hm
   have IB:Hid ((Tryz.prog.info? 96).map (·.size) = some (m.map nf).toArray.size):=nf_info m hml
   have hst:=store_row wr r _ _ (m.map nf) hN.out.res (by simp [hml]) (nf_oneCell m)
   have hrow:=setRow_heap wr r _ (m.map nf).toArray _ _ hN.out.res
   have HBel:Hid (Below w.heap.size w (wr.setRow r (m.map nf).toArray)):=below_setRow hN.out.bel hN.out.br _
   obtain ⟨W4,hW4⟩:∃ W4,wr.setRow r (m.map nf).toArray = W4:=⟨_,rfl⟩
   rw [hW4] at hst hrow HBel
   have HRow:Hid (W4.heap[r]? = some (.cells (m.map nf).toArray 96 (0,0))):=hrow
   clear hrow hW4 hm hb
   go_wp2_with (first | refine wpList_load_row rfl 96 _ rfl g rfl 96 _ (0,0) _ hN.out.now Tryz.underlying96 rfl IB.out ?_)
   (try simp only [Exit.inBlock,Exit.then])
   refine bodyPost_ret (results_cell_slot rfl _ _ r 96 _ (.int .u64 (x:Int)) _ rfl rfl HRow.out Tryz.underlying96 rfl IB.out) rfl ?_
   exact ⟨by rw [HM.out,hx.out],by rw [← hg];exact HBel.out⟩
set_option maxHeartbeats 1000000 in
set_option maxRecDepth 100000 in
theorem fcarry_any (l:List Nat) (w:World) (hl:l.length = 5) (hb:∀ x ∈ l,x < 9223372036854775808) :
  Calls Tryz.prog 88 #[.agg (l.map nf).toArray] w fun e w' => e = .returned (.agg ((carF l).map nf).toArray) ∧ Below w.heap.size w w':=by
 have IL:Hid ((Tryz.prog.info? 96).map (·.size) = some (l.map nf).toArray.size):=nf_info l hl
 have HN0:Hid (FB w w.heap.size (w.heap.size + 1) l ((w.alloc (.cells (l.map nf).toArray 96)).alloc (.cells #[.int .u64 0,.int .u64 0,.int .u64 0,.int .u64 0,.int .u64 0] 96))):=FB.new1 w l
 go_enter Tryz.func88,Tryz.ntmps88
 go_wp2_with (first | refine wpList_load_row rfl 96 _ rfl w.heap.size rfl 96 _ (0,0) _ HN0.out.now Tryz.underlying96 rfl IL.out ?_ | fail)
 refine (plus_any l 0 _ hl hb (by decide)).mono ?_
 rintro e W1 ⟨rfl,hb1⟩
 have hN1:=HN0.out.later hb1
 obtain ⟨m,hm⟩:∃ m,(plTo l 0 5).1 = m:=⟨_,rfl⟩
 obtain ⟨x,hx⟩:∃ x,(plTo l 0 5).2 = x:=⟨_,rfl⟩
 have hml:m.length = 5:=by rw [← hm,plTo_length,hl]
 obtain ⟨a,ha⟩:∃ a,atD m 0 = a:=⟨_,rfl⟩
 have hc:carF l = m.set 0 (a + 19 * x):=by rw [carF,hm,hx,ha]
 obtain ⟨hab,hxb⟩:a < 2251799813685248 ∧ x < 16384:=by
  obtain ⟨p0,p1,p2,p3,p4,rfl⟩:=five l hl
  obtain ⟨o0,o1,o2,o3,o4,h0,h1,h2,h3,h4,hp⟩:=plTo_five p0 p1 p2 p3 p4 0
  rw [hp] at hm hx
  simp at hb
  rw [← ha,← hm,← hx]
  refine ⟨Nat.mod_lt _ (by decide),?_⟩
  show o4 < _
  omega
 rw [hm,hx]
 have hst:=store_row W1 w.heap.size _ _ (m.map nf) hN1.now (by simp [hml,hl]) (nf_oneCell m)
 have hN2:=hN1.put m
 obtain ⟨W2,hW2⟩:∃ W2,W1.setRow w.heap.size (m.map nf).toArray = W2:=⟨_,rfl⟩
 rw [hW2] at hst hN2
 obtain ⟨cc,fr⟩:=hN2.now.word 0 (by omega)
 rw [ha] at cc
 have hN3:=hN2.set 0 (a + 19 * x)
 have e1:IntKind.u64.wrap ((a:Int) + 19 * (x:Int)) = ((a + 19 * x:Nat):Int):=by rw [IntKind.wrap_u64];omega
 obtain ⟨W3,hW3⟩:∃ W3,W2.setCell ⟨w.heap.size,0,none⟩ (.int .u64 (IntKind.u64.wrap ((a:Int) + 19 * (x:Int)))) = W3:=⟨_,rfl⟩
 have hN4:FB w w.heap.size (w.heap.size + 1) (carF l) W3:=by rw [hc,← hW3,e1];exact hN3
 obtain ⟨c,hcc⟩:∃ c,carF l = c:=⟨_,rfl⟩
 have hcl:c.length = 5:=by rw [← hcc,carF_length,hl]
 rw [hcc] at hN4
 have HC:Hid (carF l = c):=hcc
 have HN4:Hid (FB w w.heap.size (w.heap.size + 1) c W3):=hN4
 have HW3:Hid (W2.setCell ⟨w.heap.size,0,none⟩ (.int .u64 (IntKind.u64.wrap ((a:Int) + 19 * (x:Int)))) = W3):=hW3
 have IC:Hid ((Tryz.prog.info? 96).map (·.size) = some (c.map nf).toArray.size):=nf_info c hcl
 have hst2:=store_row W3 (w.heap.size + 1) _ _ (c.map nf) HN4.out.res (by simp [hcl]) (nf_oneCell c)
 have hrow:=setRow_heap W3 (w.heap.size + 1) _ (c.map nf).toArray _ _ HN4.out.res
 have HBel:Hid (Below w.heap.size w (W3.setRow (w.heap.size + 1) (c.map nf).toArray)):=below_setRow HN4.out.bel HN4.out.br _
 obtain ⟨W4,hW4⟩:∃ W4,W3.setRow (w.heap.size + 1) (c.map nf).toArray = W4:=⟨_,rfl⟩
 rw [hW4] at hst2 hrow HBel
 have HRow:Hid (W4.heap[w.heap.size + 1]? = some (.cells (c.map nf).toArray 96 (0,0))):=hrow
 clear hrow hW4 hN4 hW3 hN3 hN2 hW2 hN1 hm hx ha hc hcc hb hb1 HN0 e1 hab
 go_wp2_with (first | (rw [HW3.out];refine wpList_load_row rfl 96 _ rfl w.heap.size rfl 96 _ (0,0) _ HN4.out.now Tryz.underlying96 rfl IC.out ?_))
 (try simp only [Exit.inBlock,Exit.then])
 refine bodyPost_ret (results_cell_row rfl _ _ (w.heap.size + 1) 96 _ (0,0) _ rfl HRow.out Tryz.underlying96 rfl IC.out) rfl ?_
 exact ⟨by rw [HC.out],HBel.out⟩
set_option maxHeartbeats 1000000 in
set_option maxRecDepth 100000 in
theorem fleast_any (l:List Nat) (w:World) (hE:IsE l) :
  Calls Tryz.prog 90 #[.agg (l.map nf).toArray] w fun e w' => e = .returned (.agg ((lesF l).map nf).toArray) ∧ Below w.heap.size w w':=by
 have hl:=hE.len
 have IL:Hid (∀ m:List Nat,m.length = 5 → (Tryz.prog.info? 96).map (·.size) = some (m.map nf).toArray.size):=fun m hm => nf_info m hm
 have HN0:Hid (FB w w.heap.size (w.heap.size + 1) l ((w.alloc (.cells (l.map nf).toArray 96)).alloc (.cells #[.int .u64 0,.int .u64 0,.int .u64 0,.int .u64 0,.int .u64 0] 96))):=FB.new1 w l
 go_enter Tryz.func90,Tryz.ntmps90
 go_wp2_with (first | refine wpList_load_row rfl 96 _ rfl w.heap.size rfl 96 _ (0,0) _ HN0.out.now Tryz.underlying96 rfl (IL.out l hl) ?_ | fail)
 refine (fcarry_any l _ hl hE.small).mono ?_
 rintro e W1 ⟨rfl,hb1⟩
 have hN1:=HN0.out.later hb1
 have hin:=carF_in l hE
 obtain ⟨m,hm⟩:∃ m,carF l = m:=⟨_,rfl⟩
 have hml:m.length = 5:=by rw [← hm,carF_length,hl]
 rw [hm] at hin ⊢
 have hle:lesF l = if 0 < (plTo m 19 5).2 then (plTo m 19 5).1 else m:=by rw [lesF,hm]
 have hst:=store_row W1 w.heap.size _ _ (m.map nf) hN1.now (by simp [hml,hl]) (nf_oneCell m)
 have hN2:=hN1.put m
 obtain ⟨W2,hW2⟩:∃ W2,W1.setRow w.heap.size (m.map nf).toArray = W2:=⟨_,rfl⟩
 rw [hW2] at hst hN2
 have HN2:Hid (FB w w.heap.size (w.heap.size + 1) m W2):=hN2
 have HLe:Hid (lesF l = if 0 < (plTo m 19 5).2 then (plTo m 19 5).1 else m):=hle
 clear hN2 hN1 hW2 hm hb1 HN0 hle
 go_wp2_with (first | refine wpList_load_row rfl 96 _ rfl w.heap.size rfl 96 _ (0,0) _ HN2.out.now Tryz.underlying96 rfl (IL.out m hml) ?_ | fail)
 refine (plus_any m 19 _ hml (fun x hx => Nat.lt_trans (hin x hx) (by decide)) (by decide)).mono ?_
 rintro e W3 ⟨rfl,hb3⟩
 have hN3:=HN2.out.later hb3
 obtain ⟨p,hp⟩:∃ p,(plTo m 19 5).1 = p:=⟨_,rfl⟩
 obtain ⟨o,ho⟩:∃ o,(plTo m 19 5).2 = o:=⟨_,rfl⟩
 have hpl:p.length = 5:=by rw [← hp,plTo_length,hml]
 have hLe:=HLe.out
 rw [hp,ho] at hLe ⊢
 have hst3:=run_store_new W3 96 (p.map nf) 5 (by simp [hpl]) (by kernel_rfl) (nf_oneCell p)
 have hP:Nf (W3.alloc (.cells (p.map nf).toArray 96)) W3.heap.size p:=heap_alloc_new W3 _
 have hN4:FB w w.heap.size (w.heap.size + 1) m (W3.alloc (.cells (p.map nf).toArray 96)):=hN3.later ((Below.refl _ _).alloc (Nat.le_refl _) _)
 obtain ⟨W4,hW4⟩:∃ W4,W3.alloc (.cells (p.map nf).toArray 96) = W4:=⟨_,rfl⟩
 rw [hW4] at hst3 hP hN4
 have HP:Hid (Nf W4 W3.heap.size p):=hP
 have HN4:Hid (FB w w.heap.size (w.heap.size + 1) m W4):=hN4
 clear hP hN4 hN3 hW4 hb3 HN2 hp ho HLe hst hin
 by_cases hov:0 < o
 ·have hoi:0 < (o:Int):=by omega
  rw [if_pos hov] at hLe
  have HLe:Hid (lesF l = p):=hLe
  have hst2:=store_row W4 (w.heap.size + 1) _ _ (p.map nf) HN4.out.res (by simp [hpl]) (nf_oneCell p)
  have hrow:=setRow_heap W4 (w.heap.size + 1) _ (p.map nf).toArray _ _ HN4.out.res
  have HBel:Hid (Below w.heap.size w (W4.setRow (w.heap.size + 1) (p.map nf).toArray)):=below_setRow HN4.out.bel HN4.out.br _
  obtain ⟨W5,hW5⟩:∃ W5,W4.setRow (w.heap.size + 1) (p.map nf).toArray = W5:=⟨_,rfl⟩
  rw [hW5] at hst2 hrow HBel
  have HRow:Hid (W5.heap[w.heap.size + 1]? = some (.cells (p.map nf).toArray 96 (0,0))):=hrow
  clear hrow hW5 hLe hov
  go_wp2_with (first | refine wpList_load_row rfl 96 _ rfl W3.heap.size rfl 96 _ (0,0) _ HP.out Tryz.underlying96 rfl (IL.out p hpl) ?_ | fail)
  (try simp only [Exit.inBlock,Exit.then])
  refine bodyPost_ret (results_cell_row rfl _ _ (w.heap.size + 1) 96 _ (0,0) _ rfl HRow.out Tryz.underlying96 rfl (IL.out p hpl)) rfl ?_
  exact ⟨by rw [HLe.out],HBel.out⟩
 ·have hoi:¬ 0 < (o:Int):=by omega
  rw [if_neg hov] at hLe
  have HLe:Hid (lesF l = m):=hLe
  have hst2:=store_row W4 (w.heap.size + 1) _ _ (m.map nf) HN4.out.res (by simp [hml]) (nf_oneCell m)
  have hrow:=setRow_heap W4 (w.heap.size + 1) _ (m.map nf).toArray _ _ HN4.out.res
  have HBel:Hid (Below w.heap.size w (W4.setRow (w.heap.size + 1) (m.map nf).toArray)):=below_setRow HN4.out.bel HN4.out.br _
  obtain ⟨W5,hW5⟩:∃ W5,W4.setRow (w.heap.size + 1) (m.map nf).toArray = W5:=⟨_,rfl⟩
  rw [hW5] at hst2 hrow HBel
  have HRow:Hid (W5.heap[w.heap.size + 1]? = some (.cells (m.map nf).toArray 96 (0,0))):=hrow
  clear hrow hW5 hLe hov
  go_wp2_with (first | refine wpList_load_row rfl 96 _ rfl w.heap.size rfl 96 _ (0,0) _ HN4.out.now Tryz.underlying96 rfl (IL.out m hml) ?_ | fail)
  (try simp only [Exit.inBlock,Exit.then])
  refine bodyPost_ret (results_cell_row rfl _ _ (w.heap.size + 1) 96 _ (0,0) _ rfl HRow.out Tryz.underlying96 rfl (IL.out m hml)) rfl ?_
  exact ⟨by rw [HLe.out],HBel.out⟩
structure F3 (w:World) (g h r:Nat) (l m:List Nat) (W:World):Prop where
 now:Nf W g l
 oth:Nf W h m
 res:Nf W r [0,0,0,0,0]
 nh:h ≠ g
 nr:r ≠ g
 bg:w.heap.size ≤ g
 br:w.heap.size ≤ r
 bel:Below w.heap.size w W
theorem F3.set {w W:World} {g h r:Nat} {l m:List Nat} (t:F3 w g h r l m W) (i x:Nat):F3 w g h r (l.set i x) m (W.setCell ⟨g,i,none⟩ (nf x)):=by
 have hg:=t.bg
 exact ⟨t.now.set i x,t.oth.other t.nh i _,t.res.other t.nr i _,t.nh,t.nr,t.bg,t.br,t.bel.setCell (p:=⟨g,i,none⟩) (by show _ ≤ g;omega) _⟩
theorem F3.drew {w W:World} {g h r:Nat} {l m:List Nat} (t:F3 w g h r l m W):F3 w g h r l m W.drew:=
 ⟨t.now,t.oth,t.res,t.nh,t.nr,t.bg,t.br,t.bel.drew⟩
theorem F3.later {w W W':World} {g h r:Nat} {l m:List Nat} (t:F3 w g h r l m W) (hb:Below W.heap.size W W'):F3 w g h r l m W':=
 ⟨t.now.later hb,t.oth.later hb,t.res.later hb,t.nh,t.nr,t.bg,t.br,t.bel.trans (hb.mono t.bel.size)⟩
theorem nf_new2 (w:World) (l m:List Nat):Nf ((w.alloc (.cells (l.map nf).toArray 96)).alloc (.cells (m.map nf).toArray 96)) (w.heap.size + 1) m ∧ Nf ((w.alloc (.cells (l.map nf).toArray 96)).alloc (.cells (m.map nf).toArray 96)) w.heap.size l:=by
 constructor
 ·have:=heap_alloc_new (w.alloc (.cells (l.map nf).toArray 96)) (.cells (m.map nf).toArray 96)
  rw [World.size_alloc] at this
  exact this
 ·unfold Nf
  rw [Below.heap_alloc _ _ _ (by simp)]
  exact heap_alloc_new w _
theorem F3.new (w:World) (l m:List Nat):F3 w w.heap.size (w.heap.size + 1) (w.heap.size + 1 + 1) l m (((w.alloc (.cells (l.map nf).toArray 96)).alloc (.cells (m.map nf).toArray 96)).alloc (.cells #[.int .u64 0,.int .u64 0,.int .u64 0,.int .u64 0,.int .u64 0] 96)):=by
 obtain ⟨h1,h2⟩:=nf_new2 w l m
 refine ⟨h2.alloc _,h1.alloc _,?_,by omega,by omega,by omega,by omega,?_⟩
 ·have:=heap_alloc_new ((w.alloc (.cells (l.map nf).toArray 96)).alloc (.cells (m.map nf).toArray 96)) (.cells #[.int .u64 0,.int .u64 0,.int .u64 0,.int .u64 0,.int .u64 0] 96)
  rw [World.size_alloc,World.size_alloc] at this
  exact this
 ·exact (((Below.refl _ _).alloc (Nat.le_refl _) _).alloc (by simp) _).alloc (by simp <;> omega) _
structure Elm (cs:List Value) (x:Nat):Prop where
 dig:∃ l:List Nat,cs = l.map nf ∧ IsE l ∧ valF l % P255 = x
theorem Elm.len {cs:List Value} {x:Nat} (h:Elm cs x):cs.length = 5:=by
 obtain ⟨l,rfl,hE,_⟩:=h.dig
 rw [List.length_map,hE.len]
theorem Elm.one {cs:List Value} {x:Nat} (h:Elm cs x):∀ v ∈ cs,v.oneCell' = true:=by
 obtain ⟨l,rfl,hE,_⟩:=h.dig
 exact nf_oneCell l
theorem Elm.lt {cs:List Value} {x:Nat} (h:Elm cs x):x < P255:=by
 obtain ⟨l,rfl,hE,hx⟩:=h.dig
 rw [← hx]
 exact Nat.mod_lt _ P255_pos
theorem Elm.kind {cs:List Value} {x:Nat} (h:Elm cs x):∀ v ∈ cs,∀ d,v ≠ .int .i64 d:=by
 obtain ⟨l,rfl,hE,_⟩:=h.dig
 intro v hv d hd
 obtain ⟨c,_,rfl⟩:=List.mem_map.1 hv
 cases hd
def zeroE:List Value:=[.int .u64 0,.int .u64 0,.int .u64 0,.int .u64 0,.int .u64 0]
theorem elm_zero:Elm zeroE 0:=⟨[0,0,0,0,0],rfl,⟨0,0,0,0,0,rfl,by decide,by decide,by decide,by decide,by decide⟩,by decide⟩
def FTab (w:World):Prop:=∃ t fr,w.heap[0]? = some (.cells (twP.map nf).toArray t fr)
theorem FTab.lt {w:World} (h:FTab w) : 0 < w.heap.size:=by
 obtain ⟨t,fr,h1⟩:=h
 exact (Array.getElem?_eq_some_iff.1 h1).1
theorem FTab.later {w w':World} (h:FTab w) (hb:Below w.heap.size w w'):FTab w':=by
 have hl:=h.lt
 obtain ⟨t,fr,h1⟩:=h
 exact ⟨t,fr,by rw [hb.block _ hl];exact h1⟩
theorem FTab.word {w:World} (h:FTab w) (i:Nat) (hi:i < 5):w.cell? ⟨0,i,none⟩ = some (.int .u64 (atD twP i:Int)):=by
 obtain ⟨t,fr,h1⟩:=h
 rw [cell_of_row w _ i _ t fr h1,atD_get twP i (by simpa [twP] using hi)]
 simp [nf,show i < twP.length by simpa [twP] using hi]
set_option maxHeartbeats 1000000 in
set_option maxRecDepth 100000 in
theorem fadd_any (A B:List Value) (x y:Nat) (w:World) (hA:Elm A x) (hB:Elm B y) :
  Calls Tryz.prog 85 #[.agg A.toArray,.agg B.toArray] w fun e w' => ∃ cs,e = .returned (.agg cs.toArray) ∧ Elm cs ((x + y) % P255) ∧ Below w.heap.size w w':=by
 obtain ⟨l,rfl,hEl,hx⟩:=hA.dig
 obtain ⟨m,rfl,hEm,hy⟩:=hB.dig
 have hl:=hEl.len
 have hm:=hEm.len
 have hb:=hEl.lt
 have hc:=hEm.lt
 have HV:Hid (Elm ((carF (addTo l m 5)).map nf) ((x + y) % P255)):=⟨_,rfl,add_isE l m hEl hEm,by rw [carF_val _ (by rw [addTo_length,hl]),add_val l m hEl hEm,hx,hy]⟩
 clear hA hB hx hy hEl hEm
 go_enter Tryz.func85,Tryz.ntmps85
 go_wp2
 refine from_world (P:=Code.wp Tryz.prog _ _ _) (R:=fun W => Hid (F3 w w.heap.size (w.heap.size + 1) (w.heap.size + 1 + 1) l m W)) _ (F3.new w l m) ?_
 intro W0 hN0
 generalize hg:w.heap.size = g at hN0 ⊢
 generalize hh:g + 1 = h at hN0 ⊢
 generalize hr:h + 1 = r at hN0 ⊢
 go_loopw [6] (fun i wr => ∃ k:Nat,k ≤ 5 ∧ i = .int .i64 k ∧ Hid (F3 w g h r (addTo l m k) m wr)) (fun i _ => 5 - (intOf i).toNat)
 case atStart => exact ⟨0,by omega,rfl,hN0⟩
 case round =>
  clear hN0
  obtain ⟨k,hk,rfl,hN⟩:=hrel
  by_cases hlt:k < 5
  ·have hki:(k:Int) < 5:=by omega
   obtain ⟨a,ha⟩:∃ a,atD (addTo l m k) k = a:=⟨_,rfl⟩
   obtain ⟨b,hb'⟩:∃ b,atD m k = b:=⟨_,rfl⟩
   obtain ⟨W1,hW1⟩:∃ W1,wr.drew = W1:=⟨_,rfl⟩
   have hN1:=hN.out.drew
   rw [hW1] at hN1
   obtain ⟨c1,f1⟩:=hN1.now.word k (by rw [addTo_length];omega)
   obtain ⟨c2,f2⟩:=hN1.oth.word k (by omega)
   rw [ha] at c1
   rw [hb'] at c2
   have hab:a < 2251799813685286:=by rw [← ha,addTo_at l m k k (Nat.le_refl _)];exact atD_bound l _ (by omega) hb k
   have hbb:b < 2251799813685286:=by rw [← hb'];exact atD_bound m _ (by omega) hc k
   obtain ⟨W2,hW2⟩:∃ W2,W1.setCell ⟨g,k,none⟩ (.int .u64 ((a:Int) + (b:Int))) = W2:=⟨_,rfl⟩
   have HN2:Hid (F3 w g h r (addTo l m (k + 1)) m W2):=by rw [addTo,ha,hb',← hW2];exact hN1.set k (a + b)
   have E1:Hid (IntKind.u64.wrap ((a:Int) + (b:Int)) = (a:Int) + (b:Int)):=by show _ = _;rw [IntKind.wrap_u64];omega
   have HW1:Hid (wr.drew = W1):=hW1
   have HW2:Hid (W1.setCell ⟨g,k,none⟩ (.int .u64 ((a:Int) + (b:Int))) = W2):=hW2
   clear hN hN1 hW1 hW2 ha hb'
   go_wp2
   refine wp_region_last (G:=Stays) (by kernel_rfl) Stays.refl Stays.trans (by kernel_rfl) [(0,true),(1,true),(2,true),(3,true),(4,true),(5,true),(6,true),(7,true),(8,true),(9,true),(10,true)] 11 _ rfl ((Array.replicate 12 false).mapIdx fun i _ => i < 11) rfl (by kernel_rfl) (by kernel_rfl) (by kernel_rfl) (by kernel_rfl) ?_
   intro KK hKK
   rw [HW1.out]
   iterate 11 (refine sched_take rfl (by rfl) (v:=?_) ?_ ?_;rotate_left;(rintro w' rfl;go_simp;with_reducible rfl);go_simp)
   refine hKK.out _ _ W2 (by rfl) (by rw [← HW2.out];go_simp;rw [E1.out]) ?_
   go_simp
   go_wp2
   exact ⟨⟨k + 1,by omega,by go_num,HN2⟩,by simp [intOf];omega⟩
  ·have ek:k = 5:=by omega
   subst ek
   have hkr:¬ ((5:Nat):Int) < 5:=by omega
   have hsb:∀ x ∈ addTo l m 5,x < 9223372036854775808:=by
    obtain ⟨a0,a1,a2,a3,a4,rfl⟩:=five l hl
    obtain ⟨b0,b1,b2,b3,b4,rfl⟩:=five m hm
    show ∀ x ∈ [a0 + b0,a1 + b1,a2 + b2,a3 + b3,a4 + b4],x < 9223372036854775808
    simp at hb hc ⊢
    omega
   obtain ⟨s,hs⟩:∃ s,addTo l m 5 = s:=⟨_,rfl⟩
   have hsl:s.length = 5:=by rw [← hs,addTo_length,hl]
   rw [hs] at hN hsb HV
   have IB:Hid ((Tryz.prog.info? 96).map (·.size) = some (s.map nf).toArray.size):=nf_info s hsl
   clear hs hb hc
   go_wp2_with (first | refine wpList_load_row rfl 96 _ rfl g rfl 96 _ (0,0) _ hN.out.now Tryz.underlying96 rfl IB.out ?_ | fail)
   refine (fcarry_any s wr hsl hsb).mono ?_
   rintro e w8 ⟨rfl,hb8⟩
   have hN8:=hN.out.later hb8
   obtain ⟨c,hcc⟩:∃ c,carF s = c:=⟨_,rfl⟩
   have hcl:c.length = 5:=by rw [← hcc,carF_length,hsl]
   rw [hcc] at HV ⊢
   have IC:Hid ((Tryz.prog.info? 96).map (·.size) = some (c.map nf).toArray.size):=nf_info c hcl
   have hst:=store_row w8 r _ _ (c.map nf) hN8.res (by simp [hcl]) (nf_oneCell c)
   have hrow:=setRow_heap w8 r _ (c.map nf).toArray _ _ hN8.res
   have HBel:Hid (Below w.heap.size w (w8.setRow r (c.map nf).toArray)):=below_setRow hN8.bel hN8.br _
   obtain ⟨W4,hW4⟩:∃ W4,w8.setRow r (c.map nf).toArray = W4:=⟨_,rfl⟩
   rw [hW4] at hst hrow HBel
   have HRow:Hid (W4.heap[r]? = some (.cells (c.map nf).toArray 96 (0,0))):=hrow
   clear hrow hW4 hN8 hN hb8 hcc
   go_wp2
   (try simp only [Exit.inBlock,Exit.then])
   refine bodyPost_ret (results_cell_row rfl _ _ r 96 _ (0,0) _ rfl HRow.out Tryz.underlying96 rfl IC.out) rfl ?_
   exact ⟨c.map nf,rfl,HV.out,by first | exact HBel.out | (rw [← hg];exact HBel.out)⟩
set_option maxHeartbeats 1000000 in
set_option maxRecDepth 100000 in
theorem fsub_any (A B:List Value) (x y:Nat) (w:World) (hA:Elm A x) (hB:Elm B y) (htab:FTab w) :
  Calls Tryz.prog 86 #[.agg A.toArray,.agg B.toArray] w fun e w' => ∃ cs,e = .returned (.agg cs.toArray) ∧ Elm cs ((x + (P255 - y)) % P255) ∧ Below w.heap.size w w':=by
 obtain ⟨l,rfl,hEl,hx⟩:=hA.dig
 obtain ⟨m,rfl,hEm,hy⟩:=hB.dig
 have hl:=hEl.len
 have hm:=hEm.len
 have hb:=hEl.lt
 have hc:=hEm.lt
 have HGe:Hid (∀ k,k < 5 → atD m k ≤ atD twP k):=fun k hk => twP_ge m hEm k hk
 have HV:Hid (Elm ((carF (subTo l m 5)).map nf) ((x + (P255 - y)) % P255)):=⟨_,rfl,sub_isE l m hEl hEm,by rw [carF_val _ (by rw [subTo_length,hl]),sub_val l m hEl hEm,hx,hy]⟩
 have hsb:∀ x ∈ subTo l m 5,x < 9223372036854775808:=by
  obtain ⟨a0,a1,a2,a3,a4,rfl⟩:=five l hl
  obtain ⟨b0,b1,b2,b3,b4,rfl⟩:=five m hm
  rw [subTo_five]
  simp at hb hc ⊢
  omega
 have HSB:Hid (∀ x ∈ subTo l m 5,x < 9223372036854775808):=hsb
 have HTab:Hid (FTab w):=htab
 clear hA hB hx hy hEl hEm hsb htab
 go_enter Tryz.func86,Tryz.ntmps86
 go_wp2
 refine from_world (P:=Code.wp Tryz.prog _ _ _) (R:=fun W => Hid (F3 w w.heap.size (w.heap.size + 1) (w.heap.size + 1 + 1) l m W)) _ (F3.new w l m) ?_
 intro W0 hN0
 generalize hg:w.heap.size = g at hN0 ⊢
 generalize hh:g + 1 = h at hN0 ⊢
 generalize hr:h + 1 = r at hN0 ⊢
 go_loopw [6] (fun i wr => ∃ k:Nat,k ≤ 5 ∧ i = .int .i64 k ∧ Hid (F3 w g h r (subTo l m k) m wr)) (fun i _ => 5 - (intOf i).toNat)
 case atStart => exact ⟨0,by omega,rfl,hN0⟩
 case round =>
  clear hN0
  obtain ⟨k,hk,rfl,hN⟩:=hrel
  by_cases hlt:k < 5
  ·have hki:(k:Int) < 5:=by omega
   obtain ⟨a,ha⟩:∃ a,atD (subTo l m k) k = a:=⟨_,rfl⟩
   obtain ⟨b,hb'⟩:∃ b,atD m k = b:=⟨_,rfl⟩
   obtain ⟨t,ht⟩:∃ t,atD twP k = t:=⟨_,rfl⟩
   obtain ⟨W1,hW1⟩:∃ W1,wr.drew = W1:=⟨_,rfl⟩
   have hN1:=hN.out.drew
   rw [hW1] at hN1
   obtain ⟨c1,f1⟩:=hN1.now.word k (by rw [subTo_length];omega)
   obtain ⟨c2,f2⟩:=hN1.oth.word k (by omega)
   have c3:=(HTab.out.later hN1.bel).word k hlt
   rw [ha] at c1
   rw [hb'] at c2
   rw [ht] at c3
   have hab:a < 2251799813685286:=by rw [← ha,subTo_at l m k k (Nat.le_refl _)];exact atD_bound l _ (by omega) hb k
   have htl:=twP_lt k
   have htg:=HGe.out k hlt
   rw [ht] at htl htg
   rw [hb'] at htg
   obtain ⟨s,hs⟩:∃ s,t - b = s:=⟨_,rfl⟩
   have E0:Hid (IntKind.u64.wrap ((t:Int) - (b:Int)) = (s:Int)):=by show _ = _;rw [IntKind.wrap_u64];omega
   have e1:IntKind.u64.wrap ((a:Int) + (s:Int)) = (a:Int) + (s:Int):=by rw [IntKind.wrap_u64];omega
   have E1:Hid (IntKind.u64.wrap ((a:Int) + (s:Int)) = (a:Int) + (s:Int)):=e1
   obtain ⟨W2,hW2⟩:∃ W2,W1.setCell ⟨g,k,none⟩ (.int .u64 ((a:Int) + (s:Int))) = W2:=⟨_,rfl⟩
   have HN2:Hid (F3 w g h r (subTo l m (k + 1)) m W2):=by rw [subTo,ha,hb',ht,hs,← hW2];exact hN1.set k (a + s)
   have HW1:Hid (wr.drew = W1):=hW1
   have HW2:Hid (W1.setCell ⟨g,k,none⟩ (.int .u64 ((a:Int) + (s:Int))) = W2):=hW2
   clear hN hN1 hW1 hW2 ha hb' ht hab htl htg hs e1
   go_wp2
   refine wp_region_last (G:=Stays) (by kernel_rfl) Stays.refl Stays.trans (by kernel_rfl) [(0,true),(1,true),(2,true),(3,true),(4,true),(5,true),(6,true),(7,true),(8,true),(9,true),(10,true),(11,true),(12,true),(13,true),(14,true)] 15 _ rfl ((Array.replicate 16 false).mapIdx fun i _ => i < 15) rfl (by kernel_rfl) (by kernel_rfl) (by kernel_rfl) (by kernel_rfl) ?_
   intro KK hKK
   rw [HW1.out]
   iterate 11 (refine sched_take rfl (by rfl) (v:=?_) ?_ ?_;rotate_left;(rintro w' rfl;go_simp;with_reducible rfl);go_simp)
   refine sched_take rfl (by rfl) (v:=.int .u64 (s:Int)) (by rintro w' rfl;go_simp;rw [E0.out]) ?_
   go_simp
   iterate 3 (refine sched_take rfl (by rfl) (v:=?_) ?_ ?_;rotate_left;(rintro w' rfl;go_simp;with_reducible rfl);go_simp)
   refine hKK.out _ _ W2 (by rfl) (by rw [← HW2.out];go_simp;rw [E1.out]) ?_
   go_simp
   go_wp2
   exact ⟨⟨k + 1,by omega,by go_num,HN2⟩,by simp [intOf];omega⟩
  ·have ek:k = 5:=by omega
   subst ek
   have hkr:¬ ((5:Nat):Int) < 5:=by omega
   obtain ⟨s,hs⟩:∃ s,subTo l m 5 = s:=⟨_,rfl⟩
   have hsl:s.length = 5:=by rw [← hs,subTo_length,hl]
   rw [hs] at hN HSB HV
   have IB:Hid ((Tryz.prog.info? 96).map (·.size) = some (s.map nf).toArray.size):=nf_info s hsl
   clear hs hb hc
   go_wp2_with (first | refine wpList_load_row rfl 96 _ rfl g rfl 96 _ (0,0) _ hN.out.now Tryz.underlying96 rfl IB.out ?_ | fail)
   refine (fcarry_any s wr hsl HSB.out).mono ?_
   rintro e w8 ⟨rfl,hb8⟩
   have hN8:=hN.out.later hb8
   obtain ⟨c,hcc⟩:∃ c,carF s = c:=⟨_,rfl⟩
   have hcl:c.length = 5:=by rw [← hcc,carF_length,hsl]
   rw [hcc] at HV ⊢
   have IC:Hid ((Tryz.prog.info? 96).map (·.size) = some (c.map nf).toArray.size):=nf_info c hcl
   have hst:=store_row w8 r _ _ (c.map nf) hN8.res (by simp [hcl]) (nf_oneCell c)
   have hrow:=setRow_heap w8 r _ (c.map nf).toArray _ _ hN8.res
   have HBel:Hid (Below w.heap.size w (w8.setRow r (c.map nf).toArray)):=below_setRow hN8.bel hN8.br _
   obtain ⟨W4,hW4⟩:∃ W4,w8.setRow r (c.map nf).toArray = W4:=⟨_,rfl⟩
   rw [hW4] at hst hrow HBel
   have HRow:Hid (W4.heap[r]? = some (.cells (c.map nf).toArray 96 (0,0))):=hrow
   clear hrow hW4 hN8 hN hb8 hcc
   go_wp2
   (try simp only [Exit.inBlock,Exit.then])
   refine bodyPost_ret (results_cell_row rfl _ _ r 96 _ (0,0) _ rfl HRow.out Tryz.underlying96 rfl IC.out) rfl ?_
   exact ⟨c.map nf,rfl,HV.out,by first | exact HBel.out | (rw [← hg];exact HBel.out)⟩
end Go.Proofs.YthmkhdnnljdglaaGreatDoor
