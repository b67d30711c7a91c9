import Derived.Test.YthmkhdnnljdglaaGreatDoorQae
import Derived.Test.YthmkhdnnljdglaaGreatDoorQad
namespace Go.Proofs.YthmkhdnnljdglaaGreatDoor
set_option linter.unusedVariables false
set_option maxRecDepth 100000
open Kum
def fA (x y:Nat):Nat:=(x + y) % P255
def fS (x y:Nat):Nat:=(x + (P255 - y)) % P255
def fM (x y:Nat):Nat:=(x * y) % P255
theorem fM_lt (x y:Nat):fM x y < P255:=Nat.mod_lt _ P255_pos
theorem phi_fA (x y:Nat):phi (fA x y) = phi x + phi y:=phi_add x y
theorem phi_fM (x y:Nat):phi (fM x y) = phi x * phi y:=phi_mul x y
theorem phi_fS (x y:Nat) (h:y < P255):phi (fS x y) = phi x - phi y:=phi_sub x y h
def pt (x z:Nat):Pt:=⟨phi x,phi z⟩
def nX2 (x2 z2:Nat):Nat:=fM (fM (fA x2 z2) (fA x2 z2)) (fM (fS x2 z2) (fS x2 z2))
def nE (x2 z2:Nat):Nat:=fS (fM (fA x2 z2) (fA x2 z2)) (fM (fS x2 z2) (fS x2 z2))
def nZ2 (x2 z2:Nat):Nat:=fM (nE x2 z2) (fA (fM (fA x2 z2) (fA x2 z2)) (fM 121665 (nE x2 z2)))
def nP (x2 z2 x3 z3:Nat):Nat:=fA (fM (fS x3 z3) (fA x2 z2)) (fM (fA x3 z3) (fS x2 z2))
def nM (x2 z2 x3 z3:Nat):Nat:=fS (fM (fS x3 z3) (fA x2 z2)) (fM (fA x3 z3) (fS x2 z2))
def nX3 (x2 z2 x3 z3:Nat):Nat:=fM (nP x2 z2 x3 z3) (nP x2 z2 x3 z3)
def nZ3 (u x2 z2 x3 z3:Nat):Nat:=fM u (fM (nM x2 z2 x3 z3) (nM x2 z2 x3 z3))
theorem step_one (u x2 z2 x3 z3:Nat) (h2:z2 < P255) (h3:z3 < P255):pt (nX2 x2 z2) (nZ2 x2 z2) = (stepP c24 (phi u) (pt x2 z2) (pt x3 z3)).1:=by
 simp only [pt,stepP,nX2,nZ2,nE,phi_fM,phi_fA,phi_fS _ _ h2,phi_fS _ _ (fM_lt _ _)]
 rfl
theorem step_two (u x2 z2 x3 z3:Nat) (h2:z2 < P255) (h3:z3 < P255):pt (nX3 x2 z2 x3 z3) (nZ3 u x2 z2 x3 z3) = (stepP c24 (phi u) (pt x2 z2) (pt x3 z3)).2:=by
 simp only [pt,stepP,nX3,nZ3,nP,nM,phi_fM,phi_fA,phi_fS _ _ h2,phi_fS _ _ h3,phi_fS _ _ (fM_lt _ _)]
def Lad (u:F) (n:Nat) (p q:Pt):Prop:=(u ≠ 0 ∧ At cA u n p q) ∨ (u = 0 ∧ p.X * p.Z = 0 ∧ q.X * q.Z = 0)
theorem Lad.first (u:F):Lad u 0 O (at1 u):=by
 by_cases hu:u = 0
 ·refine .inr ⟨hu,?_,?_⟩
  ·show (1:F) * 0 = 0
   grind -lia
  ·show u * 1 = 0
   rw [hu]
   grind -lia
 ·refine .inl ⟨hu,?_,?_⟩
  ·rw [mulP_zero];exact Pt.sim.refl _
  ·rw [show 0 + 1 = 1 from rfl,mulP_one];exact Pt.sim.refl _
theorem step_zero {p q:Pt} (h:p.X * p.Z = 0):(stepP c24 0 p q).1.Z = 0 ∧ (stepP c24 0 p q).2.Z = 0:=by
 simp only [stepP]
 refine ⟨?_,?_⟩
 ·have e:(p.X + p.Z) * (p.X + p.Z) - (p.X - p.Z) * (p.X - p.Z) = 4 * (p.X * p.Z):=by grind -lia
  rw [e,h]
  grind -lia
 ·grind -lia
theorem times_zero (x:F) {z:F} (h:z = 0):x * z = 0:=by rw [h];grind -lia
theorem Lad.zero {u:F} {n:Nat} {p q:Pt} (h:Lad u n p q):Lad u (2 * n) (stepP c24 u p q).1 (stepP c24 u p q).2:=by
 rcases h with ⟨hu,h⟩ | ⟨hu,h1,h2⟩
 ·exact .inl ⟨hu,At.zero cGood.two cA_eq hu h⟩
 ·subst hu
  exact .inr ⟨rfl,times_zero _ (step_zero h1).1,times_zero _ (step_zero h1).2⟩
theorem Lad.one {u:F} {n:Nat} {p q:Pt} (h:Lad u n p q):Lad u (2 * n + 1) (stepP c24 u q p).2 (stepP c24 u q p).1:=by
 rcases h with ⟨hu,h⟩ | ⟨hu,h1,h2⟩
 ·exact .inl ⟨hu,At.one cGood.two cA_eq hu h⟩
 ·subst hu
  exact .inr ⟨rfl,times_zero _ (step_zero h2).2,times_zero _ (step_zero h2).1⟩
theorem Lad.done {u x:F} {n:Nat} {p q:Pt} (h:Lad u n p q) (hx:IsX p x):MultX n u x:=by
 rcases h with ⟨hu,h⟩ | ⟨hu,h1,h2⟩
 ·exact .inr ⟨hu,hx.sim h.1⟩
 ·refine .inl ⟨hu,?_⟩
  rcases hx with ⟨_,hx⟩ | ⟨hz,hx⟩
  ·exact hx
  ·have hX:p.X = 0:=zero_of hz (by rw [← h1];grind -lia)
   exact zero_of hz (by rw [← hX,← hx];grind -lia)
theorem isX_pt {x z:Nat} (hz:z < P255):IsX (pt x z) (phi (fM x (finv z))):=by
 by_cases h:z = 0
 ·refine .inl ⟨by rw [h];rfl,?_⟩
  rw [finv_zero z h]
  show phi (x * 0 % P255) = 0
  rw [Nat.mul_zero,Nat.zero_mod]
  rfl
 ·refine .inr ⟨fun e => h ((phi_zero hz).1 e),?_⟩
  rw [phi_fM]
  have e:=phi_finv hz h
  show phi x * phi (finv z) * phi z = phi x
  have e2:phi x * phi (finv z) * phi z = phi x * (phi (finv z) * phi z):=by grind -lia
  rw [e2,e]
  grind -lia
def ell:Nat:=7237005577332262213973186563042994240857116359379907606001950938285454250989
theorem ell_prime:Pr ell:=pr_ell
def bitsV:List Bool → Nat → Nat
 | [],n => n
 | true :: l,n => bitsV l (2 * n + 1)
 | false :: l,n => bitsV l (2 * n)
def ladN (u:Nat):List Bool → Nat → Nat → Nat → Nat → Nat
 | [],_,z2,_,_ => z2
 | true :: l,x2,z2,x3,z3 => ladN u l (nX3 x3 z3 x2 z2) (nZ3 u x3 z3 x2 z2) (nX2 x3 z3) (nZ2 x3 z3)
 | false :: l,x2,z2,x3,z3 => ladN u l (nX2 x2 z2) (nZ2 x2 z2) (nX3 x2 z2 x3 z3) (nZ3 u x2 z2 x3 z3)
theorem nZ2_lt (x z:Nat):nZ2 x z < P255:=fM_lt _ _
theorem nZ3_lt (u a b c d:Nat):nZ3 u a b c d < P255:=fM_lt _ _
theorem ladN_val (u:Nat) (hu:phi u ≠ 0):∀ (l:List Bool) (n x2 z2 x3 z3:Nat),z2 < P255 → z3 < P255 → At cA (phi u) n (pt x2 z2) (pt x3 z3) → ladN u l x2 z2 x3 z3 = 0 → (mulP cA (at1 (phi u)) (bitsV l n)).Z = 0
 | [],n,x2,z2,x3,z3,h2,h3,h,e => by
  refine h.1.z ?_
  show phi z2 = 0
  have e:z2 = 0:=e
  rw [e];rfl
 | true :: l,n,x2,z2,x3,z3,h2,h3,h,e => by
  have hA:=At.one (a24:=c24) cGood.two cA_eq hu h
  rw [← step_two u x3 z3 x2 z2 h3 h2,← step_one u x3 z3 x2 z2 h3 h2] at hA
  exact ladN_val u hu l _ _ _ _ _ (nZ3_lt _ _ _ _ _) (nZ2_lt _ _) hA e
 | false :: l,n,x2,z2,x3,z3,h2,h3,h,e => by
  have hA:=At.zero (a24:=c24) cGood.two cA_eq hu h
  rw [← step_one u x2 z2 x3 z3 h2 h3,← step_two u x2 z2 x3 z3 h2 h3] at hA
  exact ladN_val u hu l _ _ _ _ _ (nZ2_lt _ _) (nZ3_lt _ _ _ _ _) hA e
def ellBits:List Bool:=[true,false,false,false,false,false,false,false,false,false,false,false,false,false,false,false,false,false,false,false,false,false,false,false,false,false,false,false,false,false,false,false,false,false,false,false,false,false,false,false,false,false,false,false,false,false,false,false,false,false,false,false,false,false,false,false,false,false,false,false,false,false,false,false,false,false,false,false,false,false,false,false,false,false,false,false,false,false,false,false,false,false,false,false,false,false,false,false,false,false,false,false,false,false,false,false,false,false,false,false,false,false,false,false,false,false,false,false,false,false,false,false,false,false,false,false,false,false,false,false,false,false,false,false,false,false,false,false,true,false,true,false,false,true,true,false,true,true,true,true,false,true,true,true,true,true,false,false,true,true,true,false,true,true,true,true,false,true,false,true,false,false,false,true,false,true,true,true,true,false,true,true,true,true,false,false,true,true,true,false,false,true,true,false,true,false,true,true,false,false,true,false,true,true,false,false,false,false,false,false,true,false,false,true,false,false,true,true,false,false,false,true,true,false,false,false,true,true,false,true,false,false,true,false,true,true,true,false,false,true,true,true,true,false,true,false,true,true,true,false,true,false,false,true,true,true,true,true,false,true,true,false,true]
set_option maxRecDepth 100000 in
theorem ellBits_val:bitsV ellBits 0 = ell:=by decide +kernel
set_option maxRecDepth 100000 in
theorem ladN_ell:ladN 9 ellBits 1 0 9 1 = 0:=by decide +kernel
theorem nine_ne:phi 9 ≠ 0:=by decide
theorem ell_none:(mulP cA (at1 (phi 9)) ell).Z = 0:=by
 rw [← ellBits_val]
 refine ladN_val 9 nine_ne ellBits 0 1 0 9 1 P255_pos (by decide) ⟨?_,?_⟩ ladN_ell
 ·rw [mulP_zero];exact Pt.sim.refl _
 ·rw [show 0 + 1 = 1 from rfl,mulP_one];exact Pt.sim.refl _
theorem ell_of_none {n:Nat} (h:(mulP cA (at1 (phi 9)) n).Z = 0):ell ∣ n:=by
 refine Classical.byContradiction fun hn => ?_
 have hg:=none_gcd (line nine_ne) ell n ell_none h
 have e:Nat.gcd ell n = 1:=ell_prime.coprime hn
 rw [e,mulP_one] at hg
 exact oneDom hg
theorem nine_nz {n:Nat} {x:F} (hn:¬ ell ∣ n) (h:IsX (mulP cA (at1 (phi 9)) n) x):x ≠ 0:=by
 intro hx
 rcases h with ⟨hz,_⟩ | ⟨hz,h⟩
 ·exact hn (ell_of_none hz)
 ·have hX:(mulP cA (at1 (phi 9)) n).X = 0:=by rw [← h,hx];grind -lia
  rcases ell_prime.euclid (ell_of_none (none_twice n hX)) with h2 | h2
  ·exact absurd (Nat.le_of_dvd (by decide) h2) (by decide)
  ·exact hn h2
def clampK (n:Nat):Nat:=n % 2 ^ 254 / 8 * 8 + 2 ^ 254
theorem half_step (K i:Nat):K / 2 ^ i = 2 * (K / 2 ^ (i + 1)) + K / 2 ^ i % 2:=by
 have:K / 2 ^ (i + 1) = K / 2 ^ i / 2:=by rw [Nat.pow_succ,Nat.div_div_eq_div_mul]
 omega
theorem byte_of (l:List UInt8) (q:Nat) (hq:q < l.length):leN l / 256 ^ q % 256 = (at8 l q).toNat:=by
 have h:=leN_append (l.take q) (l.drop q)
 rw [List.take_append_drop] at h
 have hl:(l.take q).length = q:=by simp;omega
 have ht:=leN_lt (l.take q)
 rw [hl] at h ht
 rw [h,Nat.add_mul_div_left _ _ (Nat.pow_pos (by decide)),Nat.div_eq_of_lt ht,Nat.zero_add,List.drop_eq_getElem_cons hq,leN,at8_get l q hq]
 have:=(l[q]).toNat_lt
 omega
theorem key_bit (l:List UInt8) (i:Nat) (hi:i / 8 < l.length):leN l / 2 ^ i % 2 = (at8 l (i / 8)).toNat / 2 ^ (i % 8) % 2:=by
 rw [← byte_of l (i / 8) hi,bit_digit _ _ _ (Nat.mod_lt _ (by decide)),Nat.div_add_mod]
theorem clampK_even (n:Nat):clampK n % 2 = 0:=by unfold clampK;omega
theorem clampK_lt (n:Nat):clampK n < 2 ^ 255:=by unfold clampK;omega
theorem clampK_ell (n:Nat):¬ ell ∣ clampK n:=by
 have e:clampK n = 8 * (n % 2 ^ 254 / 8 + 2 ^ 251):=by unfold clampK;omega
 have hl:ell = 7237005577332262213973186563042994240857116359379907606001950938285454250989:=rfl
 rw [e]
 intro h
 rcases ell_prime.euclid h with h | h
 ·have:=Nat.le_of_dvd (by decide) h
  omega
 ·have:=Nat.le_of_dvd (by omega) h
  omega
theorem ell_mul {a b:Nat} (ha:¬ ell ∣ a) (hb:¬ ell ∣ b):¬ ell ∣ a * b:=fun h => (ell_prime.euclid h).elim ha hb
def mX (K U:Nat):Nat:=if phi U = 0 then 0 else fM (mulP cA (at1 (phi U)) K).X.val (finv (mulP cA (at1 (phi U)) K).Z.val)
theorem mX_lt (K U:Nat):mX K U < P255:=by
 unfold mX
 split
 ·exact P255_pos
 ·exact fM_lt _ _
theorem phi_of_val (x:F):phi x.val = x:=Fin.ext (by rw [phi_val];exact Nat.mod_eq_of_lt x.isLt)
theorem mX_spec (K U:Nat):MultX K (phi U) (phi (mX K U)):=by
 unfold mX
 split
 ·rename_i h
  exact .inl ⟨h,(phi_zero P255_pos).2 rfl⟩
 ·rename_i h
  refine .inr ⟨h,?_⟩
  have h1:=isX_pt (x:=(mulP cA (at1 (phi U)) K).X.val) (z:=(mulP cA (at1 (phi U)) K).Z.val) (mulP cA (at1 (phi U)) K).Z.isLt
  have h2:pt (mulP cA (at1 (phi U)) K).X.val (mulP cA (at1 (phi U)) K).Z.val = mulP cA (at1 (phi U)) K:=by
   unfold pt
   rw [phi_of_val,phi_of_val]
  rw [h2] at h1
  exact h1
theorem mX_eq {K U m:Nat} (hm:m < P255) (h:MultX K (phi U) (phi m)):m = mX K U:=phi_inj hm (mX_lt K U) (h.ext (mX_spec K U))
theorem mX_comm (a b U:Nat) (ha:a % 2 = 0) (hb:b % 2 = 0):mX a (mX b U) = mX b (mX a U):=
 phi_inj (mX_lt _ _) (mX_lt _ _) (MultX.comm ha hb (mX_spec b U) (mX_spec a _) (mX_spec a U) (mX_spec b _))
theorem ne_of_phi {m:Nat} (h:phi m ≠ 0) (hm:m < P255):m ≠ 0:=fun e => h ((phi_zero hm).2 e)
theorem isX_two {a:Nat} (b:Nat) (ha:a % 2 = 0):IsX (mulP cA (at1 (phi 9)) (a * b)) (phi (mX a (mX b 9))):=MultX.mul nine_ne ha (mX_spec b 9) (mX_spec a _)
theorem mX_two_ne {a b:Nat} (ha:a % 2 = 0) (hA:¬ ell ∣ a) (hB:¬ ell ∣ b):mX a (mX b 9) ≠ 0:=ne_of_phi (nine_nz (ell_mul hA hB) (isX_two b ha)) (mX_lt _ _)
def modU (l:List UInt8):Nat:=leN l % 2 ^ 255 % P255
theorem modU_told (m:Nat) (h:m < P255):modU (leB 32 m) = m:=by
 have h1:m < 256 ^ 32:=Nat.lt_trans h (by decide)
 have h2:m < 2 ^ 255:=Nat.lt_trans h (by decide)
 unfold modU
 rw [leN_leB,Nat.mod_eq_of_lt h1,Nat.mod_eq_of_lt h2,Nat.mod_eq_of_lt h]
def mK (k u:List UInt8):Nat:=mX (clampK (leN k)) (modU u)
theorem mK_lt (k u:List UInt8):mK k u < P255:=mX_lt _ _
theorem mK_told (k:List UInt8) (m:Nat) (h:m < P255):mK k (leB 32 m) = mX (clampK (leN k)) m:=by rw [mK,modU_told m h]
end Go.Proofs.YthmkhdnnljdglaaGreatDoor
namespace Go.Proofs.YthmkhdnnljdglaaGreatDoor
set_option linter.unusedVariables false
set_option maxRecDepth 100000
open Go.RowKit
def noiseName:List UInt8:=[78,111,105,115,101,95,73,75,95,50,53,53,49,57,95,67,104,97,67,104,97,80,111,108,121,95,66,76,65,75,69,50,115]
structure MS where
 C:List UInt8
 H:List UInt8
 K:List UInt8
 has:Bool
 n:Nat
namespace MS
def start (name:List UInt8):MS:=⟨nameB name,nameB name,List.replicate 32 0,false,0⟩
def hash (m:MS) (b:List UInt8):MS:=⟨m.C,mixH m.H b,m.K,m.has,m.n⟩
def key (m:MS) (b:List UInt8):MS:=⟨der1 m.C b,m.H,der2 m.C b,true,0⟩
def out (m:MS) (b:List UInt8):List UInt8:=sOut m.K m.has m.n m.H b
def sealed (m:MS) (b:List UInt8):MS:=⟨m.C,sHash m.H m.K m.has m.n b,m.K,m.has,sNum m.has m.n⟩
def text (m:MS) (b:List UInt8):List UInt8:=oOut m.K m.has m.n m.H b
def err (m:MS) (b:List UInt8):Nat:=oErr m.K m.has m.n m.H b
def opened (m:MS) (b:List UInt8):MS:=⟨m.C,oHash m.H m.K m.has m.n b,m.K,m.has,oNum m.K m.has m.n m.H b⟩
theorem open_seal (m:MS) (b:List UInt8) (h:m.n ≠ lastN):m.text (m.out b) = b ∧ m.err (m.out b) = 0 ∧ m.opened (m.out b) = m.sealed b:=by
 obtain ⟨o1,o2,o3⟩:=oOut_sOut m.K m.has m.n m.H b h
 have hs:sErr m.has m.n = 0:=by simp [sErr,h]
 refine ⟨o1,o2,?_⟩
 unfold opened sealed out
 rw [o3,oHash,if_pos o2,sHash,if_pos hs]
theorem key_n (m:MS) (b:List UInt8):(m.key b).n ≠ lastN:=by unfold key lastN;simp
theorem sealed_n (m:MS) (b c:List UInt8):((m.key b).sealed c).n = 1:=by simp [key,sealed,sNum,lastN]
end MS
def pubB (k:List UInt8):List UInt8:=leB 32 (mX (clampK (leN k)) 9)
def secB (k u:List UInt8):List UInt8:=leB 32 (mK k u)
theorem pubB_length (k:List UInt8):(pubB k).length = 32:=leB_length _ _
theorem secB_length (k u:List UInt8):(secB k u).length = 32:=leB_length _ _
theorem sec_agree (a b:List UInt8):secB a (pubB b) = secB b (pubB a):=by
 unfold secB pubB
 rw [mK_told _ _ (mX_lt _ _),mK_told _ _ (mX_lt _ _),mX_comm _ _ _ (clampK_even _) (clampK_even _)]
theorem sec_ok (a b:List UInt8):mK a (pubB b) ≠ 0:=by
 unfold pubB
 rw [mK_told _ _ (mX_lt _ _)]
 exact mX_two_ne (clampK_even _) (clampK_ell _) (clampK_ell _)
structure NS where
 M:MS
 own:List UInt8
 once:List UInt8
 R:List UInt8
 S:List UInt8
 starts:Bool
 st:Nat
namespace NS
def begin_ (name pro own other once:List UInt8):NS:=⟨((MS.start name).hash pro).hash other,own,once,[],other,true,0⟩
def answer (name pro own once:List UInt8):NS:=⟨((MS.start name).hash pro).hash (pubB own),own,once,[],List.replicate 32 0,false,0⟩
def fails (x:NS):NS:=⟨x.M,x.own,x.once,x.R,x.S,x.starts,9⟩
abbrev ok (k u:List UInt8):Prop:=mK k u ≠ 0
def f1 (x:NS):MS:=(x.M.hash (pubB x.once)).key (secB x.once x.S)
def f2 (x:NS):MS:=((f1 x).sealed (pubB x.own)).key (secB x.own x.S)
def firstOut (x:NS) (b:List UInt8):List UInt8:=pubB x.once ++ (f1 x).out (pubB x.own) ++ (f2 x).out b
def firstErr (x:NS):Nat:=if x.starts = true ∧ x.st = 0 then (if ok x.once x.S ∧ ok x.own x.S then 0 else 4) else 10
def first (x:NS) (b:List UInt8):NS:=if firstErr x = 0 then ⟨(f2 x).sealed b,x.own,x.once,x.R,x.S,x.starts,1⟩ else x.fails
def hR (b:List UInt8):List UInt8:=b.take 32
def h1 (x:NS) (b:List UInt8):MS:=(x.M.hash (hR b)).key (secB x.own (hR b))
def hB (b:List UInt8):List UInt8:=(b.drop 32).take 48
def hS (x:NS) (b:List UInt8):List UInt8:=(h1 x b).text (hB b)
def h2 (x:NS) (b:List UInt8):MS:=((h1 x b).opened (hB b)).key (secB x.own (hS x b))
def hearErr (x:NS) (b:List UInt8):Nat:=if x.starts = false ∧ x.st = 0 then (if b.length < 96 then 2 else if ¬ ok x.own (hR b) then 4 else if (h1 x b).err (hB b) ≠ 0 then (h1 x b).err (hB b) else if ¬ ok x.own (hS x b) then 4 else (h2 x b).err (b.drop 80)) else 10
def hearOut (x:NS) (b:List UInt8):List UInt8:=(h2 x b).text (b.drop 80)
def hear (x:NS) (b:List UInt8):NS:=if hearErr x b = 0 then ⟨(h2 x b).opened (b.drop 80),x.own,x.once,hR b,hS x b,x.starts,1⟩ else x.fails
def s1 (x:NS):MS:=((x.M.hash (pubB x.once)).key (secB x.once x.R)).key (secB x.once x.S)
def secondOut (x:NS) (b:List UInt8):List UInt8:=pubB x.once ++ (s1 x).out b
def secondErr (x:NS):Nat:=if x.starts = false ∧ x.st = 1 then (if ok x.once x.R ∧ ok x.once x.S then 0 else 4) else 10
def second (x:NS) (b:List UInt8):NS:=if secondErr x = 0 then ⟨(s1 x).sealed b,x.own,x.once,x.R,x.S,x.starts,2⟩ else x.fails
def d1 (x:NS) (b:List UInt8):MS:=((x.M.hash (hR b)).key (secB x.once (hR b))).key (secB x.own (hR b))
def doneErr (x:NS) (b:List UInt8):Nat:=if x.starts = true ∧ x.st = 1 then (if b.length < 48 then 2 else if ¬ (ok x.once (hR b) ∧ ok x.own (hR b)) then 4 else (d1 x b).err (b.drop 32)) else 10
def doneOut (x:NS) (b:List UInt8):List UInt8:=(d1 x b).text (b.drop 32)
def done (x:NS) (b:List UInt8):NS:=if doneErr x b = 0 then ⟨(d1 x b).opened (b.drop 32),x.own,x.once,hR b,x.S,x.starts,2⟩ else x.fails
theorem first_ok (name pro own other once:List UInt8):firstErr (begin_ name pro own (pubB other) once) = 0:=by
 unfold firstErr begin_
 simp [ok,sec_ok]
theorem key_out_len (m:MS) (b c:List UInt8):((m.key b).out c).length = c.length + 16:=by
 simp [MS.key,MS.out,sOut,lastN,sealB_length]
theorem hear_first (name pro own other once one t:List UInt8) :
  let a:=begin_ name pro own (pubB other) once
  let b:=answer name pro other one
  hearErr b (firstOut a t) = 0 ∧ hearOut b (firstOut a t) = t ∧ hear b (firstOut a t) = ⟨(first a t).M,other,one,pubB once,pubB own,false,1⟩ ∧ (firstOut a t).length = 96 + t.length:=by
 intro a b
 have hM:b.M = a.M:=rfl
 have p1:=pubB_length once
 have p2:((f1 a).out (pubB own)).length = 48:=by
  rw [f1,key_out_len,pubB_length]
 have p3:((f2 a).out t).length = t.length + 16:=by rw [f2,key_out_len]
 have hlen:(firstOut a t).length = 96 + t.length:=by
  show (pubB once ++ (f1 a).out (pubB own) ++ (f2 a).out t).length = _
  rw [List.length_append,List.length_append,p1,p2,p3]
  omega
 have e1:hR (firstOut a t) = pubB once:=by
  show (pubB once ++ (f1 a).out (pubB own) ++ (f2 a).out t).take 32 = _
  rw [List.append_assoc,List.take_left' p1]
 have e2:hB (firstOut a t) = (f1 a).out (pubB own):=by
  show ((pubB once ++ (f1 a).out (pubB own) ++ (f2 a).out t).drop 32).take 48 = _
  rw [List.append_assoc,List.drop_left' p1,List.take_left' p2]
 have e3:(firstOut a t).drop 80 = (f2 a).out t:=by
  show (pubB once ++ (f1 a).out (pubB own) ++ (f2 a).out t).drop 80 = _
  rw [List.drop_left' (by rw [List.length_append,p1,p2])]
 have m1:h1 b (firstOut a t) = f1 a:=by
  unfold h1 f1
  rw [e1,hM]
  show (a.M.hash (pubB once)).key (secB other (pubB once)) = (a.M.hash (pubB once)).key (secB once (pubB other))
  rw [sec_agree]
 obtain ⟨o1,o2,o3⟩:=MS.open_seal (f1 a) (pubB own) (MS.key_n _ _)
 have s1:hS b (firstOut a t) = pubB own:=by
  unfold hS
  rw [m1,e2,o1]
 have m2:h2 b (firstOut a t) = f2 a:=by
  unfold h2 f2
  rw [m1,e2,o3,s1]
  show ((f1 a).sealed (pubB own)).key (secB other (pubB own)) = ((f1 a).sealed (pubB own)).key (secB own (pubB other))
  rw [sec_agree]
 obtain ⟨q1,q2,q3⟩:=MS.open_seal (f2 a) t (MS.key_n _ _)
 have he:hearErr b (firstOut a t) = 0:=by
  unfold hearErr
  rw [if_pos ⟨rfl,rfl⟩,if_neg (by omega),e1,m1,e2,m2,e3,s1,if_neg (by rw [Decidable.not_not];exact sec_ok other once),if_neg (by rw [o2];simp),if_neg (by rw [Decidable.not_not];exact sec_ok other own),q2]
 refine ⟨he,?_,?_,hlen⟩
 ·unfold hearOut
  rw [m2,e3,q1]
 ·unfold hear
  rw [if_pos he,m2,e3,q3,e1,s1]
  have hf:firstErr a = 0:=first_ok name pro own other once
  unfold first
  rw [if_pos hf]
  rfl
theorem done_second (M:MS) (own other once one t:List UInt8) :
  let a:NS:=⟨M,own,once,[],pubB other,true,1⟩
  let b:NS:=⟨M,other,one,pubB once,pubB own,false,1⟩
  secondErr b = 0 ∧ doneErr a (secondOut b t) = 0 ∧ doneOut a (secondOut b t) = t ∧ (done a (secondOut b t)).M = (second b t).M ∧ (done a (secondOut b t)).st = 2 ∧ (second b t).st = 2 ∧ (secondOut b t).length = 48 + t.length:=by
 intro a b
 have p1:=pubB_length one
 have p2:((s1 b).out t).length = t.length + 16:=by rw [s1,key_out_len]
 have hlen:(secondOut b t).length = 48 + t.length:=by
  show (pubB one ++ (s1 b).out t).length = _
  rw [List.length_append,p1,p2]
  omega
 have e1:hR (secondOut b t) = pubB one:=by
  show (pubB one ++ (s1 b).out t).take 32 = _
  rw [List.take_left' p1]
 have e2:(secondOut b t).drop 32 = (s1 b).out t:=by
  show (pubB one ++ (s1 b).out t).drop 32 = _
  rw [List.drop_left' p1]
 have m1:d1 a (secondOut b t) = s1 b:=by
  unfold d1 s1
  rw [e1]
  show ((M.hash (pubB one)).key (secB once (pubB one))).key (secB own (pubB one)) = ((M.hash (pubB one)).key (secB one (pubB once))).key (secB one (pubB own))
  rw [sec_agree once one,sec_agree own one]
 obtain ⟨q1,q2,q3⟩:=MS.open_seal (s1 b) t (MS.key_n _ _)
 have hs:secondErr b = 0:=by
  unfold secondErr
  rw [if_pos ⟨rfl,rfl⟩,if_pos ⟨sec_ok one once,sec_ok one own⟩]
 have hd:doneErr a (secondOut b t) = 0:=by
  unfold doneErr
  rw [if_pos ⟨rfl,rfl⟩,if_neg (by omega),e1,m1,e2,if_neg (by rw [Decidable.not_not];exact ⟨sec_ok once one,sec_ok own one⟩),q2]
 refine ⟨hs,hd,?_,?_,?_,?_,hlen⟩
 ·unfold doneOut
  rw [m1,e2,q1]
 ·unfold done second
  rw [if_pos hd,if_pos hs,m1,e2,q3]
 ·unfold done
  rw [if_pos hd]
 ·unfold second
  rw [if_pos hs]
end NS
end Go.Proofs.YthmkhdnnljdglaaGreatDoor
