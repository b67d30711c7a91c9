import Derived.Test.YthmkhdnnljdglaaGreatDoorQab
namespace Go.Proofs.YthmkhdnnljdglaaGreatDoor
set_option linter.unusedVariables false
set_option maxRecDepth 100000
def Pr (p:Nat):Prop:=2 ≤ p ∧ ∀ d,d ∣ p → d = 1 ∨ d = p
theorem Pr.coprime {p a:Nat} (h:Pr p) (ha:¬ p ∣ a):Nat.Coprime p a:=by
 rcases h.2 _ (Nat.gcd_dvd_left p a) with h1 | h1
 ·exact h1
 ·exact absurd (h1 ▸ Nat.gcd_dvd_right p a) ha
theorem Pr.euclid {p a b:Nat} (h:Pr p) (hd:p ∣ a * b):p ∣ a ∨ p ∣ b:=by
 by_cases ha:p ∣ a
 ·exact .inl ha
 ·exact .inr ((h.coprime ha).dvd_of_dvd_mul_left hd)
theorem has_prime:∀ n,2 ≤ n → ∃ p,Pr p ∧ p ∣ n:=by
 intro n
 induction n using Nat.strongRecOn with
 | _ n ih =>
  intro hn
  by_cases h:Pr n
  ·exact ⟨n,h,Nat.dvd_refl n⟩
  ·have h2:∃ d,d ∣ n ∧ d ≠ 1 ∧ d ≠ n:=by
    apply Classical.byContradiction
    intro hc
    apply h
    refine ⟨hn,fun d hd => ?_⟩
    apply Classical.byContradiction
    intro hx
    exact hc ⟨d,hd,fun e => hx (.inl e),fun e => hx (.inr e)⟩
   obtain ⟨d,hd,h1,h2⟩:=h2
   have hle:=Nat.le_of_dvd (by omega) hd
   have h0:d ≠ 0:=fun e => by rw [e] at hd;have:=Nat.eq_zero_of_zero_dvd hd;omega
   obtain ⟨p,hp,hpd⟩:=ih d (by omega) (by omega)
   exact ⟨p,hp,Nat.dvd_trans hpd hd⟩
theorem perm_of_nodup:∀ (l m:List Nat),l.Nodup → (∀ x ∈ l,x ∈ m) → m.length ≤ l.length → l.Perm m
 | [],m,_,_,h => by
  have:m = []:=List.eq_nil_of_length_eq_zero (by simpa using h)
  rw [this]
 | x :: l,m,hn,hs,h => by
  have hx:x ∈ m:=hs x (by simp)
  have hn':=List.nodup_cons.1 hn
  have hp:=List.perm_cons_erase hx
  have ih:=perm_of_nodup l (m.erase x) hn'.2 (fun y hy => by
   have hne:y ≠ x:=fun e => hn'.1 (e ▸ hy)
   exact (List.mem_erase_of_ne hne).2 (hs y (by simp [hy]))) (by
   have:=List.length_erase_of_mem hx
   simp at h
   omega)
  exact (ih.cons x).trans hp.symm
def prodL:List Nat → Nat
 | [] => 1
 | x :: r => x * prodL r
theorem prodL_perm {l m:List Nat} (h:l.Perm m):prodL l = prodL m:=by
 induction h with
 | nil => rfl
 | cons x _ ih => rw [prodL,prodL,ih]
 | swap x y l => rw [prodL,prodL,prodL,prodL,Nat.mul_left_comm]
 | trans _ _ h1 h2 => rw [h1,h2]
theorem prodL_coprime {p:Nat} (h:Pr p):∀ l:List Nat,(∀ x ∈ l,¬ p ∣ x) → ¬ p ∣ prodL l
 | [],_ => fun hd => by
  have:=Nat.le_of_dvd (by decide) hd
  have:=h.1
  simp [prodL] at *
  omega
 | x :: l,hl => fun hd => by
  rcases h.euclid hd with h1 | h1
  ·exact hl x (by simp) h1
  ·exact prodL_coprime h l (fun y hy => hl y (by simp [hy])) h1
theorem prodL_map_mod (p a:Nat):∀ l:List Nat,prodL (l.map fun x => a * x % p) % p = a ^ l.length * prodL l % p
 | [] => by simp [prodL]
 | x :: l => by
  have ih:=prodL_map_mod p a l
  rw [List.map_cons,prodL,prodL,Nat.mul_mod,ih,Nat.mod_mod,← Nat.mul_mod,List.length_cons,Nat.pow_succ]
  congr 1
  rw [Nat.mul_assoc,Nat.mul_assoc,Nat.mul_left_comm x,Nat.mul_left_comm a]
theorem dvd_sub_of_mod {p u v:Nat} (h:u % p = v % p) (hle:u ≤ v):p ∣ v - u:=by
 refine ⟨v / p - u / p,?_⟩
 rw [Nat.mul_sub]
 have h1:=Nat.div_add_mod v p
 have h2:=Nat.div_add_mod u p
 omega
theorem fermat {p a:Nat} (h:Pr p) (ha:¬ p ∣ a):a ^ (p - 1) % p = 1:=by
 have hp:=h.1
 let L:=List.range' 1 (p - 1)
 have hL:∀ x,x ∈ L ↔ 1 ≤ x ∧ x < p:=by
  intro x
  simp only [L,List.mem_range'_1]
  omega
 have hLl:L.length = p - 1:=by simp [L]
 have hLn:∀ x ∈ L,¬ p ∣ x:=fun x hx hd => by
  have:=(hL x).1 hx
  have:=Nat.le_of_dvd (by omega) hd
  omega
 have hnd:(L.map fun x => a * x % p).Nodup:=by
  have hinj:∀ l:List Nat,(∀ x ∈ l,1 ≤ x ∧ x < p) → l.Nodup → (l.map fun x => a * x % p).Nodup:=by
   intro l
   induction l with
   | nil => intro _ _;simp
   | cons x l ih =>
    intro hb hn
    have hn':=List.nodup_cons.1 hn
    rw [List.map_cons,List.nodup_cons]
    refine ⟨?_,ih (fun y hy => hb y (by simp [hy])) hn'.2⟩
    intro hm
    obtain ⟨y,hy,he⟩:=List.mem_map.1 hm
    have hx:=hb x (by simp)
    have hy':=hb y (by simp [hy])
    have hne:x ≠ y:=fun e => hn'.1 (e ▸ hy)
    have key:∀ u v,u < v → v < p → a * u % p = a * v % p → False:=by
     intro u v huv hv he
     have hd:p ∣ a * (v - u):=by
      have h1:a * (v - u) = a * v - a * u:=Nat.mul_sub a v u
      rw [h1]
      exact dvd_sub_of_mod he (Nat.mul_le_mul_left a (by omega))
     rcases h.euclid hd with h1 | h1
     ·exact ha h1
     ·have:=Nat.le_of_dvd (by omega) h1
      omega
    rcases Nat.lt_or_gt_of_ne hne with h1 | h1
    ·exact key x y h1 hy'.2 he.symm
    ·exact key y x h1 hx.2 he
  exact hinj L (fun x hx => (hL x).1 hx) List.nodup_range'
 have hsub:∀ x ∈ L.map (fun x => a * x % p),x ∈ L:=by
  intro x hx
  obtain ⟨y,hy,rfl⟩:=List.mem_map.1 hx
  refine (hL _).2 ⟨?_,Nat.mod_lt _ (by omega)⟩
  apply Nat.pos_of_ne_zero
  intro h0
  rcases h.euclid (Nat.dvd_of_mod_eq_zero h0) with h1 | h1
  ·exact ha h1
  ·exact hLn y hy h1
 have hperm:=perm_of_nodup _ L hnd hsub (by simp)
 have he:=prodL_map_mod p a L
 rw [prodL_perm hperm,hLl] at he
 have hpos:1 ≤ a ^ (p - 1):=Nat.pos_of_ne_zero (fun h0 => ha (by
  have:a = 0:=by
   apply Classical.byContradiction
   intro hne
   exact absurd h0 (Nat.pos_iff_ne_zero.1 (Nat.pow_pos (Nat.pos_of_ne_zero hne)))
  rw [this];exact Nat.dvd_zero p))
 have hd:p ∣ (a ^ (p - 1) - 1) * prodL L:=by
  rw [Nat.sub_mul,Nat.one_mul]
  have hle:prodL L ≤ a ^ (p - 1) * prodL L:=Nat.le_mul_of_pos_left _ hpos
  exact dvd_sub_of_mod he hle
 rcases h.euclid hd with h1 | h1
 ·obtain ⟨c,hc⟩:=h1
  have e:a ^ (p - 1) = 1 + p * c:=by omega
  rw [e,Nat.add_mul_mod_self_left,Nat.mod_eq_of_lt (by omega)]
 ·exact absurd h1 (prodL_coprime h L hLn)
theorem pow_gcd {r x:Nat} (hr:1 < r):∀ m n,x ^ m % r = 1 → x ^ n % r = 1 → x ^ (Nat.gcd m n) % r = 1:=by
 intro m n
 induction m,n using Nat.gcd.induction with
 | H0 n => intro _ h;rw [Nat.gcd_zero_left];exact h
 | H1 m n hm ih =>
  intro h1 h2
  rw [Nat.gcd_rec]
  refine ih ?_ h1
  have e:x ^ n = (x ^ m) ^ (n / m) * x ^ (n % m):=by rw [← Nat.pow_mul,← Nat.pow_add,Nat.div_add_mod]
  rw [e,Nat.mul_mod,Nat.pow_mod,h1,Nat.one_pow,Nat.mod_eq_of_lt hr,Nat.one_mul,Nat.mod_mod] at h2
  exact h2
def powm (n:Nat):Nat → Nat → Nat → Nat → Nat
 | 0,_,_,acc => acc
 | f + 1,b,e,acc => powm n f (b * b % n) (e / 2) (match e % 2 with | 0 => acc | _ => acc * b % n)
theorem powm_val (n:Nat):∀ f b e acc,e < 2 ^ f → powm n f b e acc % n = acc * b ^ e % n
 | 0,b,e,acc,h => by
  have:e = 0:=by simpa using h
  rw [this];simp [powm]
 | f + 1,b,e,acc,h => by
  have hp:2 ^ (f + 1) = 2 * 2 ^ f:=by rw [Nat.pow_succ,Nat.mul_comm]
  have hs:(b * b % n) ^ (e / 2) % n = (b ^ (2 * (e / 2))) % n:=by rw [← Nat.pow_mod,Nat.pow_mul,Nat.pow_two]
  rw [powm,powm_val n f _ _ _ (by omega)]
  rcases Nat.mod_two_eq_zero_or_one e with h0 | h0
  ·rw [h0]
   have e1:2 * (e / 2) = e:=by omega
   rw [e1] at hs
   rw [Nat.mul_mod,hs,← Nat.mul_mod]
   rfl
  ·rw [h0]
   have e1:b ^ e = b * b ^ (2 * (e / 2)):=by
    rw [Nat.mul_comm,← Nat.pow_succ];congr 1;omega
   show acc * b % n * (b * b % n) ^ (e / 2) % n = _
   rw [Nat.mul_mod,Nat.mod_mod,hs,← Nat.mul_mod,e1,Nat.mul_assoc]
theorem one_of_dvd {N r y:Nat} (hr:r ∣ N) (h1:1 < r) (hy:y % N = 1):y % r = 1:=by
 obtain ⟨c,hc⟩:=hr
 have e:y = N * (y / N) + 1:=by have:=Nat.div_add_mod y N;omega
 rw [e,hc,Nat.mul_assoc,Nat.mul_add_mod,Nat.mod_eq_of_lt h1]
theorem pock_dvd {N q a y:Nat} (hq:Pr q) (hqN:(N - 1) / q * q = N - 1) (h1:a ^ (N - 1) % N = 1) (h2:a ^ ((N - 1) / q) % N = y) (h3:Nat.gcd (y + N - 1) N = 1) (hN:1 < N) :
  ∀ r,Pr r → r ∣ N → q ∣ r - 1:=by
 intro r hr hrN
 have hr1:1 < r:=hr.1
 obtain ⟨x,hx⟩:∃ x,a ^ ((N - 1) / q) = x:=⟨_,rfl⟩
 have hxq:x ^ q % r = 1:=by
  rw [← hx,← Nat.pow_mul,hqN]
  exact one_of_dvd hrN hr1 h1
 rw [hx] at h2
 have hne:¬ x % r = 1:=by
  intro h
  have hxy:x % r = y % r:=by
   obtain ⟨c,hc⟩:=hrN
   have e:x = N * (x / N) + y:=by have:=Nat.div_add_mod x N;omega
   rw [e,hc,Nat.mul_assoc,Nat.mul_add_mod]
  have hd:r ∣ y + N - 1:=by
   obtain ⟨c,hc⟩:=hrN
   have hy1:y % r = 1:=by rw [← hxy];exact h
   have e:=Nat.div_add_mod y r
   rw [hy1] at e
   refine ⟨y / r + c,?_⟩
   rw [Nat.mul_add,← hc]
   omega
  have:=Nat.dvd_gcd hd hrN
  rw [h3] at this
  have:=Nat.le_of_dvd (by decide) this
  omega
 have hndx:¬ r ∣ x:=by
  intro hd
  have h0:x ^ q % r = 0:=by
   rw [Nat.pow_mod,Nat.mod_eq_zero_of_dvd hd,Nat.zero_pow (by have:=hq.1;omega)]
   simp
  omega
 have hf:=fermat hr hndx
 apply Classical.byContradiction
 intro hc
 have hg:Nat.gcd q (r - 1) = 1:=hq.coprime hc
 have:=pow_gcd hr1 q (r - 1) hxq hf
 rw [hg,Nat.pow_one] at this
 exact hne this
theorem prime_of_big {N:Nat} (hN:1 < N) (h:∀ r,Pr r → r ∣ N → N < r * r):Pr N:=by
 refine ⟨hN,fun d hd => ?_⟩
 apply Classical.byContradiction
 intro hc
 have h1:d ≠ 1:=fun e => hc (.inl e)
 have h2:d ≠ N:=fun e => hc (.inr e)
 obtain ⟨c,hdc⟩:=hd
 have hd0:d ≠ 0:=fun e => by rw [e,Nat.zero_mul] at hdc;omega
 have hc0:c ≠ 0:=fun e => by rw [e,Nat.mul_zero] at hdc;omega
 have hc1:c ≠ 1:=fun e => by rw [e,Nat.mul_one] at hdc;omega
 have key:∀ u v,u * v = N → 2 ≤ u → u ≤ v → False:=by
  intro u v huv hu huv2
  obtain ⟨p,hp,hpu⟩:=has_prime u hu
  have:=h p hp (Nat.dvd_trans hpu ⟨v,huv.symm⟩)
  have hpu':=Nat.le_of_dvd (by omega) hpu
  have:=Nat.mul_le_mul hpu' (Nat.le_trans hpu' huv2)
  omega
 rcases Nat.le_total d c with hle | hle
 ·exact key d c hdc.symm (by omega) hle
 ·exact key c d (by rw [Nat.mul_comm];exact hdc.symm) (by omega) hle
theorem pock1 {N q a y f:Nat} (hq:Pr q) (hqN:(N - 1) / q * q = N - 1) (hf:N < 2 ^ f) (h1:powm N f a (N - 1) 1 % N = 1) (h2:powm N f a ((N - 1) / q) 1 % N = y) (h3:Nat.gcd (y + N - 1) N = 1) (hN:1 < N):∀ r,Pr r → r ∣ N → q ∣ r - 1:=by
 have hle:(N - 1) / q ≤ N - 1:=Nat.div_le_self _ _
 rw [powm_val N f a _ 1 (by omega),Nat.one_mul] at h1 h2
 exact pock_dvd hq hqN h1 h2 h3 hN
theorem prime1 {N q:Nat} (hN:1 < N) (hq:1 < q) (hb:N < q * q) (h:∀ r,Pr r → r ∣ N → q ∣ r - 1):Pr N:=by
 refine prime_of_big hN fun r hr hd => ?_
 have h1:=hr.1
 have h2:=Nat.le_of_dvd (by omega) (h r hr hd)
 have:=Nat.mul_le_mul (show q ≤ r by omega) (show q ≤ r by omega)
 omega
theorem prime2 {N q s:Nat} (hN:1 < N) (hq:Pr q) (hs:Pr s) (hne:q ≠ s) (hb:N < (q * s) * (q * s)) (h:∀ r,Pr r → r ∣ N → q ∣ r - 1) (h':∀ r,Pr r → r ∣ N → s ∣ r - 1):Pr N:=by
 refine prime_of_big hN fun r hr hd => ?_
 have h1:=hr.1
 have hco:Nat.Coprime q s:=hq.coprime fun hqs => by
  rcases hs.2 q hqs with e | e
  ·have:=hq.1;omega
  ·exact hne e
 have h2:=Nat.le_of_dvd (by omega) (hco.mul_dvd_of_dvd_of_dvd (h r hr hd) (h' r hr hd))
 have:=Nat.mul_le_mul (show q * s ≤ r by omega) (show q * s ≤ r by omega)
 omega
def noDiv (p:Nat):Nat → Nat → Bool
 | 0,_ => true
 | f + 1,d => (match p % d with | 0 => false | _ => true) && noDiv p f (d + 1)
theorem noDiv_spec (p:Nat):∀ f d,noDiv p f d = true → ∀ e,d ≤ e → e < d + f → ¬ e ∣ p
 | 0,d,_,e,h1,h2 => by omega
 | f + 1,d,h,e,h1,h2 => by
  rw [noDiv,Bool.and_eq_true] at h
  by_cases he:e = d
  ·subst he
   intro hd
   rw [Nat.mod_eq_zero_of_dvd hd] at h
   exact absurd h.1 (by simp)
  ·exact noDiv_spec p f (d + 1) h.2 e (by omega) (by omega)
theorem prime_small {p f:Nat} (hp:1 < p) (hf:p < (f + 2) * (f + 2)) (h:noDiv p f 2 = true):Pr p:=by
 refine prime_of_big hp fun r hr hd => ?_
 have h1:=hr.1
 apply Classical.byContradiction
 intro hc
 have hlt:r < f + 2:=by
  apply Classical.byContradiction
  intro hx
  have:=Nat.mul_le_mul (show f + 2 ≤ r by omega) (show f + 2 ≤ r by omega)
  omega
 exact noDiv_spec p f 2 h r h1 (by omega) hd
set_option maxRecDepth 100000 in
theorem pr_127:Pr 127:=prime_small (f:=12) (by decide) (by decide) (by decide +kernel)
set_option maxRecDepth 100000 in
theorem pr_4153:Pr 4153:=prime_small (f:=65) (by decide) (by decide) (by decide +kernel)
set_option maxRecDepth 100000 in
theorem pr_430751:Pr 430751:=prime_small (f:=657) (by decide) (by decide) (by decide +kernel)
set_option maxRecDepth 100000 in
theorem pr_569003:Pr 569003:=prime_small (f:=755) (by decide) (by decide) (by decide +kernel)
set_option maxRecDepth 100000 in
theorem pr_8574133:Pr 8574133:=prime_small (f:=2929) (by decide) (by decide) (by decide +kernel)
theorem pk_32_0:∀ r,Pr r → r ∣ 2773320623 → 569003 ∣ r - 1:=pock1 (a:=2) (f:=32) (y:=2039232613) pr_569003 (by decide +kernel) (by decide +kernel) (by decide +kernel) (by decide +kernel) (by decide +kernel) (by decide +kernel)
theorem pr_2773320623:Pr 2773320623:=prime1 (by decide +kernel) (by decide +kernel) (by decide +kernel) pk_32_0
theorem pk_37_0:∀ r,Pr r → r ∣ 72106336199 → 2773320623 ∣ r - 1:=pock1 (a:=2) (f:=37) (y:=67108864) pr_2773320623 (by decide +kernel) (by decide +kernel) (by decide +kernel) (by decide +kernel) (by decide +kernel) (by decide +kernel)
theorem pr_72106336199:Pr 72106336199:=prime1 (by decide +kernel) (by decide +kernel) (by decide +kernel) pk_37_0
theorem pk_51_0:∀ r,Pr r → r ∣ 1919519569386763 → 8574133 ∣ r - 1:=pock1 (a:=2) (f:=51) (y:=1059928654987441) pr_8574133 (by decide +kernel) (by decide +kernel) (by decide +kernel) (by decide +kernel) (by decide +kernel) (by decide +kernel)
theorem pk_51_1:∀ r,Pr r → r ∣ 1919519569386763 → 127 ∣ r - 1:=pock1 (a:=2) (f:=51) (y:=576774792492622) pr_127 (by decide +kernel) (by decide +kernel) (by decide +kernel) (by decide +kernel) (by decide +kernel) (by decide +kernel)
theorem pr_1919519569386763:Pr 1919519569386763:=prime2 (by decide +kernel) pr_8574133 pr_127 (by decide +kernel) (by decide +kernel) pk_51_0 pk_51_1
theorem pk_55_0:∀ r,Pr r → r ∣ 31757755568855353 → 430751 ∣ r - 1:=pock1 (a:=2) (f:=55) (y:=15280470251845350) pr_430751 (by decide +kernel) (by decide +kernel) (by decide +kernel) (by decide +kernel) (by decide +kernel) (by decide +kernel)
theorem pk_55_1:∀ r,Pr r → r ∣ 31757755568855353 → 4153 ∣ r - 1:=pock1 (a:=2) (f:=55) (y:=28256283979054930) pr_4153 (by decide +kernel) (by decide +kernel) (by decide +kernel) (by decide +kernel) (by decide +kernel) (by decide +kernel)
theorem pr_31757755568855353:Pr 31757755568855353:=prime2 (by decide +kernel) pr_430751 pr_4153 (by decide +kernel) (by decide +kernel) pk_55_0 pk_55_1
theorem pk_116_0:∀ r,Pr r → r ∣ 75445702479781427272750846543864801 → 1919519569386763 ∣ r - 1:=pock1 (a:=2) (f:=116) (y:=56747016255153332959347766392083459) pr_1919519569386763 (by decide +kernel) (by decide +kernel) (by decide +kernel) (by decide +kernel) (by decide +kernel) (by decide +kernel)
theorem pk_116_1:∀ r,Pr r → r ∣ 75445702479781427272750846543864801 → 72106336199 ∣ r - 1:=pock1 (a:=2) (f:=116) (y:=71619851993489548214160924360205394) pr_72106336199 (by decide +kernel) (by decide +kernel) (by decide +kernel) (by decide +kernel) (by decide +kernel) (by decide +kernel)
theorem pr_75445702479781427272750846543864801:Pr 75445702479781427272750846543864801:=prime2 (by decide +kernel) pr_1919519569386763 pr_72106336199 (by decide +kernel) (by decide +kernel) pk_116_0 pk_116_1
theorem pk_236_0:∀ r,Pr r → r ∣ 74058212732561358302231226437062788676166966415465897661863160754340907 → 75445702479781427272750846543864801 ∣ r - 1:=pock1 (a:=2) (f:=236) (y:=69490809710348678725736597923071784769591275419387514694139338586948360) pr_75445702479781427272750846543864801 (by decide +kernel) (by decide +kernel) (by decide +kernel) (by decide +kernel) (by decide +kernel) (by decide +kernel)
theorem pk_236_1:∀ r,Pr r → r ∣ 74058212732561358302231226437062788676166966415465897661863160754340907 → 31757755568855353 ∣ r - 1:=pock1 (a:=2) (f:=236) (y:=50366660687963342066214195241331738400016478712605795091965648721912165) pr_31757755568855353 (by decide +kernel) (by decide +kernel) (by decide +kernel) (by decide +kernel) (by decide +kernel) (by decide +kernel)
theorem pr_74058212732561358302231226437062788676166966415465897661863160754340907:Pr 74058212732561358302231226437062788676166966415465897661863160754340907:=prime2 (by decide +kernel) pr_75445702479781427272750846543864801 pr_31757755568855353 (by decide +kernel) (by decide +kernel) pk_236_0 pk_236_1
theorem pk_255_0:∀ r,Pr r → r ∣ 57896044618658097711785492504343953926634992332820282019728792003956564819949 → 74058212732561358302231226437062788676166966415465897661863160754340907 ∣ r - 1:=pock1 (a:=2) (f:=255) (y:=427094198651976259540344842774561673889945192655078505504941250475370961481) pr_74058212732561358302231226437062788676166966415465897661863160754340907 (by decide +kernel) (by decide +kernel) (by decide +kernel) (by decide +kernel) (by decide +kernel) (by decide +kernel)
theorem pr_p255:Pr 57896044618658097711785492504343953926634992332820282019728792003956564819949:=prime1 (by decide +kernel) (by decide +kernel) (by decide +kernel) pk_255_0
def P255:Nat:=57896044618658097711785492504343953926634992332820282019728792003956564819949
theorem P255_prime:Pr P255:=pr_p255
theorem P255_lt:P255 < 256 ^ 32:=by decide
theorem P255_pos:0 < P255:=by decide
def E255:Nat:=P255 - 2
theorem bit_digit (E q s:Nat) (hs:s < 8):E / 256 ^ q % 256 / 2 ^ s % 2 = E / 2 ^ (8 * q + s) % 2:=by
 have e:(2:Nat) ^ (8 * q + s) = 256 ^ q * 2 ^ s:=by rw [Nat.pow_add,Nat.pow_mul]
 rw [e,← Nat.div_div_eq_div_mul]
 generalize E / 256 ^ q = y
 have:s = 0 ∨ s = 1 ∨ s = 2 ∨ s = 3 ∨ s = 4 ∨ s = 5 ∨ s = 6 ∨ s = 7:=by omega
 rcases this with rfl | rfl | rfl | rfl | rfl | rfl | rfl | rfl <;> simp <;> omega
theorem inv_mul (x:Nat) (h:x % P255 ≠ 0):x ^ E255 % P255 * x % P255 = 1:=by
 have hn:¬ P255 ∣ x:=fun hd => h (Nat.mod_eq_zero_of_dvd hd)
 have hf:=fermat P255_prime hn
 have e:P255 - 1 = E255 + 1:=by decide
 rw [e,Nat.pow_succ] at hf
 rw [Nat.mod_mul_mod]
 exact hf
end Go.Proofs.YthmkhdnnljdglaaGreatDoor
namespace Go.Proofs.YthmkhdnnljdglaaGreatDoor
set_option maxRecDepth 100000
namespace Kum
abbrev F:=Fin 57896044618658097711785492504343953926634992332820282019728792003956564819949
structure Pt where
 X:F
 Z:F
structure Qf where
 a:F
 b:F
 c:F
structure Qt where
 a:F
 b:F
 c:F
 d:F
 e:F
def Pt.nz (p:Pt):Prop:=¬ (p.X = 0 ∧ p.Z = 0)
def Qf.nz (p:Qf):Prop:=¬ (p.a = 0 ∧ p.b = 0 ∧ p.c = 0)
def Pt.sim (p q:Pt):Prop:=∃ s t:F,s ≠ 0 ∧ t ≠ 0 ∧ s * p.X = t * q.X ∧ s * p.Z = t * q.Z
def Qf.sim (p q:Qf):Prop:=∃ s t:F,s ≠ 0 ∧ t ≠ 0 ∧ s * p.a = t * q.a ∧ s * p.b = t * q.b ∧ s * p.c = t * q.c
def Qt.sim (p q:Qt):Prop:=∃ s t:F,s ≠ 0 ∧ t ≠ 0 ∧ s * p.a = t * q.a ∧ s * p.b = t * q.b ∧ s * p.c = t * q.c ∧ s * p.d = t * q.d ∧ s * p.e = t * q.e
def Qf.mul (p q:Qf):Qt:=⟨p.a * q.a,p.a * q.b + p.b * q.a,p.a * q.c + p.b * q.b + p.c * q.a,p.b * q.c + p.c * q.b,p.c * q.c⟩
def pair (p q:Pt):Qf:=⟨p.Z * q.Z,p.X * q.Z + q.X * p.Z,p.X * q.X⟩
def com (A:F) (p q:Pt):Qf:=
 ⟨(p.X * q.Z - q.X * p.Z) * (p.X * q.Z - q.X * p.Z),2 * ((p.X * q.Z + q.X * p.Z) * (p.X * q.X + p.Z * q.Z) + 2 * A * (p.X * q.X * p.Z * q.Z)),(p.X * q.X - p.Z * q.Z) * (p.X * q.X - p.Z * q.Z)⟩
def O:Pt:=⟨1,0⟩
def dbl (A:F) (p:Pt):Pt:=⟨(p.X * p.X - p.Z * p.Z) * (p.X * p.X - p.Z * p.Z),4 * (p.X * p.Z) * (p.X * p.X + A * (p.X * p.Z) + p.Z * p.Z)⟩
def dad (r p q:Pt):Pt:=⟨r.Z * ((p.X * q.X - p.Z * q.Z) * (p.X * q.X - p.Z * q.Z)),r.X * ((p.X * q.Z - q.X * p.Z) * (p.X * q.Z - q.X * p.Z))⟩
theorem Pt.sim.symm {p q:Pt} (h:p.sim q):q.sim p:=by
 obtain ⟨s,t,hs,ht,h1,h2⟩:=h
 exact ⟨t,s,ht,hs,h1.symm,h2.symm⟩
theorem Qf.sim.symm {p q:Qf} (h:p.sim q):q.sim p:=by
 obtain ⟨s,t,hs,ht,h1,h2,h3⟩:=h
 exact ⟨t,s,ht,hs,h1.symm,h2.symm,h3.symm⟩
theorem Qt.sim.symm {p q:Qt} (h:p.sim q):q.sim p:=by
 obtain ⟨s,t,hs,ht,h1,h2,h3,h4,h5⟩:=h
 exact ⟨t,s,ht,hs,h1.symm,h2.symm,h3.symm,h4.symm,h5.symm⟩
theorem sub_zero {a b:F} (h:a - b = 0):a = b:=by grind -lia
theorem Qf.mul_comm (p q:Qf):p.mul q = q.mul p:=by
 simp only [Qf.mul,Qt.mk.injEq]
 refine ⟨?_,?_,?_,?_,?_⟩ <;> grind -lia
theorem pair_comm (p q:Pt):pair p q = pair q p:=by
 simp only [pair,Qf.mk.injEq]
 refine ⟨?_,?_,?_⟩ <;> grind -lia
theorem pair_mul (p q r s:Pt):(pair p q).mul (pair r s) = (pair p r).mul (pair q s):=by
 simp only [pair,Qf.mul,Qt.mk.injEq]
 refine ⟨?_,?_,?_,?_,?_⟩ <;> grind -lia
theorem nz_left {p q:Pt} (h:(pair p q).nz):p.nz:=fun ⟨h1,h2⟩ => h (by simp only [pair,h1,h2];refine ⟨?_,?_,?_⟩ <;> grind -lia)
theorem com_comm (A:F) (p q:Pt):com A p q = com A q p:=by
 simp only [com,Qf.mk.injEq]
 refine ⟨?_,?_,?_⟩ <;> grind -lia
theorem com_O (A:F) (p:Pt):com A p O = pair p p:=by
 simp only [com,pair,O,Qf.mk.injEq]
 refine ⟨?_,?_,?_⟩ <;> grind -lia
theorem com_self (A:F) (p:Pt):com A p p = pair O (dbl A p):=by
 simp only [com,pair,O,dbl,Qf.mk.injEq]
 refine ⟨?_,?_,?_⟩ <;> grind -lia
def gq (A:F) (p:Pt) (v:Qf):Qt:=
 ⟨(v.c * (p.Z * p.Z) - v.b * (p.X * p.Z) + v.a * (p.X * p.X)) * (v.c * (p.Z * p.Z) - v.b * (p.X * p.Z) + v.a * (p.X * p.X)),
  2 * (2 * (p.X * p.Z) * (p.Z * p.Z) * (v.c * v.c) + ((p.Z * p.Z) * (p.X * p.X + p.Z * p.Z + 2 * A * (p.X * p.Z)) - 2 * (p.X * p.Z) * (p.X * p.Z)) * (v.b * v.c) + (p.X * p.Z) * (p.X * p.X + p.Z * p.Z) * (v.b * v.b - 2 * (v.a * v.c)) - 4 * (p.X * p.Z) * (p.X * p.X + p.Z * p.Z + 2 * A * (p.X * p.Z)) * (v.a * v.c) + ((p.X * p.X) * (p.X * p.X + p.Z * p.Z + 2 * A * (p.X * p.Z)) - 2 * (p.X * p.Z) * (p.X * p.Z)) * (v.a * v.b) + 2 * (p.X * p.Z) * (p.X * p.X) * (v.a * v.a)),
  2 * (p.X * p.X) * (p.Z * p.Z) * (v.c * v.c) - 2 * (p.X * p.Z) * (p.X * p.X + p.Z * p.Z) * (v.b * v.c) + (p.X * p.X * (p.X * p.X) + p.Z * p.Z * (p.Z * p.Z)) * (v.b * v.b - 2 * (v.a * v.c)) + 8 * ((p.X * p.Z) * (p.X * p.Z)) * (v.a * v.c) - 2 * (p.X * p.Z) * (p.X * p.X + p.Z * p.Z) * (v.a * v.b) + 2 * (p.X * p.X) * (p.Z * p.Z) * (v.a * v.a)
   + 4 * ((p.X * p.Z) * (p.X * p.Z) * (v.c * v.c) + (p.X * p.Z) * (p.X * p.X + p.Z * p.Z + 2 * A * (p.X * p.Z)) * (v.b * v.c) + (p.X * p.Z) * (p.X * p.Z) * (v.b * v.b - 2 * (v.a * v.c)) + (p.X * p.X + p.Z * p.Z + 2 * A * (p.X * p.Z)) * (p.X * p.X + p.Z * p.Z + 2 * A * (p.X * p.Z)) * (v.a * v.c) + (p.X * p.Z) * (p.X * p.X + p.Z * p.Z + 2 * A * (p.X * p.Z)) * (v.a * v.b) + (p.X * p.Z) * (p.X * p.Z) * (v.a * v.a)),
  2 * (2 * (p.X * p.Z) * (p.X * p.X) * (v.c * v.c) + ((p.X * p.X) * (p.X * p.X + p.Z * p.Z + 2 * A * (p.X * p.Z)) - 2 * (p.X * p.Z) * (p.X * p.Z)) * (v.b * v.c) + (p.X * p.Z) * (p.X * p.X + p.Z * p.Z) * (v.b * v.b - 2 * (v.a * v.c)) - 4 * (p.X * p.Z) * (p.X * p.X + p.Z * p.Z + 2 * A * (p.X * p.Z)) * (v.a * v.c) + ((p.Z * p.Z) * (p.X * p.X + p.Z * p.Z + 2 * A * (p.X * p.Z)) - 2 * (p.X * p.Z) * (p.X * p.Z)) * (v.a * v.b) + 2 * (p.X * p.Z) * (p.Z * p.Z) * (v.a * v.a)),
  (v.c * (p.X * p.X) - v.b * (p.X * p.Z) + v.a * (p.Z * p.Z)) * (v.c * (p.X * p.X) - v.b * (p.X * p.Z) + v.a * (p.Z * p.Z))⟩
theorem gq_pair (A:F) (p q s:Pt):(com A p s).mul (com A q s) = gq A s (pair p q):=by
 simp only [com,Qf.mul,gq,pair,Qt.mk.injEq]
 refine ⟨?_,?_,?_,?_,?_⟩ <;> grind -lia
theorem gq_com (A:F) (p q s:Pt):gq A s (com A p q) = gq A p (com A q s):=by
 simp only [com,gq,Qt.mk.injEq]
 refine ⟨?_,?_,?_,?_,?_⟩ <;> grind -lia
theorem gq_scale (A k:F) (p:Pt) (v:Qf):gq A p ⟨k * v.a,k * v.b,k * v.c⟩ = ⟨k * k * (gq A p v).a,k * k * (gq A p v).b,k * k * (gq A p v).c,k * k * (gq A p v).d,k * k * (gq A p v).e⟩:=by
 simp only [gq,Qt.mk.injEq]
 refine ⟨?_,?_,?_,?_,?_⟩ <;> grind -lia
def three (A:F) (p q r:Pt):F:=(com A p q).c * (r.Z * r.Z) - (com A p q).b * (r.X * r.Z) + (com A p q).a * (r.X * r.X)
theorem three_turn (A:F) (p q r:Pt):three A p q r = three A p r q:=by
 simp only [three,com]
 grind -lia
theorem three_pair (p q:Pt):(pair p q).c * (p.Z * p.Z) - (pair p q).b * (p.X * p.Z) + (pair p q).a * (p.X * p.X) = 0:=by
 simp only [pair]
 grind -lia
theorem r1 (a b c d:F):(a * b) * (c * d) = (a * d) * (b * c):=by grind -lia
theorem r2 (a b c:F):a * b * c = a * (b * c):=by grind -lia
theorem r3 (A m:F) (h:2 * ((m + m) * (m + m) + 2 * A * (m * m)) = 0):(2 * 2 * (A + 2)) * (m * m) = 0:=by grind -lia
theorem r4 (A m:F) (h:2 * ((m + m) * (-m + -m) + 2 * A * (-m * -m)) = 0):(2 * 2 * (A - 2)) * (m * m) = 0:=by grind -lia
theorem mulDom (a b:F) (h:a * b = 0):a = 0 ∨ b = 0:=by
 have h1:(a * b).val = 0:=by rw [h];rfl
 rw [Fin.val_mul] at h1
 have h2:P255 ∣ a.val * b.val:=Nat.dvd_of_mod_eq_zero h1
 rcases P255_prime.euclid h2 with h3 | h3
 ·exact .inl (Fin.ext (Nat.eq_zero_of_dvd_of_lt h3 a.isLt))
 ·exact .inr (Fin.ext (Nat.eq_zero_of_dvd_of_lt h3 b.isLt))
theorem oneDom:(1:F) ≠ 0:=by decide
theorem mul_ne {a b:F} (ha:a ≠ 0) (hb:b ≠ 0):a * b ≠ 0:=fun h => (mulDom a b h).elim ha hb
theorem zero_of {a b:F} (ha:a ≠ 0) (h:a * b = 0):b = 0:=(mulDom a b h).resolve_left ha
theorem Pt.sim.refl (p:Pt):p.sim p:=⟨1,1,oneDom,oneDom,rfl,rfl⟩
theorem Qf.sim.refl (p:Qf):p.sim p:=⟨1,1,oneDom,oneDom,rfl,rfl,rfl⟩
theorem Pt.sim.trans {p q r:Pt} (h:p.sim q) (g:q.sim r):p.sim r:=by
 obtain ⟨s,t,hs,ht,h1,h2⟩:=h
 obtain ⟨s',t',hs',ht',g1,g2⟩:=g
 exact ⟨s' * s,t * t',mul_ne hs' hs,mul_ne ht ht',by grind -lia,by grind -lia⟩
theorem Qf.sim.trans {p q r:Qf} (h:p.sim q) (g:q.sim r):p.sim r:=by
 obtain ⟨s,t,hs,ht,h1,h2,h3⟩:=h
 obtain ⟨s',t',hs',ht',g1,g2,g3⟩:=g
 exact ⟨s' * s,t * t',mul_ne hs' hs,mul_ne ht ht',by grind -lia,by grind -lia,by grind -lia⟩
theorem Qt.sim.trans {p q r:Qt} (h:p.sim q) (g:q.sim r):p.sim r:=by
 obtain ⟨s,t,hs,ht,h1,h2,h3,h4,h5⟩:=h
 obtain ⟨s',t',hs',ht',g1,g2,g3,g4,g5⟩:=g
 exact ⟨s' * s,t * t',mul_ne hs' hs,mul_ne ht ht',by grind -lia,by grind -lia,by grind -lia,by grind -lia,by grind -lia⟩
theorem Pt.sim.nz {p q:Pt} (h:p.sim q) (hp:p.nz):q.nz:=by
 obtain ⟨s,t,hs,ht,h1,h2⟩:=h
 rintro ⟨e1,e2⟩
 exact hp ⟨zero_of hs (by rw [h1,e1];grind -lia),zero_of hs (by rw [h2,e2];grind -lia)⟩
theorem Qf.sim.nz {p q:Qf} (h:p.sim q) (hp:p.nz):q.nz:=by
 obtain ⟨s,t,hs,ht,h1,h2,h3⟩:=h
 rintro ⟨e1,e2,e3⟩
 exact hp ⟨zero_of hs (by rw [h1,e1];grind -lia),zero_of hs (by rw [h2,e2];grind -lia),zero_of hs (by rw [h3,e3];grind -lia)⟩
theorem Qf.mul_sim {p p' q q':Qf} (h:p.sim p') (g:q.sim q'):(p.mul q).sim (p'.mul q'):=by
 obtain ⟨s,t,hs,ht,h1,h2,h3⟩:=h
 obtain ⟨s',t',hs',ht',g1,g2,g3⟩:=g
 refine ⟨s * s',t * t',mul_ne hs hs',mul_ne ht ht',?_,?_,?_,?_,?_⟩ <;> simp only [Qf.mul] <;> grind -lia
theorem mul_zero_of {p w:Qf} (hp:p.nz) (h1:p.a * w.a = 0) (h2:p.a * w.b + p.b * w.a = 0) (h3:p.a * w.c + p.b * w.b + p.c * w.a = 0) (h4:p.b * w.c + p.c * w.b = 0) (h5:p.c * w.c = 0):w.a = 0 ∧ w.b = 0 ∧ w.c = 0:=by
 by_cases ha:p.a = 0
 ·by_cases hb:p.b = 0
  ·have hc:p.c ≠ 0:=fun hc => hp ⟨ha,hb,hc⟩
   exact ⟨zero_of hc (by grind -lia),zero_of hc (by grind -lia),zero_of hc (by grind -lia)⟩
  ·have e0:w.a = 0:=zero_of hb (by grind -lia)
   have e1:w.b = 0:=zero_of hb (by grind -lia)
   exact ⟨e0,e1,zero_of hb (by grind -lia)⟩
 ·have e0:w.a = 0:=zero_of ha h1
  have e1:w.b = 0:=zero_of ha (by grind -lia)
  exact ⟨e0,e1,zero_of ha (by grind -lia)⟩
theorem Qf.mul_cancel {p q q':Qf} (hp:p.nz) (h:(p.mul q).sim (p.mul q')):q.sim q':=by
 obtain ⟨s,t,hs,ht,h1,h2,h3,h4,h5⟩:=h
 simp only [Qf.mul] at h1 h2 h3 h4 h5
 obtain ⟨e1,e2,e3⟩:=mul_zero_of (w:=⟨s * q.a - t * q'.a,s * q.b - t * q'.b,s * q.c - t * q'.c⟩) hp (by clear h2 h3 h4 h5;grind -lia) (by clear h1 h3 h4 h5;grind -lia) (by clear h1 h2 h4 h5;grind -lia) (by clear h1 h2 h3 h5;grind -lia) (by clear h1 h2 h3 h4;grind -lia)
 exact ⟨s,t,hs,ht,sub_zero e1,sub_zero e2,sub_zero e3⟩
theorem pair_zero {p q:Pt} (hp:p.nz) (h1:p.Z * q.Z = 0) (h2:p.X * q.Z + q.X * p.Z = 0) (h3:p.X * q.X = 0):q.X = 0 ∧ q.Z = 0:=by
 by_cases hz:p.Z = 0
 ·have hx:p.X ≠ 0:=fun hx => hp ⟨hx,hz⟩
  exact ⟨zero_of hx h3,zero_of hx (by grind -lia)⟩
 ·have e:q.Z = 0:=zero_of hz h1
  exact ⟨zero_of hz (by grind -lia),e⟩
theorem pair_nz {p q:Pt} (hp:p.nz) (hq:q.nz):(pair p q).nz:=fun ⟨h1,h2,h3⟩ => hq (pair_zero hp h1 h2 h3)
theorem pair_cancel {p q q':Pt} (hp:p.nz) (h:(pair p q).sim (pair p q')):q.sim q':=by
 obtain ⟨s,t,hs,ht,h1,h2,h3⟩:=h
 simp only [pair] at h1 h2 h3
 obtain ⟨e1,e2⟩:=pair_zero (q:=⟨s * q.X - t * q'.X,s * q.Z - t * q'.Z⟩) hp (by clear h2 h3;grind -lia) (by clear h1 h3;grind -lia) (by clear h1 h2;grind -lia)
 exact ⟨s,t,hs,ht,sub_zero e1,sub_zero e2⟩
theorem pair_sim {p p' q q':Pt} (h:p.sim p') (g:q.sim q'):(pair p q).sim (pair p' q'):=by
 obtain ⟨s,t,hs,ht,h1,h2⟩:=h
 obtain ⟨s',t',hs',ht',g1,g2⟩:=g
 refine ⟨s * s',t * t',mul_ne hs hs',mul_ne ht ht',?_,?_,?_⟩ <;> simp only [pair] <;> grind -lia
theorem com_sim (A:F) {p p' q q':Pt} (h:p.sim p') (g:q.sim q'):(com A p q).sim (com A p' q'):=by
 obtain ⟨s,t,hs,ht,h1,h2⟩:=h
 obtain ⟨s',t',hs',ht',g1,g2⟩:=g
 refine ⟨(s * s') * (s * s'),(t * t') * (t * t'),mul_ne (mul_ne hs hs') (mul_ne hs hs'),mul_ne (mul_ne ht ht') (mul_ne ht ht'),?_,?_,?_⟩
 ·have e1:(s * p.X) * (s' * q.Z) = (t * p'.X) * (t' * q'.Z):=by rw [h1,g2]
  have e2:(s * p.Z) * (s' * q.X) = (t * p'.Z) * (t' * q'.X):=by rw [h2,g1]
  have e3:(s * s') * (p.X * q.Z - q.X * p.Z) = (t * t') * (p'.X * q'.Z - q'.X * p'.Z):=by grind -lia
  have f1:(s * s') * (s * s') * (com A p q).a = ((s * s') * (p.X * q.Z - q.X * p.Z)) * ((s * s') * (p.X * q.Z - q.X * p.Z)):=by simp only [com];grind -lia
  have f2:(t * t') * (t * t') * (com A p' q').a = ((t * t') * (p'.X * q'.Z - q'.X * p'.Z)) * ((t * t') * (p'.X * q'.Z - q'.X * p'.Z)):=by simp only [com];grind -lia
  rw [f1,f2,e3]
 ·have e1:(s * s') * (p.X * q.Z + q.X * p.Z) = (t * t') * (p'.X * q'.Z + q'.X * p'.Z):=by
   have e1:(s * p.X) * (s' * q.Z) = (t * p'.X) * (t' * q'.Z):=by rw [h1,g2]
   have e2:(s * p.Z) * (s' * q.X) = (t * p'.Z) * (t' * q'.X):=by rw [h2,g1]
   grind -lia
  have e2:(s * s') * (p.X * q.X + p.Z * q.Z) = (t * t') * (p'.X * q'.X + p'.Z * q'.Z):=by
   have e1:(s * p.X) * (s' * q.X) = (t * p'.X) * (t' * q'.X):=by rw [h1,g1]
   have e2:(s * p.Z) * (s' * q.Z) = (t * p'.Z) * (t' * q'.Z):=by rw [h2,g2]
   grind -lia
  have e3:(s * s') * (s * s') * (p.X * q.X * p.Z * q.Z) = (t * t') * (t * t') * (p'.X * q'.X * p'.Z * q'.Z):=by
   have e1:((s * p.X) * (s' * q.X)) * ((s * p.Z) * (s' * q.Z)) = ((t * p'.X) * (t' * q'.X)) * ((t * p'.Z) * (t' * q'.Z)):=by rw [h1,g1,h2,g2]
   grind -lia
  have f1:(s * s') * (s * s') * (com A p q).b = 2 * (((s * s') * (p.X * q.Z + q.X * p.Z)) * ((s * s') * (p.X * q.X + p.Z * q.Z)) + 2 * A * ((s * s') * (s * s') * (p.X * q.X * p.Z * q.Z))):=by simp only [com];grind -lia
  have f2:(t * t') * (t * t') * (com A p' q').b = 2 * (((t * t') * (p'.X * q'.Z + q'.X * p'.Z)) * ((t * t') * (p'.X * q'.X + p'.Z * q'.Z)) + 2 * A * ((t * t') * (t * t') * (p'.X * q'.X * p'.Z * q'.Z))):=by simp only [com];grind -lia
  rw [f1,f2,e1,e2,e3]
 ·have e3:(s * s') * (p.X * q.X - p.Z * q.Z) = (t * t') * (p'.X * q'.X - p'.Z * q'.Z):=by
   have e1:(s * p.X) * (s' * q.X) = (t * p'.X) * (t' * q'.X):=by rw [h1,g1]
   have e2:(s * p.Z) * (s' * q.Z) = (t * p'.Z) * (t' * q'.Z):=by rw [h2,g2]
   grind -lia
  have f1:(s * s') * (s * s') * (com A p q).c = ((s * s') * (p.X * q.X - p.Z * q.Z)) * ((s * s') * (p.X * q.X - p.Z * q.Z)):=by simp only [com];grind -lia
  have f2:(t * t') * (t * t') * (com A p' q').c = ((t * t') * (p'.X * q'.X - p'.Z * q'.Z)) * ((t * t') * (p'.X * q'.X - p'.Z * q'.Z)):=by simp only [com];grind -lia
  rw [f1,f2,e3]
structure Good (A:F):Prop where
 two:(2:F) ≠ 0
 plus:A + 2 ≠ 0
 minus:A - 2 ≠ 0
theorem com_nz {A:F} (hA:Good A) {p q:Pt} (hp:p.nz) (hq:q.nz):(com A p q).nz:=by
 rintro ⟨h0,h1,h2⟩
 simp only [com] at h0 h1 h2
 have e0:p.X * q.Z - q.X * p.Z = 0:=(mulDom _ _ h0).elim id id
 have e2:p.X * q.X - p.Z * q.Z = 0:=(mulDom _ _ h2).elim id id
 have f0:q.X * p.Z = p.X * q.Z:=by grind -lia
 have f2:p.Z * q.Z = p.X * q.X:=by grind -lia
 generalize hm:p.X * q.Z = m at *
 generalize hn:p.X * q.X = n at *
 have e4:n * n = m * m:=by
  have:(p.X * q.X) * (p.Z * q.Z) = (p.X * q.Z) * (q.X * p.Z):=r1 _ _ _ _
  rw [hn,f2,hm,f0] at this
  exact this
 have e5:n * p.Z * q.Z = n * n:=by
  have:n * p.Z * q.Z = n * (p.Z * q.Z):=r2 _ _ _
  rw [this,f2]
 have e6:(n - m) * (n + m) = 0:=by grind -lia
 have h4:(2:F) * 2 ≠ 0:=mul_ne hA.two hA.two
 have hm0:m = 0:=by
  rcases mulDom _ _ e6 with h | h
  ·have en:n = m:=by grind -lia
   have:(2 * 2 * (A + 2)) * (m * m) = 0:=by
    rw [f0,f2,e5,en] at h1
    exact r3 A m h1
   exact (mulDom _ _ (zero_of (mul_ne h4 hA.plus) this)).elim id id
  ·have en:n = - m:=by grind -lia
   have:(2 * 2 * (A - 2)) * (m * m) = 0:=by
    rw [f0,f2,e5,en] at h1
    exact r4 A m h1
   exact (mulDom _ _ (zero_of (mul_ne h4 hA.minus) this)).elim id id
 have hn0:n = 0:=(mulDom _ _ (show n * n = 0 by rw [e4,hm0];grind -lia)).elim id id
 rw [hm0] at hm f0
 rw [hn0] at hn f2
 by_cases hx:p.X = 0
 ·have hz:p.Z ≠ 0:=fun hz => hp ⟨hx,hz⟩
  exact hq ⟨zero_of hz (by grind -lia),zero_of hz f2⟩
 ·exact hq ⟨zero_of hx hn,zero_of hx hm⟩
theorem gq_sim (A:F) (p:Pt) {v v':Qf} (h:v.sim v'):(gq A p v).sim (gq A p v'):=by
 obtain ⟨s,t,hs,ht,h1,h2,h3⟩:=h
 have e1:=gq_scale A s p v
 have e2:=gq_scale A t p v'
 rw [h1,h2,h3,e2] at e1
 injection e1 with f1 f2 f3 f4 f5
 exact ⟨s * s,t * t,mul_ne hs hs,mul_ne ht ht,f1.symm,f2.symm,f3.symm,f4.symm,f5.symm⟩
theorem four (A:F) {p q s P M Q N:Pt} (h:(pair P M).sim (com A p q)) (g:(pair Q N).sim (com A q s)):((com A P s).mul (com A M s)).sim ((com A p Q).mul (com A p N)):=by
 rw [gq_pair,com_comm A p Q,com_comm A p N,gq_pair]
 have h1:=gq_sim A s h
 have h2:=gq_sim A p g
 rw [← gq_com A p q s] at h2
 exact h1.trans h2.symm
theorem three_zero (A:F) {p q r M:Pt} (h:(com A p r).sim (pair q M)):three A p q r = 0:=by
 rw [three_turn]
 obtain ⟨s,t,hs,ht,h1,h2,h3⟩:=h
 have e:s * three A p r q = t * ((pair q M).c * (q.Z * q.Z) - (pair q M).b * (q.X * q.Z) + (pair q M).a * (q.X * q.X)):=by
  unfold three
  grind -lia
 rw [three_pair] at e
 exact zero_of hs (by rw [e];grind -lia)
theorem dad_pair {A:F} {p q r:Pt} (hx:r.X ≠ 0) (hz:r.Z ≠ 0) (h:three A p q r = 0):(pair (dad r p q) r).sim (com A p q):=by
 refine ⟨1,r.X * r.Z,oneDom,mul_ne hx hz,?_,?_,?_⟩
 ·simp only [pair,dad,com]
  grind -lia
 ·unfold three at h
  have e:(pair (dad r p q) r).b = (com A p q).c * (r.Z * r.Z) + (com A p q).a * (r.X * r.X):=by
   simp only [pair,dad,com]
   grind -lia
  rw [e]
  grind -lia
 ·simp only [pair,dad,com]
  grind -lia
theorem O_nz:(O:Pt).nz:=fun h => oneDom h.1
def mulP (A:F) (r:Pt) (n:Nat):Pt:=
 if h0:n = 0 then O else if h1:n = 1 then r else if h2:n % 2 = 0 then dbl A (mulP A r (n / 2)) else dad r (mulP A r (n / 2)) (mulP A r (n / 2 + 1))
theorem mulP_zero (A:F) (r:Pt):mulP A r 0 = O:=by rw [mulP];simp
theorem mulP_one (A:F) (r:Pt):mulP A r 1 = r:=by rw [mulP];simp
theorem mulP_even (A:F) (r:Pt) (m:Nat) (hm:1 ≤ m):mulP A r (2 * m) = dbl A (mulP A r m):=by
 rw [mulP,dif_neg (by omega),dif_neg (by omega),dif_pos (by omega),show 2 * m / 2 = m by omega]
theorem mulP_odd (A:F) (r:Pt) (m:Nat) (hm:1 ≤ m):mulP A r (2 * m + 1) = dad r (mulP A r m) (mulP A r (m + 1)):=by
 rw [mulP,dif_neg (by omega),dif_neg (by omega),dif_neg (by omega),show (2 * m + 1) / 2 = m by omega]
structure Line (A:F) (r:Pt):Prop where
 good:Good A
 x:r.X ≠ 0
 z:r.Z ≠ 0
theorem Line.nz {A:F} {r:Pt} (h:Line A r):r.nz:=fun e => h.x e.1
theorem mulP_two (A:F) (r:Pt):mulP A r 2 = dbl A r:=by
 have:=mulP_even A r 1 (by omega)
 rw [mulP_one] at this
 exact this
theorem dbl_O (A:F):dbl A O = O:=by
 simp only [dbl,O,Pt.mk.injEq]
 refine ⟨?_,?_⟩ <;> grind -lia
theorem mulP_twice (A:F) (r:Pt) (m:Nat):mulP A r (2 * m) = dbl A (mulP A r m):=by
 by_cases h:m = 0
 ·rw [h,Nat.mul_zero,mulP_zero,dbl_O]
 ·exact mulP_even A r m (by omega)
def Next (A:F) (r:Pt) (m:Nat):Prop:=(com A (mulP A r m) r).sim (pair (mulP A r (m + 1)) (mulP A r (m - 1)))
theorem odd_pair {A:F} {r:Pt} (hL:Line A r) (m:Nat) (h:m = 0 ∨ (1 ≤ m ∧ Next A r m)):(pair (mulP A r (2 * m + 1)) r).sim (com A (mulP A r m) (mulP A r (m + 1))):=by
 rcases h with rfl | ⟨h1,h⟩
 ·rw [mulP_zero,show 2 * 0 + 1 = 1 from rfl,mulP_one,com_comm,com_O]
  exact Qf.sim.refl _
 ·rw [mulP_odd A r m h1]
  exact dad_pair hL.x hL.z (three_zero A h)
theorem dbl_nz {A:F} (hA:Good A) {p:Pt} (hp:p.nz):(dbl A p).nz:=by
 have h:=com_nz hA hp hp
 rw [com_self,pair_comm] at h
 exact nz_left h
theorem apart {A:F} {r:Pt} (hL:Line A r) (k:Nat) (hn:∀ j,j ≤ k → (mulP A r j).nz) (hB:∀ j,1 ≤ j → j < k → Next A r j):∀ m,1 ≤ m → m < k → (com A (mulP A r (m + 1)) (mulP A r (m - 1))).sim (pair (mulP A r (2 * m)) (mulP A r 2)):=by
 intro m
 induction m with
 | zero => intro h;omega
 | succ m ih =>
  intro _ hk
  by_cases hm:m = 0
  ·subst hm
   show (com A (mulP A r 2) (mulP A r 0)).sim (pair (mulP A r 2) (mulP A r 2))
   rw [mulP_zero,com_O]
   exact Qf.sim.refl _
  ·have hW:=ih (by omega) (by omega)
   have h1:(pair (mulP A r (m + 1 + 1)) (mulP A r (m + 1 - 1))).sim (com A (mulP A r (m + 1)) r):=(hB (m + 1) (by omega) hk).symm
   have h2:(pair (mulP A r (m + 1)) (mulP A r (m - 1))).sim (com A r (mulP A r m)):=by rw [com_comm];exact (hB m (by omega) (by omega)).symm
   have h3:=four A h1 h2
   simp only [Nat.add_sub_cancel] at h3 ⊢
   rw [com_self A (mulP A r m),com_self A (mulP A r (m + 1)),← mulP_even A r m (by omega),← mulP_even A r (m + 1) (by omega)] at h3
   have h4:=h3.trans (Qf.mul_sim (Qf.sim.refl (pair O (mulP A r (2 * (m + 1))))) hW)
   rw [pair_mul O (mulP A r (2 * (m + 1))),Qf.mul_comm (com A _ _)] at h4
   exact Qf.mul_cancel (pair_nz O_nz (by rw [mulP_even A r m (by omega)];exact dbl_nz hL.good (hn m (by omega)))) h4
theorem all_next {A:F} {r:Pt} (hL:Line A r):∀ k,(∀ j,j ≤ k → (mulP A r j).nz) ∧ (∀ j,1 ≤ j → j < k → Next A r j):=by
 intro k
 induction k with
 | zero => exact ⟨fun j hj => by rw [show j = 0 by omega,mulP_zero];exact O_nz,fun j h1 h2 => by omega⟩
 | succ k ih =>
  obtain ⟨hn,hB⟩:=ih
  suffices h:(mulP A r (k + 1)).nz ∧ (1 ≤ k → Next A r k) by
   refine ⟨fun j hj => ?_,fun j h1 h2 => ?_⟩
   ·by_cases e:j = k + 1
    ·rw [e];exact h.1
    ·exact hn j (by omega)
   ·by_cases e:j = k
    ·rw [e];exact h.2 (by omega)
    ·exact hB j h1 (by omega)
  by_cases h0:k = 0
  ·subst h0
   exact ⟨by rw [mulP_one];exact hL.nz,fun h => by omega⟩
  by_cases h1:k = 1
  ·subst h1
   refine ⟨by rw [mulP_two];exact dbl_nz hL.good hL.nz,fun _ => ?_⟩
   show (com A (mulP A r 1) r).sim (pair (mulP A r 2) (mulP A r 0))
   rw [mulP_one,mulP_zero,mulP_two,com_self,pair_comm]
   exact Qf.sim.refl _
  have hnext:∀ m,m < k → m = 0 ∨ (1 ≤ m ∧ Next A r m):=fun m hm => by
   by_cases e:m = 0
   ·exact .inl e
   ·exact .inr ⟨by omega,hB m (by omega) hm⟩
  rcases Nat.mod_two_eq_zero_or_one k with h2 | h2
  ·obtain ⟨m,rfl⟩:∃ m,k = 2 * m:=⟨k / 2,by omega⟩
   have hD:=odd_pair hL m (hnext m (by omega))
   refine ⟨nz_left (hD.symm.nz (com_nz hL.good (hn m (by omega)) (hn (m + 1) (by omega)))),fun _ => ?_⟩
   have hD':=odd_pair hL (m - 1) (hnext (m - 1) (by omega))
   rw [show 2 * (m - 1) + 1 = 2 * m - 1 by omega,show m - 1 + 1 = m by omega,com_comm] at hD'
   have hb:=hB m (by omega) (by omega)
   have hP:(pair (mulP A r (2 * m)) O).sim (com A (mulP A r m) (mulP A r m)):=by
    rw [com_self,← mulP_even A r m (by omega),pair_comm]
    exact Qf.sim.refl _
   have h3:=four A hP hb.symm
   have h4:=h3.trans (Qf.mul_sim hD.symm hD'.symm)
   rw [com_comm A O r,com_O,pair_mul (mulP A r (2 * m + 1)),Qf.mul_comm (com A _ _),Qf.mul_comm (pair (mulP A r (2 * m + 1)) _)] at h4
   exact Qf.mul_cancel (pair_nz hL.nz hL.nz) h4
  ·obtain ⟨m,rfl⟩:∃ m,k = 2 * m + 1:=⟨k / 2,by omega⟩
   have hD:=odd_pair hL m (hnext m (by omega))
   have hW:=apart hL _ hn hB m (by omega) (by omega)
   refine ⟨by rw [show 2 * m + 1 + 1 = 2 * (m + 1) by omega,mulP_even A r (m + 1) (by omega)];exact dbl_nz hL.good (hn (m + 1) (by omega)),fun _ => ?_⟩
   have hb:=hB m (by omega) (by omega)
   rw [com_comm] at hD
   have h3:=four A hD hb.symm
   rw [com_self A r,com_self A (mulP A r (m + 1)),← mulP_even A r (m + 1) (by omega),← mulP_two] at h3
   have h4:=h3.trans (Qf.mul_sim (Qf.sim.refl _) hW)
   rw [pair_comm (mulP A r (2 * m)),pair_mul O,Qf.mul_comm (com A _ _)] at h4
   exact Qf.mul_cancel (pair_nz O_nz (by rw [mulP_two];exact dbl_nz hL.good hL.nz)) h4
theorem mulP_nz {A:F} {r:Pt} (hL:Line A r) (n:Nat):(mulP A r n).nz:=(all_next hL n).1 n (Nat.le_refl _)
theorem next_any {A:F} {r:Pt} (hL:Line A r) (n:Nat) (hn:1 ≤ n):Next A r n:=(all_next hL (n + 1)).2 n hn (by omega)
theorem both {A:F} {r:Pt} (hL:Line A r):∀ n m,n ≤ m → (com A (mulP A r m) (mulP A r n)).sim (pair (mulP A r (m + n)) (mulP A r (m - n))):=by
 intro n
 induction n using Nat.strongRecOn with
 | _ n ih =>
  intro m hm
  by_cases h0:n = 0
  ·subst h0
   rw [mulP_zero,com_O]
   exact Qf.sim.refl _
  by_cases h1:n = 1
  ·subst h1
   rw [mulP_one]
   exact next_any hL m hm
  obtain ⟨j,rfl⟩:∃ j,n = j + 1:=⟨n - 1,by omega⟩
  have hj:=ih j (by omega) m (by omega)
  have hj':=ih (j - 1) (by omega) m (by omega)
  have h3:=four A hj.symm (next_any hL j (by omega)).symm
  have h4:=((Qf.mul_sim (next_any hL (m + j) (by omega)) (next_any hL (m - j) (by omega))).symm.trans h3).trans (Qf.mul_sim (Qf.sim.refl _) hj')
  rw [show m - j + 1 = m - (j - 1) by omega,show m - j - 1 = m - (j + 1) by omega,show m + j - 1 = m + (j - 1) by omega,show m + j + 1 = m + (j + 1) by omega] at h4
  rw [pair_comm (mulP A r (m - (j - 1))),pair_mul (mulP A r (m + (j + 1))),Qf.mul_comm,Qf.mul_comm (com A _ _)] at h4
  exact (Qf.mul_cancel (pair_nz (mulP_nz hL _) (mulP_nz hL _)) h4).symm
theorem dbl_sim (A:F) {p q:Pt} (h:p.sim q):(dbl A p).sim (dbl A q):=by
 obtain ⟨s,t,hs,ht,h1,h2⟩:=h
 refine ⟨(s * s) * (s * s),(t * t) * (t * t),mul_ne (mul_ne hs hs) (mul_ne hs hs),mul_ne (mul_ne ht ht) (mul_ne ht ht),?_,?_⟩
 ·have e:(s * s) * (s * s) * (dbl A p).X = ((s * p.X) * (s * p.X) - (s * p.Z) * (s * p.Z)) * ((s * p.X) * (s * p.X) - (s * p.Z) * (s * p.Z)):=by simp only [dbl];grind -lia
  have e':(t * t) * (t * t) * (dbl A q).X = ((t * q.X) * (t * q.X) - (t * q.Z) * (t * q.Z)) * ((t * q.X) * (t * q.X) - (t * q.Z) * (t * q.Z)):=by simp only [dbl];grind -lia
  rw [e,e',h1,h2]
 ·have e:(s * s) * (s * s) * (dbl A p).Z = 4 * ((s * p.X) * (s * p.Z)) * ((s * p.X) * (s * p.X) + A * ((s * p.X) * (s * p.Z)) + (s * p.Z) * (s * p.Z)):=by simp only [dbl];grind -lia
  have e':(t * t) * (t * t) * (dbl A q).Z = 4 * ((t * q.X) * (t * q.Z)) * ((t * q.X) * (t * q.X) + A * ((t * q.X) * (t * q.Z)) + (t * q.Z) * (t * q.Z)):=by simp only [dbl];grind -lia
  rw [e,e',h1,h2]
theorem mul_mul {A:F} {r r':Pt} (hL:Line A r) (hL':Line A r') (n:Nat) (hr:r'.sim (mulP A r n)):∀ k,(mulP A r' k).sim (mulP A r (k * n)):=by
 intro k
 induction k using Nat.strongRecOn with
 | _ k ih =>
  by_cases h0:k = 0
  ·rw [h0,Nat.zero_mul,mulP_zero,mulP_zero]
   exact Pt.sim.refl _
  by_cases h1:k = 1
  ·rw [h1,Nat.one_mul,mulP_one]
   exact hr
  rcases Nat.mod_two_eq_zero_or_one k with h2 | h2
  ·obtain ⟨m,rfl⟩:∃ m,k = 2 * m:=⟨k / 2,by omega⟩
   rw [mulP_twice,Nat.mul_assoc,mulP_twice]
   exact dbl_sim A (ih m (by omega))
  ·obtain ⟨m,rfl⟩:∃ m,k = 2 * m + 1:=⟨k / 2,by omega⟩
   have hD:=odd_pair hL' m (.inr ⟨by omega,next_any hL' m (by omega)⟩)
   have hc:=com_sim A (ih (m + 1) (by omega)) (ih m (by omega))
   rw [com_comm] at hD
   have hb:=both hL (m * n) ((m + 1) * n) (Nat.mul_le_mul_right n (by omega))
   have e1:(m + 1) * n + m * n = (2 * m + 1) * n:=by rw [← Nat.add_mul];congr 1;omega
   have e2:(m + 1) * n - m * n = n:=by rw [← Nat.sub_mul,show m + 1 - m = 1 by omega,Nat.one_mul]
   rw [e1,e2] at hb
   have h3:=(hD.trans hc).trans hb
   have h4:=h3.trans (pair_sim (Pt.sim.refl (mulP A r ((2 * m + 1) * n))) hr.symm)
   rw [pair_comm _ r',pair_comm _ r'] at h4
   exact pair_cancel hL'.nz h4
theorem sim_O {p:Pt} (hp:p.nz) (hz:p.Z = 0):p.sim O:=⟨1,p.X,oneDom,fun hx => hp ⟨hx,hz⟩,by simp only [O];grind -lia,by rw [hz];simp only [O];grind -lia⟩
theorem Pt.sim.z {p q:Pt} (h:p.sim q) (hz:p.Z = 0):q.Z = 0:=by
 obtain ⟨s,t,hs,ht,h1,h2⟩:=h
 exact zero_of ht (by rw [← h2,hz];grind -lia)
theorem Pt.sim.x {p q:Pt} (h:p.sim q) (hz:p.X = 0):q.X = 0:=by
 obtain ⟨s,t,hs,ht,h1,h2⟩:=h
 exact zero_of ht (by rw [← h1,hz];grind -lia)
theorem cross_sim {a p:Pt} (ha:a.nz) (hp:p.nz) (h:p.X * a.Z = a.X * p.Z):a.sim p:=by
 by_cases hz:p.Z = 0
 ·have hx:p.X ≠ 0:=fun hx => hp ⟨hx,hz⟩
  have az:a.Z = 0:=zero_of hx (by rw [h,hz];grind -lia)
  exact ⟨p.X,a.X,hx,fun ax => ha ⟨ax,az⟩,by grind -lia,by rw [az,hz];grind -lia⟩
 ·have az:a.Z ≠ 0:=fun az => by
   have:p.Z * a.X = 0:=by rw [az] at h;grind -lia
   exact ha ⟨zero_of hz this,az⟩
  exact ⟨p.Z,a.Z,hz,az,by grind -lia,by grind -lia⟩
theorem twice_sim {p a b:Pt} (h:(pair p p).sim (pair a b)) (ha:a.nz) (hp:p.nz):a.sim p:=by
 obtain ⟨s,t,hs,ht,h1,h2,h3⟩:=h
 refine cross_sim ha hp ?_
 have e:s * ((p.X * a.Z - a.X * p.Z) * (p.X * a.Z - a.X * p.Z)) = t * ((pair a b).c * (a.Z * a.Z) - (pair a b).b * (a.X * a.Z) + (pair a b).a * (a.X * a.X)):=by
  have e1:s * ((p.X * a.Z - a.X * p.Z) * (p.X * a.Z - a.X * p.Z)) = (s * (pair p p).c) * (a.Z * a.Z) - (s * (pair p p).b) * (a.X * a.Z) + (s * (pair p p).a) * (a.X * a.X):=by
   simp only [pair];grind -lia
  rw [e1,h1,h2,h3]
  grind -lia
 rw [three_pair] at e
 have e2:=zero_of hs (show s * ((p.X * a.Z - a.X * p.Z) * (p.X * a.Z - a.X * p.Z)) = 0 by rw [e];grind -lia)
 have e3:p.X * a.Z - a.X * p.Z = 0:=(mulDom _ _ e2).elim id id
 exact sub_zero e3
theorem shift {A:F} {r:Pt} (hL:Line A r) (m n:Nat) (h:(mulP A r m).Z = 0):(mulP A r (n + m)).sim (mulP A r n):=by
 have hO:=sim_O (mulP_nz hL m) h
 by_cases hm:m ≤ n
 ·have hb:=both hL m n hm
  have hc:=com_sim A (Pt.sim.refl (mulP A r n)) hO
  rw [com_O] at hc
  exact twice_sim (hc.symm.trans hb) (mulP_nz hL _) (mulP_nz hL _)
 ·have hb:=both hL n m (by omega)
  have hc:=com_sim A hO (Pt.sim.refl (mulP A r n))
  rw [com_comm A O,com_O] at hc
  rw [Nat.add_comm n m]
  exact twice_sim (hc.symm.trans hb) (mulP_nz hL _) (mulP_nz hL _)
theorem none_mod {A:F} {r:Pt} (hL:Line A r) (m:Nat) (h:(mulP A r m).Z = 0):∀ n,(mulP A r n).Z = 0 → (mulP A r (n % m)).Z = 0:=by
 intro n
 induction n using Nat.strongRecOn with
 | _ n ih =>
  intro hn
  by_cases hm:n < m
  ·rw [Nat.mod_eq_of_lt hm];exact hn
  by_cases h0:m = 0
  ·rw [h0,Nat.mod_zero];exact hn
  ·rw [Nat.mod_eq_sub_mod (by omega)]
   refine ih (n - m) (by omega) ?_
   have:=shift hL m (n - m) h
   rw [Nat.sub_add_cancel (by omega)] at this
   exact this.z hn
theorem none_gcd {A:F} {r:Pt} (hL:Line A r):∀ m n,(mulP A r m).Z = 0 → (mulP A r n).Z = 0 → (mulP A r (Nat.gcd m n)).Z = 0:=by
 intro m n
 induction m,n using Nat.gcd.induction with
 | H0 n => intro _ h;rw [Nat.gcd_zero_left];exact h
 | H1 m n hm ih =>
  intro h1 h2
  rw [Nat.gcd_rec]
  exact ih (none_mod hL m h1 n h2) h1
theorem none_mul {A:F} {r:Pt} (hL:Line A r) (m:Nat) (h:(mulP A r m).Z = 0):∀ k,(mulP A r (k * m)).Z = 0
 | 0 => by rw [Nat.zero_mul,mulP_zero];rfl
 | k + 1 => by
  rw [Nat.succ_mul]
  exact (shift hL m (k * m) h).symm.z (none_mul hL m h k)
theorem none_twice {A:F} {r:Pt} (n:Nat) (h:(mulP A r n).X = 0):(mulP A r (2 * n)).Z = 0:=by
 rw [mulP_twice]
 simp only [dbl,h]
 grind -lia
def stepP (a24 u:F) (p q:Pt):Pt × Pt:=
 (⟨((p.X + p.Z) * (p.X + p.Z)) * ((p.X - p.Z) * (p.X - p.Z)),((p.X + p.Z) * (p.X + p.Z) - (p.X - p.Z) * (p.X - p.Z)) * ((p.X + p.Z) * (p.X + p.Z) + a24 * ((p.X + p.Z) * (p.X + p.Z) - (p.X - p.Z) * (p.X - p.Z)))⟩,
  ⟨((q.X - q.Z) * (p.X + p.Z) + (q.X + q.Z) * (p.X - p.Z)) * ((q.X - q.Z) * (p.X + p.Z) + (q.X + q.Z) * (p.X - p.Z)),u * (((q.X - q.Z) * (p.X + p.Z) - (q.X + q.Z) * (p.X - p.Z)) * ((q.X - q.Z) * (p.X + p.Z) - (q.X + q.Z) * (p.X - p.Z)))⟩)
theorem step_dbl {A a24 u:F} (hA:A = 4 * a24 + 2) (p q:Pt):(stepP a24 u p q).1 = dbl A p:=by
 simp only [stepP,dbl,Pt.mk.injEq]
 refine ⟨?_,?_⟩ <;> grind -lia
theorem step_dad {a24 u:F} (h2:(2:F) ≠ 0) (p q:Pt):(stepP a24 u p q).2.sim (dad ⟨u,1⟩ p q):=by
 refine ⟨1,2 * 2,oneDom,mul_ne h2 h2,?_,?_⟩ <;> simp only [stepP,dad] <;> grind -lia
theorem dad_sim (r:Pt) {p p' q q':Pt} (h:p.sim p') (g:q.sim q'):(dad r p q).sim (dad r p' q'):=by
 have hc:=com_sim (0:F) h g
 obtain ⟨s,t,hs,ht,h1,h2,h3⟩:=hc
 simp only [com] at h1 h3
 refine ⟨s,t,hs,ht,?_,?_⟩ <;> simp only [dad] <;> grind -lia
def At (A u:F) (n:Nat) (p q:Pt):Prop:=p.sim (mulP A ⟨u,1⟩ n) ∧ q.sim (mulP A ⟨u,1⟩ (n + 1))
theorem dad_first {A u:F} (hu:u ≠ 0):(dad ⟨u,1⟩ (mulP A ⟨u,1⟩ 0) (mulP A ⟨u,1⟩ 1)).sim (mulP A ⟨u,1⟩ 1):=by
 rw [mulP_zero,mulP_one]
 refine ⟨1,u,oneDom,hu,?_,?_⟩ <;> simp only [dad,O] <;> grind -lia
theorem odd_sim {A u:F} (hu:u ≠ 0) (m:Nat):(dad ⟨u,1⟩ (mulP A ⟨u,1⟩ m) (mulP A ⟨u,1⟩ (m + 1))).sim (mulP A ⟨u,1⟩ (2 * m + 1)):=by
 by_cases h:m = 0
 ·subst h;exact dad_first hu
 ·rw [mulP_odd A _ m (by omega)];exact Pt.sim.refl _
theorem At.zero {A u a24:F} (h2:(2:F) ≠ 0) (hA:A = 4 * a24 + 2) (hu:u ≠ 0) {n:Nat} {p q:Pt} (h:At A u n p q):At A u (2 * n) (stepP a24 u p q).1 (stepP a24 u p q).2:=by
 refine ⟨?_,?_⟩
 ·rw [step_dbl hA,mulP_twice];exact dbl_sim A h.1
 ·exact (step_dad h2 p q).trans ((dad_sim _ h.1 h.2).trans (odd_sim hu n))
theorem dad_comm (r p q:Pt):dad r p q = dad r q p:=by
 simp only [dad,Pt.mk.injEq]
 refine ⟨?_,?_⟩ <;> grind -lia
theorem At.one {A u a24:F} (h2:(2:F) ≠ 0) (hA:A = 4 * a24 + 2) (hu:u ≠ 0) {n:Nat} {p q:Pt} (h:At A u n p q):At A u (2 * n + 1) (stepP a24 u q p).2 (stepP a24 u q p).1:=by
 refine ⟨?_,?_⟩
 ·refine (step_dad h2 q p).trans ?_
  rw [dad_comm]
  exact (dad_sim _ h.1 h.2).trans (odd_sim hu n)
 ·rw [step_dbl hA,show 2 * n + 1 + 1 = 2 * (n + 1) by omega,mulP_twice];exact dbl_sim A h.2
end Kum
end Go.Proofs.YthmkhdnnljdglaaGreatDoor
namespace Go.Proofs.YthmkhdnnljdglaaGreatDoor
set_option maxRecDepth 100000
theorem E255_pos:0 < E255:=by decide
def finv (x:Nat):Nat:=x ^ E255 % P255
theorem zero_pow_mod (x e p:Nat) (hx:x = 0) (h:0 < e):x ^ e % p = 0:=by rw [hx,Nat.zero_pow h];exact Nat.zero_mod p
theorem finv_zero (x:Nat) (hx:x = 0):finv x = 0:=zero_pow_mod x E255 P255 hx E255_pos
theorem finv_mul (x:Nat) (h:x < P255) (h0:x ≠ 0):finv x * x % P255 = 1:=inv_mul x (by rw [Nat.mod_eq_of_lt h];exact h0)
end Go.Proofs.YthmkhdnnljdglaaGreatDoor
namespace Go.Proofs.YthmkhdnnljdglaaGreatDoor
set_option maxRecDepth 100000
open Kum
def phi (n:Nat):F:=Fin.ofNat _ n
theorem phi_val (n:Nat):(phi n).val = n % P255:=rfl
theorem phi_inj {n m:Nat} (hn:n < P255) (hm:m < P255) (h:phi n = phi m):n = m:=by
 have:=congrArg Fin.val h
 rw [phi_val,phi_val,Nat.mod_eq_of_lt hn,Nat.mod_eq_of_lt hm] at this
 exact this
theorem phi_mod (n:Nat):phi (n % P255) = phi n:=Fin.ext (by rw [phi_val,phi_val,Nat.mod_mod])
theorem phi_add (n m:Nat):phi ((n + m) % P255) = phi n + phi m:=by
 rw [phi_mod]
 exact Fin.ext (by rw [Fin.val_add];exact Nat.add_mod n m P255)
theorem phi_mul (n m:Nat):phi ((n * m) % P255) = phi n * phi m:=by
 rw [phi_mod]
 exact Fin.ext (by rw [Fin.val_mul];exact Nat.mul_mod n m P255)
theorem phi_sub (n m:Nat) (hm:m < P255):phi ((n + (P255 - m)) % P255) = phi n - phi m:=by
 have h:phi ((n + (P255 - m)) % P255) + phi m = phi n:=by
  rw [← phi_add]
  exact Fin.ext (by rw [phi_val,phi_val,Nat.mod_mod,Nat.add_mod,Nat.mod_mod,← Nat.add_mod,Nat.add_assoc,Nat.sub_add_cancel (Nat.le_of_lt hm),Nat.add_mod_right])
 rw [← h]
 grind -lia
theorem phi_zero {n:Nat} (hn:n < P255):phi n = 0 ↔ n = 0:=by
 refine ⟨fun h => phi_inj hn P255_pos h,fun h => by rw [h];rfl⟩
theorem phi_finv {n:Nat} (hn:n < P255) (h0:n ≠ 0):phi (finv n) * phi n = 1:=by
 rw [← phi_mul,finv_mul n hn h0]
 rfl
def IsX (p:Pt) (x:F):Prop:=(p.Z = 0 ∧ x = 0) ∨ (p.Z ≠ 0 ∧ x * p.Z = p.X)
theorem IsX.sim {p q:Pt} {x:F} (h:IsX p x) (g:p.sim q):IsX q x:=by
 rcases h with ⟨h1,h2⟩ | ⟨h1,h2⟩
 ·exact .inl ⟨g.z h1,h2⟩
 ·refine .inr ⟨fun e => h1 (g.symm.z e),?_⟩
  obtain ⟨s,t,hs,ht,g1,g2⟩:=g
  have e:t * (x * q.Z - q.X) = 0:=by
   have e1:t * (x * q.Z - q.X) = x * (t * q.Z) - t * q.X:=by grind -lia
   rw [e1,← g1,← g2,← h2]
   grind -lia
  exact sub_zero (zero_of ht e)
theorem IsX.ext {p:Pt} {x y:F} (h:IsX p x) (g:IsX p y):x = y:=by
 rcases h with ⟨h1,h2⟩ | ⟨h1,h2⟩
 ·rcases g with ⟨g1,g2⟩ | ⟨g1,g2⟩
  ·rw [h2,g2]
  ·exact absurd h1 g1
 ·rcases g with ⟨g1,g2⟩ | ⟨g1,g2⟩
  ·exact absurd g1 h1
  ·have e:p.Z * (x - y) = 0:=by
    have e1:p.Z * (x - y) = x * p.Z - y * p.Z:=by grind -lia
    rw [e1,h2,g2]
    grind -lia
   exact sub_zero (zero_of h1 e)
def cA:F:=486662
def c24:F:=121665
theorem cA_eq:cA = 4 * c24 + 2:=by decide
theorem cGood:Kum.Good cA:=⟨by decide,by decide,by decide⟩
def at1 (u:F):Pt:=⟨u,1⟩
theorem line {u:F} (hu:u ≠ 0):Line cA (at1 u):=⟨cGood,hu,oneDom⟩
def MultX (K:Nat) (u x:F):Prop:=(u = 0 ∧ x = 0) ∨ (u ≠ 0 ∧ IsX (mulP cA (at1 u) K) x)
theorem MultX.ext {K:Nat} {u x y:F} (h:MultX K u x) (g:MultX K u y):x = y:=by
 rcases h with ⟨h1,h2⟩ | ⟨h1,h2⟩
 ·rcases g with ⟨g1,g2⟩ | ⟨g1,g2⟩
  ·rw [h2,g2]
  ·exact absurd h1 g1
 ·rcases g with ⟨g1,g2⟩ | ⟨g1,g2⟩
  ·exact absurd g1 h1
  ·exact h2.ext g2
theorem MultX.mul {a b:Nat} {u x y:F} (hu:u ≠ 0) (ha:a % 2 = 0) (hb:MultX b u y) (h:MultX a y x):IsX (mulP cA (at1 u) (a * b)) x:=by
 have hL:=line hu
 rcases hb with ⟨e,_⟩ | ⟨_,hb⟩
 ·exact absurd e hu
 rcases hb with ⟨hz,hy⟩ | ⟨hz,hy⟩
 ·rcases h with ⟨_,hx⟩ | ⟨e,_⟩
  ·exact .inl ⟨none_mul hL b hz a,hx⟩
  ·exact absurd hy e
 ·rcases h with ⟨e,hx⟩ | ⟨hy0,hx⟩
  ·have hX:(mulP cA (at1 u) b).X = 0:=by rw [← hy,e];grind -lia
   refine .inl ⟨?_,hx⟩
   have h2:=none_mul hL (2 * b) (none_twice b hX) (a / 2)
   rw [← Nat.mul_assoc,show a / 2 * 2 = a by omega] at h2
   exact h2
  ·refine hx.sim (mul_mul hL (line hy0) b ⟨(mulP cA (at1 u) b).Z,1,hz,oneDom,?_,?_⟩ a)
   ·show (mulP cA (at1 u) b).Z * y = 1 * (mulP cA (at1 u) b).X
    rw [← hy]
    grind -lia
   ·show (mulP cA (at1 u) b).Z * 1 = 1 * (mulP cA (at1 u) b).Z
    grind -lia
theorem MultX.comm {a b:Nat} {u x x' y y':F} (ha:a % 2 = 0) (hb:b % 2 = 0) (h1:MultX b u y) (h2:MultX a y x) (g1:MultX a u y') (g2:MultX b y' x'):x = x':=by
 by_cases hu:u = 0
 ·have zero:∀ {K:Nat} {v z:F},v = 0 → MultX K v z → z = 0:=fun hv h => by
   rcases h with ⟨_,h⟩ | ⟨h,_⟩
   ·exact h
   ·exact absurd hv h
  rw [zero (zero hu h1) h2,zero (zero hu g1) g2]
 ·have e1:=MultX.mul hu ha h1 h2
  have e2:=MultX.mul hu hb g1 g2
  rw [Nat.mul_comm] at e2
  exact e1.ext e2
end Go.Proofs.YthmkhdnnljdglaaGreatDoor
namespace Go.Proofs.YthmkhdnnljdglaaGreatDoor
set_option maxRecDepth 100000
theorem pr_531581:Pr 531581:=prime_small (f:=729) (by decide) (by decide) (by decide +kernel)
theorem pr_1224481:Pr 1224481:=prime_small (f:=1106) (by decide) (by decide) (by decide +kernel)
theorem pe_51_0:∀ r,Pr r → r ∣ 1257559732178653 → 1224481 ∣ r - 1:=pock1 (a:=2) (f:=51) (y:=1252739704402215) pr_1224481 (by decide +kernel) (by decide +kernel) (by decide +kernel) (by decide +kernel) (by decide +kernel) (by decide +kernel)
theorem pe_51_1:∀ r,Pr r → r ∣ 1257559732178653 → 531581 ∣ r - 1:=pock1 (a:=2) (f:=51) (y:=1139842034583224) pr_531581 (by decide +kernel) (by decide +kernel) (by decide +kernel) (by decide +kernel) (by decide +kernel) (by decide +kernel)
theorem pr_1257559732178653:Pr 1257559732178653:=prime2 (by decide +kernel) pr_1224481 pr_531581 (by decide +kernel) (by decide +kernel) pe_51_0 pe_51_1
theorem pe_62_0:∀ r,Pr r → r ∣ 4434155615661930479 → 1257559732178653 ∣ r - 1:=pock1 (a:=2) (f:=62) (y:=415787812636281767) pr_1257559732178653 (by decide +kernel) (by decide +kernel) (by decide +kernel) (by decide +kernel) (by decide +kernel) (by decide +kernel)
theorem pr_4434155615661930479:Pr 4434155615661930479:=prime1 (by decide +kernel) (by decide +kernel) (by decide +kernel) pe_62_0
theorem pe_88_0:∀ r,Pr r → r ∣ 172054593956031949258510691 → 4434155615661930479 ∣ r - 1:=pock1 (a:=2) (f:=88) (y:=81982237619807054769897707) pr_4434155615661930479 (by decide +kernel) (by decide +kernel) (by decide +kernel) (by decide +kernel) (by decide +kernel) (by decide +kernel)
theorem pr_172054593956031949258510691:Pr 172054593956031949258510691:=prime1 (by decide +kernel) (by decide +kernel) (by decide +kernel) pe_88_0
theorem pe_134_0:∀ r,Pr r → r ∣ 19757330305831588566944191468367130476339 → 172054593956031949258510691 ∣ r - 1:=pock1 (a:=2) (f:=134) (y:=9148758478138211201771971577098600188172) pr_172054593956031949258510691 (by decide +kernel) (by decide +kernel) (by decide +kernel) (by decide +kernel) (by decide +kernel) (by decide +kernel)
theorem pr_19757330305831588566944191468367130476339:Pr 19757330305831588566944191468367130476339:=prime1 (by decide +kernel) (by decide +kernel) (by decide +kernel) pe_134_0
theorem pe_138_0:∀ r,Pr r → r ∣ 276602624281642239937218680557139826668747 → 19757330305831588566944191468367130476339 ∣ r - 1:=pock1 (a:=2) (f:=138) (y:=16384) pr_19757330305831588566944191468367130476339 (by decide +kernel) (by decide +kernel) (by decide +kernel) (by decide +kernel) (by decide +kernel) (by decide +kernel)
theorem pr_276602624281642239937218680557139826668747:Pr 276602624281642239937218680557139826668747:=prime1 (by decide +kernel) (by decide +kernel) (by decide +kernel) pe_138_0
theorem pe_253_0:∀ r,Pr r → r ∣ 7237005577332262213973186563042994240857116359379907606001950938285454250989 → 276602624281642239937218680557139826668747 ∣ r - 1:=pock1 (a:=2) (f:=253) (y:=2975531125133123119648879457563281269120703404158613135195788908093573672641) pr_276602624281642239937218680557139826668747 (by decide +kernel) (by decide +kernel) (by decide +kernel) (by decide +kernel) (by decide +kernel) (by decide +kernel)
theorem pr_ell:Pr 7237005577332262213973186563042994240857116359379907606001950938285454250989:=prime1 (by decide +kernel) (by decide +kernel) (by decide +kernel) pe_253_0
end Go.Proofs.YthmkhdnnljdglaaGreatDoor
