/- Plain facts on primes: Euclid's lemma, Fermat's theorem, Pocklington's test; 2^255 - 19 is one. No program is named here. -/
namespace Go.Proofs.YtmdoojfcgbokjaaDoor
set_option linter.unusedVariables false

def Pr (p : Nat) : Prop := 2 ≤ p ∧ ∀ d, d ∣ p → d = 1 ∨ d = p
theorem Pr.coprime {p a : Nat} (h : Pr p) (ha : ¬ p ∣ a) : Nat.Coprime p a := by
  rcases h.2 _ (Nat.gcd_dvd_left p a) with h1 | h1
  · exact h1
  · exact absurd (h1 ▸ Nat.gcd_dvd_right p a) ha
theorem Pr.euclid {p a b : Nat} (h : Pr p) (hd : p ∣ a * b) : p ∣ a ∨ p ∣ b := by
  by_cases ha : p ∣ a
  · exact .inl ha
  · exact .inr ((h.coprime ha).dvd_of_dvd_mul_left hd)
/-- Each number from 2 on has a prime that divides it. -/
theorem has_prime : ∀ n, 2 ≤ n → ∃ p, Pr p ∧ p ∣ n := by
  intro n
  induction n using Nat.strongRecOn with
  | _ n ih =>
    intro hn
    by_cases h : Pr n
    · exact ⟨n, h, Nat.dvd_refl n⟩
    · have h2 : ∃ d, d ∣ n ∧ d ≠ 1 ∧ d ≠ n := by
        apply Classical.byContradiction
        intro hc
        apply h
        refine ⟨hn, fun d hd => ?_⟩
        apply Classical.byContradiction
        intro hx
        exact hc ⟨d, hd, fun e => hx (.inl e), fun e => hx (.inr e)⟩
      obtain ⟨d, hd, h1, h2⟩ := h2
      have hle := Nat.le_of_dvd (by omega) hd
      have h0 : d ≠ 0 := fun e => by rw [e] at hd; have := Nat.eq_zero_of_zero_dvd hd; omega
      obtain ⟨p, hp, hpd⟩ := ih d (by omega) (by omega)
      exact ⟨p, hp, Nat.dvd_trans hpd hd⟩

/-! Rows without doubles. -/
theorem perm_of_nodup : ∀ (l m : List Nat), l.Nodup → (∀ x ∈ l, x ∈ m) → m.length ≤ l.length → l.Perm m
  | [], m, _, _, h => by
    have : m = [] := List.eq_nil_of_length_eq_zero (by simpa using h)
    rw [this]
  | x :: l, m, hn, hs, h => by
    have hx : x ∈ m := hs x (by simp)
    have hn' := List.nodup_cons.1 hn
    have hp := List.perm_cons_erase hx
    have ih := perm_of_nodup l (m.erase x) hn'.2 (fun y hy => by
      have hne : y ≠ x := fun e => hn'.1 (e ▸ hy)
      exact (List.mem_erase_of_ne hne).2 (hs y (by simp [hy]))) (by
      have := List.length_erase_of_mem hx
      simp at h
      omega)
    exact (ih.cons x).trans hp.symm
def prodL : List Nat → Nat
  | [] => 1
  | x :: r => x * prodL r
theorem prodL_perm {l m : List Nat} (h : l.Perm m) : prodL l = prodL m := by
  induction h with
  | nil => rfl
  | cons x _ ih => rw [prodL, prodL, ih]
  | swap x y l => rw [prodL, prodL, prodL, prodL, Nat.mul_left_comm]
  | trans _ _ h1 h2 => rw [h1, h2]
theorem prodL_coprime {p : Nat} (h : Pr p) : ∀ l : List Nat, (∀ x ∈ l, ¬ p ∣ x) → ¬ p ∣ prodL l
  | [], _ => fun hd => by
    have := Nat.le_of_dvd (by decide) hd
    have := h.1
    simp [prodL] at *
    omega
  | x :: l, hl => fun hd => by
    rcases h.euclid hd with h1 | h1
    · exact hl x (by simp) h1
    · exact prodL_coprime h l (fun y hy => hl y (by simp [hy])) h1
theorem prodL_map_mod (p a : Nat) : ∀ l : List Nat, prodL (l.map fun x => a * x % p) % p = a ^ l.length * prodL l % p
  | [] => by simp [prodL]
  | x :: l => by
    have ih := prodL_map_mod p a l
    rw [List.map_cons, prodL, prodL, Nat.mul_mod, ih, Nat.mod_mod, ← Nat.mul_mod, List.length_cons, Nat.pow_succ]
    congr 1
    rw [Nat.mul_assoc, Nat.mul_assoc, Nat.mul_left_comm x, Nat.mul_left_comm a]
theorem dvd_sub_of_mod {p u v : Nat} (h : u % p = v % p) (hle : u ≤ v) : p ∣ v - u := by
  refine ⟨v / p - u / p, ?_⟩
  rw [Nat.mul_sub]
  have h1 := Nat.div_add_mod v p
  have h2 := Nat.div_add_mod u p
  omega
theorem fermat {p a : Nat} (h : Pr p) (ha : ¬ p ∣ a) : a ^ (p - 1) % p = 1 := by
  have hp := h.1
  let L := List.range' 1 (p - 1)
  have hL : ∀ x, x ∈ L ↔ 1 ≤ x ∧ x < p := by
    intro x
    simp only [L, List.mem_range'_1]
    omega
  have hLl : L.length = p - 1 := by simp [L]
  have hLn : ∀ x ∈ L, ¬ p ∣ x := fun x hx hd => by
    have := (hL x).1 hx
    have := Nat.le_of_dvd (by omega) hd
    omega
  have hnd : (L.map fun x => a * x % p).Nodup := by
    have hinj : ∀ l : List Nat, (∀ x ∈ l, 1 ≤ x ∧ x < p) → l.Nodup → (l.map fun x => a * x % p).Nodup := by
      intro l
      induction l with
      | nil => intro _ _; simp
      | cons x l ih =>
        intro hb hn
        have hn' := List.nodup_cons.1 hn
        rw [List.map_cons, List.nodup_cons]
        refine ⟨?_, ih (fun y hy => hb y (by simp [hy])) hn'.2⟩
        intro hm
        obtain ⟨y, hy, he⟩ := List.mem_map.1 hm
        have hx := hb x (by simp)
        have hy' := hb y (by simp [hy])
        have hne : x ≠ y := fun e => hn'.1 (e ▸ hy)
        have key : ∀ u v, u < v → v < p → a * u % p = a * v % p → False := by
          intro u v huv hv he
          have hd : p ∣ a * (v - u) := by
            have h1 : a * (v - u) = a * v - a * u := Nat.mul_sub a v u
            rw [h1]
            exact dvd_sub_of_mod he (Nat.mul_le_mul_left a (by omega))
          rcases h.euclid hd with h1 | h1
          · exact ha h1
          · have := Nat.le_of_dvd (by omega) h1
            omega
        rcases Nat.lt_or_gt_of_ne hne with h1 | h1
        · exact key x y h1 hy'.2 he.symm
        · exact key y x h1 hx.2 he
    exact hinj L (fun x hx => (hL x).1 hx) List.nodup_range'
  have hsub : ∀ x ∈ L.map (fun x => a * x % p), x ∈ L := by
    intro x hx
    obtain ⟨y, hy, rfl⟩ := List.mem_map.1 hx
    refine (hL _).2 ⟨?_, Nat.mod_lt _ (by omega)⟩
    apply Nat.pos_of_ne_zero
    intro h0
    rcases h.euclid (Nat.dvd_of_mod_eq_zero h0) with h1 | h1
    · exact ha h1
    · exact hLn y hy h1
  have hperm := perm_of_nodup _ L hnd hsub (by simp)
  have he := prodL_map_mod p a L
  rw [prodL_perm hperm, hLl] at he
  -- p divides (a^(p-1) - 1) * prod
  have hpos : 1 ≤ a ^ (p - 1) := Nat.pos_of_ne_zero (fun h0 => ha (by
    have : a = 0 := by
      apply Classical.byContradiction
      intro hne
      exact absurd h0 (Nat.pos_iff_ne_zero.1 (Nat.pow_pos (Nat.pos_of_ne_zero hne)))
    rw [this]; exact Nat.dvd_zero p))
  have hd : p ∣ (a ^ (p - 1) - 1) * prodL L := by
    rw [Nat.sub_mul, Nat.one_mul]
    have hle : prodL L ≤ a ^ (p - 1) * prodL L := Nat.le_mul_of_pos_left _ hpos
    exact dvd_sub_of_mod he hle
  rcases h.euclid hd with h1 | h1
  · obtain ⟨c, hc⟩ := h1
    have e : a ^ (p - 1) = 1 + p * c := by omega
    rw [e, Nat.add_mul_mod_self_left, Nat.mod_eq_of_lt (by omega)]
  · exact absurd h1 (prodL_coprime h L hLn)

/-! Pocklington's test. -/
theorem pow_gcd {r x : Nat} (hr : 1 < r) : ∀ m n, x ^ m % r = 1 → x ^ n % r = 1 → x ^ (Nat.gcd m n) % r = 1 := by
  intro m n
  induction m, n using Nat.gcd.induction with
  | H0 n => intro _ h; rw [Nat.gcd_zero_left]; exact h
  | H1 m n hm ih =>
    intro h1 h2
    rw [Nat.gcd_rec]
    refine ih ?_ h1
    have e : x ^ n = (x ^ m) ^ (n / m) * x ^ (n % m) := by rw [← Nat.pow_mul, ← Nat.pow_add, Nat.div_add_mod]
    rw [e, Nat.mul_mod, Nat.pow_mod, h1, Nat.one_pow, Nat.mod_eq_of_lt hr, Nat.one_mul, Nat.mod_mod] at h2
    exact h2
/-- A power, modulo n, bit by bit. -/
def powm (n : Nat) : Nat → Nat → Nat → Nat → Nat
  | 0, _, _, acc => acc
  | f + 1, b, e, acc => powm n f (b * b % n) (e / 2) (match e % 2 with | 0 => acc | _ => acc * b % n)
theorem powm_val (n : Nat) : ∀ f b e acc, e < 2 ^ f → powm n f b e acc % n = acc * b ^ e % n
  | 0, b, e, acc, h => by
    have : e = 0 := by simpa using h
    rw [this]; simp [powm]
  | f + 1, b, e, acc, h => by
    have hp : 2 ^ (f + 1) = 2 * 2 ^ f := by rw [Nat.pow_succ, Nat.mul_comm]
    have hs : (b * b % n) ^ (e / 2) % n = (b ^ (2 * (e / 2))) % n := by rw [← Nat.pow_mod, Nat.pow_mul, Nat.pow_two]
    rw [powm, powm_val n f _ _ _ (by omega)]
    rcases Nat.mod_two_eq_zero_or_one e with h0 | h0
    · rw [h0]
      have e1 : 2 * (e / 2) = e := by omega
      rw [e1] at hs
      rw [Nat.mul_mod, hs, ← Nat.mul_mod]
      rfl
    · rw [h0]
      have e1 : b ^ e = b * b ^ (2 * (e / 2)) := by
        rw [Nat.mul_comm, ← Nat.pow_succ]; congr 1; omega
      show acc * b % n * (b * b % n) ^ (e / 2) % n = _
      rw [Nat.mul_mod, Nat.mod_mod, hs, ← Nat.mul_mod, e1, Nat.mul_assoc]
theorem one_of_dvd {N r y : Nat} (hr : r ∣ N) (h1 : 1 < r) (hy : y % N = 1) : y % r = 1 := by
  obtain ⟨c, hc⟩ := hr
  have e : y = N * (y / N) + 1 := by have := Nat.div_add_mod y N; omega
  rw [e, hc, Nat.mul_assoc, Nat.mul_add_mod, Nat.mod_eq_of_lt h1]
theorem pock_dvd {N q a y : Nat} (hq : Pr q) (hqN : (N - 1) / q * q = N - 1) (h1 : a ^ (N - 1) % N = 1) (h2 : a ^ ((N - 1) / q) % N = y) (h3 : Nat.gcd (y + N - 1) N = 1) (hN : 1 < N) :
    ∀ r, Pr r → r ∣ N → q ∣ r - 1 := by
  intro r hr hrN
  have hr1 : 1 < r := hr.1
  obtain ⟨x, hx⟩ : ∃ x, a ^ ((N - 1) / q) = x := ⟨_, rfl⟩
  have hxq : x ^ q % r = 1 := by
    rw [← hx, ← Nat.pow_mul, hqN]
    exact one_of_dvd hrN hr1 h1
  rw [hx] at h2
  have hne : ¬ x % r = 1 := by
    intro h
    have hxy : x % r = y % r := by
      obtain ⟨c, hc⟩ := hrN
      have e : x = N * (x / N) + y := by have := Nat.div_add_mod x N; omega
      rw [e, hc, Nat.mul_assoc, Nat.mul_add_mod]
    have hd : r ∣ y + N - 1 := by
      obtain ⟨c, hc⟩ := hrN
      have hy1 : y % r = 1 := by rw [← hxy]; exact h
      have e := Nat.div_add_mod y r
      rw [hy1] at e
      refine ⟨y / r + c, ?_⟩
      rw [Nat.mul_add, ← hc]
      omega
    have := Nat.dvd_gcd hd hrN
    rw [h3] at this
    have := Nat.le_of_dvd (by decide) this
    omega
  have hndx : ¬ r ∣ x := by
    intro hd
    have h0 : x ^ q % r = 0 := by
      rw [Nat.pow_mod, Nat.mod_eq_zero_of_dvd hd, Nat.zero_pow (by have := hq.1; omega)]
      simp
    omega
  have hf := fermat hr hndx
  apply Classical.byContradiction
  intro hc
  have hg : Nat.gcd q (r - 1) = 1 := hq.coprime hc
  have := pow_gcd hr1 q (r - 1) hxq hf
  rw [hg, Nat.pow_one] at this
  exact hne this
theorem prime_of_big {N : Nat} (hN : 1 < N) (h : ∀ r, Pr r → r ∣ N → N < r * r) : Pr N := by
  refine ⟨hN, fun d hd => ?_⟩
  apply Classical.byContradiction
  intro hc
  have h1 : d ≠ 1 := fun e => hc (.inl e)
  have h2 : d ≠ N := fun e => hc (.inr e)
  obtain ⟨c, hdc⟩ := hd
  have hd0 : d ≠ 0 := fun e => by rw [e, Nat.zero_mul] at hdc; omega
  have hc0 : c ≠ 0 := fun e => by rw [e, Nat.mul_zero] at hdc; omega
  have hc1 : c ≠ 1 := fun e => by rw [e, Nat.mul_one] at hdc; omega
  have key : ∀ u v, u * v = N → 2 ≤ u → u ≤ v → False := by
    intro u v huv hu huv2
    obtain ⟨p, hp, hpu⟩ := has_prime u hu
    have := h p hp (Nat.dvd_trans hpu ⟨v, huv.symm⟩)
    have hpu' := Nat.le_of_dvd (by omega) hpu
    have := Nat.mul_le_mul hpu' (Nat.le_trans hpu' huv2)
    omega
  rcases Nat.le_total d c with hle | hle
  · exact key d c hdc.symm (by omega) hle
  · exact key c d (by rw [Nat.mul_comm]; exact hdc.symm) (by omega) hle
theorem pock1 {N q a y f : Nat} (hq : Pr q) (hqN : (N - 1) / q * q = N - 1) (hf : N < 2 ^ f) (h1 : powm N f a (N - 1) 1 % N = 1) (h2 : powm N f a ((N - 1) / q) 1 % N = y) (h3 : Nat.gcd (y + N - 1) N = 1) (hN : 1 < N) : ∀ r, Pr r → r ∣ N → q ∣ r - 1 := by
  have hle : (N - 1) / q ≤ N - 1 := Nat.div_le_self _ _
  rw [powm_val N f a _ 1 (by omega), Nat.one_mul] at h1 h2
  exact pock_dvd hq hqN h1 h2 h3 hN
theorem prime1 {N q : Nat} (hN : 1 < N) (hq : 1 < q) (hb : N < q * q) (h : ∀ r, Pr r → r ∣ N → q ∣ r - 1) : Pr N := by
  refine prime_of_big hN fun r hr hd => ?_
  have h1 := hr.1
  have h2 := Nat.le_of_dvd (by omega) (h r hr hd)
  have := Nat.mul_le_mul (show q ≤ r by omega) (show q ≤ r by omega)
  omega
theorem prime2 {N q s : Nat} (hN : 1 < N) (hq : Pr q) (hs : Pr s) (hne : q ≠ s) (hb : N < (q * s) * (q * s)) (h : ∀ r, Pr r → r ∣ N → q ∣ r - 1) (h' : ∀ r, Pr r → r ∣ N → s ∣ r - 1) : Pr N := by
  refine prime_of_big hN fun r hr hd => ?_
  have h1 := hr.1
  have hco : Nat.Coprime q s := hq.coprime fun hqs => by
    rcases hs.2 q hqs with e | e
    · have := hq.1; omega
    · exact hne e
  have h2 := Nat.le_of_dvd (by omega) (hco.mul_dvd_of_dvd_of_dvd (h r hr hd) (h' r hr hd))
  have := Nat.mul_le_mul (show q * s ≤ r by omega) (show q * s ≤ r by omega)
  omega
/-- Small ones, by division. -/
def noDiv (p : Nat) : Nat → Nat → Bool
  | 0, _ => true
  | f + 1, d => (match p % d with | 0 => false | _ => true) && noDiv p f (d + 1)
theorem noDiv_spec (p : Nat) : ∀ f d, noDiv p f d = true → ∀ e, d ≤ e → e < d + f → ¬ e ∣ p
  | 0, d, _, e, h1, h2 => by omega
  | f + 1, d, h, e, h1, h2 => by
    rw [noDiv, Bool.and_eq_true] at h
    by_cases he : e = d
    · subst he
      intro hd
      rw [Nat.mod_eq_zero_of_dvd hd] at h
      exact absurd h.1 (by simp)
    · exact noDiv_spec p f (d + 1) h.2 e (by omega) (by omega)
theorem prime_small {p f : Nat} (hp : 1 < p) (hf : p < (f + 2) * (f + 2)) (h : noDiv p f 2 = true) : Pr p := by
  refine prime_of_big hp fun r hr hd => ?_
  have h1 := hr.1
  apply Classical.byContradiction
  intro hc
  have hlt : r < f + 2 := by
    apply Classical.byContradiction
    intro hx
    have := Nat.mul_le_mul (show f + 2 ≤ r by omega) (show f + 2 ≤ r by omega)
    omega
  exact noDiv_spec p f 2 h r h1 (by omega) hd
set_option maxRecDepth 100000 in
theorem pr_127 : Pr 127 := prime_small (f := 12) (by decide) (by decide) (by decide +kernel)
set_option maxRecDepth 100000 in
theorem pr_4153 : Pr 4153 := prime_small (f := 65) (by decide) (by decide) (by decide +kernel)
set_option maxRecDepth 100000 in
theorem pr_430751 : Pr 430751 := prime_small (f := 657) (by decide) (by decide) (by decide +kernel)
set_option maxRecDepth 100000 in
theorem pr_569003 : Pr 569003 := prime_small (f := 755) (by decide) (by decide) (by decide +kernel)
set_option maxRecDepth 100000 in
theorem pr_8574133 : Pr 8574133 := prime_small (f := 2929) (by decide) (by decide) (by decide +kernel)
theorem pk_32_0 : ∀ r, Pr r → r ∣ 2773320623 → 569003 ∣ r - 1 := pock1 (a := 2) (f := 32) (y := 2039232613) pr_569003 (by decide +kernel) (by decide +kernel) (by decide +kernel) (by decide +kernel) (by decide +kernel) (by decide +kernel)
theorem pr_2773320623 : Pr 2773320623 := prime1 (by decide +kernel) (by decide +kernel) (by decide +kernel) pk_32_0
theorem pk_37_0 : ∀ r, Pr r → r ∣ 72106336199 → 2773320623 ∣ r - 1 := pock1 (a := 2) (f := 37) (y := 67108864) pr_2773320623 (by decide +kernel) (by decide +kernel) (by decide +kernel) (by decide +kernel) (by decide +kernel) (by decide +kernel)
theorem pr_72106336199 : Pr 72106336199 := prime1 (by decide +kernel) (by decide +kernel) (by decide +kernel) pk_37_0
theorem pk_51_0 : ∀ r, Pr r → r ∣ 1919519569386763 → 8574133 ∣ r - 1 := pock1 (a := 2) (f := 51) (y := 1059928654987441) pr_8574133 (by decide +kernel) (by decide +kernel) (by decide +kernel) (by decide +kernel) (by decide +kernel) (by decide +kernel)
theorem pk_51_1 : ∀ r, Pr r → r ∣ 1919519569386763 → 127 ∣ r - 1 := pock1 (a := 2) (f := 51) (y := 576774792492622) pr_127 (by decide +kernel) (by decide +kernel) (by decide +kernel) (by decide +kernel) (by decide +kernel) (by decide +kernel)
theorem pr_1919519569386763 : Pr 1919519569386763 := prime2 (by decide +kernel) pr_8574133 pr_127 (by decide +kernel) (by decide +kernel) pk_51_0 pk_51_1
theorem pk_55_0 : ∀ r, Pr r → r ∣ 31757755568855353 → 430751 ∣ r - 1 := pock1 (a := 2) (f := 55) (y := 15280470251845350) pr_430751 (by decide +kernel) (by decide +kernel) (by decide +kernel) (by decide +kernel) (by decide +kernel) (by decide +kernel)
theorem pk_55_1 : ∀ r, Pr r → r ∣ 31757755568855353 → 4153 ∣ r - 1 := pock1 (a := 2) (f := 55) (y := 28256283979054930) pr_4153 (by decide +kernel) (by decide +kernel) (by decide +kernel) (by decide +kernel) (by decide +kernel) (by decide +kernel)
theorem pr_31757755568855353 : Pr 31757755568855353 := prime2 (by decide +kernel) pr_430751 pr_4153 (by decide +kernel) (by decide +kernel) pk_55_0 pk_55_1
theorem pk_116_0 : ∀ r, Pr r → r ∣ 75445702479781427272750846543864801 → 1919519569386763 ∣ r - 1 := pock1 (a := 2) (f := 116) (y := 56747016255153332959347766392083459) pr_1919519569386763 (by decide +kernel) (by decide +kernel) (by decide +kernel) (by decide +kernel) (by decide +kernel) (by decide +kernel)
theorem pk_116_1 : ∀ r, Pr r → r ∣ 75445702479781427272750846543864801 → 72106336199 ∣ r - 1 := pock1 (a := 2) (f := 116) (y := 71619851993489548214160924360205394) pr_72106336199 (by decide +kernel) (by decide +kernel) (by decide +kernel) (by decide +kernel) (by decide +kernel) (by decide +kernel)
theorem pr_75445702479781427272750846543864801 : Pr 75445702479781427272750846543864801 := prime2 (by decide +kernel) pr_1919519569386763 pr_72106336199 (by decide +kernel) (by decide +kernel) pk_116_0 pk_116_1
theorem pk_236_0 : ∀ r, Pr r → r ∣ 74058212732561358302231226437062788676166966415465897661863160754340907 → 75445702479781427272750846543864801 ∣ r - 1 := pock1 (a := 2) (f := 236) (y := 69490809710348678725736597923071784769591275419387514694139338586948360) pr_75445702479781427272750846543864801 (by decide +kernel) (by decide +kernel) (by decide +kernel) (by decide +kernel) (by decide +kernel) (by decide +kernel)
theorem pk_236_1 : ∀ r, Pr r → r ∣ 74058212732561358302231226437062788676166966415465897661863160754340907 → 31757755568855353 ∣ r - 1 := pock1 (a := 2) (f := 236) (y := 50366660687963342066214195241331738400016478712605795091965648721912165) pr_31757755568855353 (by decide +kernel) (by decide +kernel) (by decide +kernel) (by decide +kernel) (by decide +kernel) (by decide +kernel)
theorem pr_74058212732561358302231226437062788676166966415465897661863160754340907 : Pr 74058212732561358302231226437062788676166966415465897661863160754340907 := prime2 (by decide +kernel) pr_75445702479781427272750846543864801 pr_31757755568855353 (by decide +kernel) (by decide +kernel) pk_236_0 pk_236_1
theorem pk_255_0 : ∀ r, Pr r → r ∣ 57896044618658097711785492504343953926634992332820282019728792003956564819949 → 74058212732561358302231226437062788676166966415465897661863160754340907 ∣ r - 1 := pock1 (a := 2) (f := 255) (y := 427094198651976259540344842774561673889945192655078505504941250475370961481) pr_74058212732561358302231226437062788676166966415465897661863160754340907 (by decide +kernel) (by decide +kernel) (by decide +kernel) (by decide +kernel) (by decide +kernel) (by decide +kernel)
theorem pr_p255 : Pr 57896044618658097711785492504343953926634992332820282019728792003956564819949 := prime1 (by decide +kernel) (by decide +kernel) (by decide +kernel) pk_255_0

end Go.Proofs.YtmdoojfcgbokjaaDoor
