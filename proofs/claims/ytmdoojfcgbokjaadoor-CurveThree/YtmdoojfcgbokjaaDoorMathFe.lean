/- Numbers modulo P, as classes of whole numbers. No program is named here. -/
import Derived.Test.YtmdoojfcgbokjaaDoorMathField
namespace Go.Proofs.YtmdoojfcgbokjaaDoor

/-- n is the least one of z's class. -/
def FC (n : Nat) (z : Int) : Prop := n < P255 ∧ ∃ k : Int, (n : Int) = z + k * (P255 : Int)
theorem FC.self {n : Nat} (h : n < P255) : FC n (n : Int) := ⟨h, 0, by omega⟩
theorem FC.lt {n : Nat} {z : Int} (h : FC n z) : n < P255 := h.1
theorem FC.cast {n : Nat} {z y : Int} (h : FC n z) (e : z = y) : FC n y := by rw [← e]; exact h
theorem FC.mod {n : Nat} {z : Int} {k : Int} (h : (n : Int) = z + k * (P255 : Int)) : FC (n % P255) z := by
  refine ⟨Nat.mod_lt _ P255_pos, k - ((n / P255 : Nat) : Int), ?_⟩
  have h1 : ((n % P255 : Nat) : Int) = (n : Int) - ((n / P255 : Nat) : Int) * (P255 : Int) := by
    have h2 := Nat.div_add_mod n P255
    have h3 : ((P255 * (n / P255) + n % P255 : Nat) : Int) = (n : Int) := by rw [h2]
    rw [Int.natCast_add, Int.natCast_mul] at h3
    grind
  rw [h1, h]
  grind
theorem FC.add {n m : Nat} {z y : Int} (h : FC n z) (g : FC m y) : FC ((n + m) % P255) (z + y) := by
  obtain ⟨_, k, hk⟩ := h
  obtain ⟨_, j, hj⟩ := g
  exact FC.mod (k := k + j) (by rw [Int.natCast_add, hk, hj]; grind)
theorem FC.mul {n m : Nat} {z y : Int} (h : FC n z) (g : FC m y) : FC ((n * m) % P255) (z * y) := by
  obtain ⟨_, k, hk⟩ := h
  obtain ⟨_, j, hj⟩ := g
  exact FC.mod (k := k * y + z * j + k * j * (P255 : Int)) (by rw [Int.natCast_mul, hk, hj]; grind)
theorem FC.sub {n m : Nat} {z y : Int} (h : FC n z) (g : FC m y) : FC ((n + (P255 - m)) % P255) (z - y) := by
  obtain ⟨_, k, hk⟩ := h
  obtain ⟨hm, j, hj⟩ := g
  have e : ((P255 - m : Nat) : Int) = (P255 : Int) - (m : Int) := by omega
  exact FC.mod (k := k - j + 1) (by rw [Int.natCast_add, e, hk, hj]; grind)
theorem FC.ext {n m : Nat} {z : Int} (h : FC n z) (g : FC m z) : n = m := by
  obtain ⟨hn, k, hk⟩ := h
  obtain ⟨hm, j, hj⟩ := g
  have e : (n : Int) - (m : Int) = (k - j) * (P255 : Int) := by rw [hk, hj]; grind
  have hp : (P255 : Int) = 57896044618658097711785492504343953926634992332820282019728792003956564819949 := rfl
  have h1 : n < 57896044618658097711785492504343953926634992332820282019728792003956564819949 := hn
  have h2 : m < 57896044618658097711785492504343953926634992332820282019728792003956564819949 := hm
  rw [hp] at e
  generalize k - j = t at e
  omega
theorem FC.eq {n m : Nat} {z y : Int} (h : FC n z) (g : FC m y) (e : z = y) : n = m := FC.ext h (g.cast e.symm)
theorem E255_pos : 0 < E255 := by decide
/-- One over it: of 0 it is 0. -/
def finv (x : Nat) : Nat := x ^ E255 % P255
theorem finv_lt (x : Nat) : finv x < P255 := Nat.mod_lt _ P255_pos
theorem zero_pow_mod (x e p : Nat) (hx : x = 0) (h : 0 < e) : x ^ e % p = 0 := by rw [hx, Nat.zero_pow h]; exact Nat.zero_mod p
theorem finv_zero (x : Nat) (hx : x = 0) : finv x = 0 := zero_pow_mod x E255 P255 hx E255_pos
theorem finv_mul (x : Nat) (h : x < P255) (h0 : x ≠ 0) : finv x * x % P255 = 1 := inv_mul x (by rw [Nat.mod_eq_of_lt h]; exact h0)
/-- A product with one over it may be taken away. -/
theorem finv_cancel (x y z : Nat) (hx : x < P255) (h0 : x ≠ 0) (hy : y < P255) (hz : z < P255) (h : x * y % P255 = x * z % P255) : y = z := by
  have e : ∀ t, t < P255 → finv x * (x * t % P255) % P255 = t := fun t ht => by
    rw [Nat.mul_mod, Nat.mod_mod, ← Nat.mul_mod, ← Nat.mul_assoc, Nat.mul_mod, finv_mul x hx h0, Nat.one_mul, Nat.mod_mod, Nat.mod_eq_of_lt ht]
  rw [← e y hy, ← e z hz, h]
theorem finv_mul_both (x y : Nat) : finv (x * y % P255) = finv x * finv y % P255 := by
  unfold finv
  rw [← Nat.pow_mod, Nat.mul_pow, Nat.mul_mod]
theorem finv_ne (x : Nat) (h : x < P255) (h0 : x ≠ 0) : finv x ≠ 0 := fun e => by
  have := finv_mul x h h0
  rw [e, Nat.zero_mul] at this
  cases this
theorem finv_finv (x : Nat) (h : x < P255) : finv (finv x) = x := by
  by_cases h0 : x = 0
  · rw [finv_zero (finv x) (finv_zero x h0), h0]
  · refine finv_cancel (finv x) _ x (finv_lt x) (finv_ne x h h0) (finv_lt _) h ?_
    rw [finv_mul x h h0, Nat.mul_comm, finv_mul (finv x) (finv_lt x) (finv_ne x h h0)]
theorem over_eq {x y p i a b q : Nat} (hp : FC p ((x : Int) * (y : Int))) (hx : x < P255) (hy : y < P255) (hi : finv p = i) (ha : finv x = a) (hb : finv y = b) (hq : FC q ((a : Int) * (b : Int))) : i = q := by
  have e1 : p = x * y % P255 := FC.ext hp ((FC.self hx).mul (FC.self hy))
  have e2 : q = a * b % P255 := FC.ext hq ((FC.self (by rw [← ha]; exact finv_lt x)).mul (FC.self (by rw [← hb]; exact finv_lt y)))
  rw [e2, ← ha, ← hb, ← finv_mul_both, ← e1, hi]
theorem over_back {x a b : Nat} (ha : finv x = a) (hb : finv a = b) (hx : x < P255) : b = x := by
  rw [← hb, ← ha, finv_finv x hx]
theorem shown_inv {x i n : Nat} (hx : x < P255) (h0 : x ≠ 0) (hi : finv x = i) (hn : FC n ((x : Int) * (i : Int))) : n = 1 := by
  have h1 : i < P255 := by rw [← hi]; exact finv_lt x
  have e1 : n = x * i % P255 := FC.ext hn ((FC.self hx).mul (FC.self h1))
  rw [e1, ← hi, Nat.mul_comm, finv_mul x hx h0]
/-- The bytes of P. -/
def pK : List UInt8 := 237 :: (List.replicate 30 255 ++ [127])
theorem pK_val : leN pK % 2 ^ 255 % P255 = 0 := by decide +kernel
end Go.Proofs.YtmdoojfcgbokjaaDoor
