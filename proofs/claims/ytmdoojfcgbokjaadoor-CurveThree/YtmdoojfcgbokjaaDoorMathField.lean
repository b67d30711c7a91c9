/- Plain facts on numbers modulo 2^255 - 19. No program is named here. -/
import Derived.Test.YtmdoojfcgbokjaaDoorMathPoly
import Derived.Test.YtmdoojfcgbokjaaDoorMathPrime
namespace Go.Proofs.YtmdoojfcgbokjaaDoor
set_option linter.unusedVariables false

def P255 : Nat := 57896044618658097711785492504343953926634992332820282019728792003956564819949
theorem P255_eq : P255 = 2 ^ 255 - 19 := by decide
theorem P255_prime : Pr P255 := pr_p255
theorem P255_lt : P255 < 256 ^ 32 := by decide
theorem P255_pos : 0 < P255 := by decide
/-- The digits of P, the first i of them. -/
def pD (i : Nat) : List Nat := 237 :: List.replicate (i - 1) 255
def pDs : List Nat := pD 31 ++ [127]
theorem pDs_length : pDs.length = 32 := by decide
theorem pDs_val : valD pDs = P255 := by decide
theorem pDs_lt : ∀ x ∈ pDs, x < 256 := by decide
theorem pDs_at (i : Nat) : atD pDs i = P255 / 256 ^ i % 256 := by
  rw [← pDs_val]; exact (valD_at pDs pDs_lt i).symm
/-- P less two. -/
def E255 : Nat := P255 - 2
def eDs : List Nat := pDs.set 0 235
theorem eDs_val : valD eDs = E255 := by decide
theorem eDs_lt : ∀ x ∈ eDs, x < 256 := by decide
theorem eDs_at (i : Nat) : atD eDs i = E255 / 256 ^ i % 256 := by
  rw [← eDs_val]; exact (valD_at eDs eDs_lt i).symm
theorem E255_top : E255 / 2 ^ 255 = 0 := by decide
theorem dig_len32 (x : Nat) (h : x < P255) : (dig x).length ≤ 32 := dig_length_le x 32 (Nat.lt_trans h P255_lt)
theorem bit_split (E j : Nat) : E / 2 ^ j = 2 * (E / 2 ^ (j + 1)) + E / 2 ^ j % 2 := by
  rw [Nat.pow_succ, ← Nat.div_div_eq_div_mul]; omega
theorem bit_digit (E q s : Nat) (hs : s < 8) : E / 256 ^ q % 256 / 2 ^ s % 2 = E / 2 ^ (8 * q + s) % 2 := by
  have e : (2 : Nat) ^ (8 * q + s) = 256 ^ q * 2 ^ s := by rw [Nat.pow_add, Nat.pow_mul]
  rw [e, ← Nat.div_div_eq_div_mul]
  generalize E / 256 ^ q = y
  have : s = 0 ∨ s = 1 ∨ s = 2 ∨ s = 3 ∨ s = 4 ∨ s = 5 ∨ s = 6 ∨ s = 7 := by omega
  rcases this with rfl | rfl | rfl | rfl | rfl | rfl | rfl | rfl <;> simp <;> omega
theorem pow_step (x E j : Nat) (p : Nat) : x ^ (E / 2 ^ j) % p = (if E / 2 ^ j % 2 = 1 then (x ^ (E / 2 ^ (j + 1)) % p * (x ^ (E / 2 ^ (j + 1)) % p) % p) * x % p else x ^ (E / 2 ^ (j + 1)) % p * (x ^ (E / 2 ^ (j + 1)) % p) % p) := by
  have h := bit_split E j
  generalize E / 2 ^ (j + 1) = u at h ⊢
  generalize E / 2 ^ j = v at h ⊢
  by_cases h1 : v % 2 = 1
  · rw [if_pos h1]
    rw [h, h1, Nat.pow_succ, Nat.two_mul, Nat.pow_add, ← Nat.mul_mod, Nat.mod_mul_mod]
  · rw [if_neg h1]
    have h0 : v % 2 = 0 := by omega
    rw [h, h0, Nat.add_zero, Nat.two_mul, Nat.pow_add, ← Nat.mul_mod]
/-- One over: what its product is. -/
theorem inv_mul (x : Nat) (h : x % P255 ≠ 0) : x ^ E255 % P255 * x % P255 = 1 := by
  have hn : ¬ P255 ∣ x := fun hd => h (Nat.mod_eq_zero_of_dvd hd)
  have hf := fermat P255_prime hn
  have e : P255 - 1 = E255 + 1 := by decide
  rw [e, Nat.pow_succ] at hf
  rw [Nat.mod_mul_mod]
  exact hf
/-- Digits less digits: what was borrowed. -/
structure Neg (x i b : Nat) (o : List Nat) : Prop where
  len : o.length = i
  lt : ∀ d ∈ o, d < 256
  bl : b ≤ 1
  val : valD o + x % 256 ^ i = P255 % 256 ^ i + b * 256 ^ i
theorem Neg.zero (x : Nat) : Neg x 0 0 [] := ⟨rfl, by simp, by omega, by simp [valD]; omega⟩
theorem mod_succ (x i : Nat) : x % 256 ^ (i + 1) = x % 256 ^ i + 256 ^ i * (x / 256 ^ i % 256) := by
  rw [Nat.pow_succ, Nat.mod_mul]
theorem Neg.next {x i b : Nat} {o : List Nat} (h : Neg x i b o) (d b' : Nat) (hd : d < 256) (hb : b' ≤ 1) (he : d + x / 256 ^ i % 256 + b = P255 / 256 ^ i % 256 + 256 * b') : Neg x (i + 1) b' (o ++ [d]) := by
  refine ⟨by simp [h.len], ?_, hb, ?_⟩
  · intro y hy
    rcases List.mem_append.1 hy with h1 | h1
    · exact h.lt y h1
    · rw [List.mem_singleton.1 h1]; exact hd
  · rw [valD_snoc, h.len, mod_succ, mod_succ, Nat.pow_succ]
    have hv := h.val
    generalize x / 256 ^ i % 256 = u at he ⊢
    generalize P255 / 256 ^ i % 256 = q at he ⊢
    generalize x % 256 ^ i = r at hv ⊢
    generalize P255 % 256 ^ i = t at hv ⊢
    generalize 256 ^ i = A at hv ⊢
    have e1 : A * d + A * u + b * A = A * q + b' * (A * 256) := by
      have : A * (d + u + b) = A * (q + 256 * b') := by rw [he]
      rw [Nat.mul_add, Nat.mul_add, Nat.mul_add, Nat.mul_comm A b] at this
      rw [this, Nat.mul_left_comm A 256 b', Nat.mul_comm b' (A * 256), Nat.mul_comm A 256, Nat.mul_assoc]
    omega
theorem Neg.done {x b : Nat} {o : List Nat} (h : Neg x 32 b o) (hx : x ≤ P255) : valD o = P255 - x := by
  have hv := h.val
  have hlt := valD_lt o h.lt
  rw [h.len] at hlt
  have hP := P255_lt
  rw [Nat.mod_eq_of_lt (Nat.lt_of_le_of_lt hx hP), Nat.mod_eq_of_lt hP] at hv
  have hb := h.bl
  have : b = 0 ∨ b = 1 := by omega
  rcases this with rfl | rfl <;> omega
end Go.Proofs.YtmdoojfcgbokjaaDoor
