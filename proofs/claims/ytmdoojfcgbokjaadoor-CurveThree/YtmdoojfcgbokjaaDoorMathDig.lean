/- Plain facts on numbers as rows of digits to base 256, the lowest first. No program is named here. -/
import Derived.WalkKit
namespace Go.Proofs.YtmdoojfcgbokjaaDoor
set_option linter.unusedVariables false

/-- What a row of digits is as a number (the digits may be greater than they should be). -/
def valD : List Nat → Nat
  | [] => 0
  | c :: r => c + 256 * valD r
/-- The least row of digits of a number. -/
def dig (n : Nat) : List Nat := if h : n = 0 then [] else n % 256 :: dig (n / 256)
theorem dig_zero : dig 0 = [] := by unfold dig; simp
theorem dig_pos (n : Nat) (h : n ≠ 0) : dig n = n % 256 :: dig (n / 256) := by rw [dig]; simp [h]
theorem valD_dig : ∀ n, valD (dig n) = n := by
  intro n
  induction n using Nat.strongRecOn with
  | _ n ih =>
    by_cases h : n = 0
    · rw [h, dig_zero]; rfl
    · rw [dig_pos n h, valD, ih (n / 256) (by omega)]; omega
theorem dig_lt : ∀ n, ∀ x ∈ dig n, x < 256 := by
  intro n
  induction n using Nat.strongRecOn with
  | _ n ih =>
    intro x hx
    by_cases h : n = 0
    · rw [h, dig_zero] at hx; cases hx
    · rw [dig_pos n h] at hx
      rcases List.mem_cons.1 hx with rfl | hx
      · omega
      · exact ih (n / 256) (by omega) x hx
theorem valD_append : ∀ a b, valD (a ++ b) = valD a + 256 ^ a.length * valD b
  | [], b => by simp [valD]
  | c :: r, b => by simp only [List.cons_append, valD, valD_append r b, List.length_cons, Nat.pow_succ]; rw [Nat.mul_add, ← Nat.mul_assoc, Nat.mul_comm (256 ^ r.length) 256, Nat.add_assoc]
theorem valD_snoc (a : List Nat) (x : Nat) : valD (a ++ [x]) = valD a + 256 ^ a.length * x := by rw [valD_append]; simp [valD]
theorem valD_lt : ∀ l : List Nat, (∀ x ∈ l, x < 256) → valD l < 256 ^ l.length
  | [], _ => by simp [valD]
  | c :: r, h => by
    have h1 := h c (by simp)
    have h2 := valD_lt r (fun x hx => h x (by simp [hx]))
    simp only [valD, List.length_cons, Nat.pow_succ]
    omega
/-- A row without 0s behind is the least one. -/
theorem dig_valD : ∀ l : List Nat, (∀ x ∈ l, x < 256) → (∀ x, l.getLast? = some x → x ≠ 0) → dig (valD l) = l
  | [], _, _ => dig_zero
  | c :: r, h, hl => by
    have h1 := h c (by simp)
    have hr : ∀ x ∈ r, x < 256 := fun x hx => h x (by simp [hx])
    have ih : dig (valD r) = r := dig_valD r hr (fun x hx => hl x (by
      cases r with
      | nil => simp at hx
      | cons d s => simpa [List.getLast?_cons_cons] using hx))
    have hne : valD (c :: r) ≠ 0 := by
      intro h0
      simp only [valD] at h0
      have hc0 : c = 0 := by omega
      have hr0 : valD r = 0 := by omega
      rw [hr0, dig_zero] at ih
      subst ih
      exact hl c (by simp) hc0
    rw [dig_pos _ hne]
    simp only [valD]
    rw [show (c + 256 * valD r) % 256 = c by omega, show (c + 256 * valD r) / 256 = valD r by omega, ih]
theorem dig_length_le (n k : Nat) (h : n < 256 ^ k) : (dig n).length ≤ k := by
  induction k generalizing n with
  | zero =>
    have : n = 0 := by simpa using h
    rw [this, dig_zero]; simp
  | succ k ih =>
    by_cases h0 : n = 0
    · rw [h0, dig_zero]; simp
    · rw [dig_pos n h0, List.length_cons]
      have := ih (n / 256) (by rw [Nat.pow_succ] at h; omega)
      omega
theorem dig_nil (n : Nat) : dig n = [] ↔ n = 0 := by
  constructor
  · intro h
    have := valD_dig n
    rw [h] at this
    exact this.symm
  · intro h; rw [h, dig_zero]
theorem dig_length_zero (n : Nat) : (dig n).length = 0 ↔ n = 0 := by rw [List.length_eq_zero_iff, dig_nil]
/-- The digit at a place (0 where there is none). -/
def atD (l : List Nat) (i : Nat) : Nat := l.getD i 0
theorem atD_get (l : List Nat) (i : Nat) (h : i < l.length) : atD l i = l[i] := by simp [atD, h]
theorem atD_out (l : List Nat) (i : Nat) (h : l.length ≤ i) : atD l i = 0 := by simp [atD, List.getElem?_eq_none h]
theorem atD_mem (l : List Nat) (i : Nat) (h : i < l.length) : atD l i ∈ l := by rw [atD_get l i h]; exact List.getElem_mem h
theorem atD_lt (l : List Nat) (hl : ∀ x ∈ l, x < 256) (i : Nat) : atD l i < 256 := by
  rcases Nat.lt_or_ge i l.length with h | h
  · exact hl _ (atD_mem l i h)
  · rw [atD_out l i h]; omega
theorem valD_at : ∀ (l : List Nat), (∀ x ∈ l, x < 256) → ∀ i, valD l / 256 ^ i % 256 = atD l i
  | [], _, i => by simp [valD, atD]
  | c :: r, h, 0 => by
    have h1 := h c (by simp)
    simp only [valD, Nat.pow_zero, Nat.div_one]
    simp [atD]; omega
  | c :: r, h, i + 1 => by
    have h1 := h c (by simp)
    have ih := valD_at r (fun x hx => h x (by simp [hx])) i
    rw [Nat.pow_succ, Nat.mul_comm, ← Nat.div_div_eq_div_mul]
    simp only [valD]
    rw [show (c + 256 * valD r) / 256 = valD r by omega, ih]
    simp [atD]
theorem dig_at (n i : Nat) : atD (dig n) i = n / 256 ^ i % 256 := by
  have := valD_at (dig n) (dig_lt n) i
  rw [valD_dig] at this
  exact this.symm
theorem take_snoc (l : List Nat) (k : Nat) (h : k < l.length) : l.take (k + 1) = l.take k ++ [atD l k] := by
  rw [List.take_succ_eq_append_getElem h, atD_get l k h]
theorem valD_take_succ (l : List Nat) (k : Nat) (h : k < l.length) : valD (l.take (k + 1)) = valD (l.take k) + 256 ^ k * atD l k := by
  rw [take_snoc l k h, valD_snoc, List.length_take, Nat.min_eq_left (by omega)]
/-- A 0 at the end does not count. -/
theorem valD_trim (l : List Nat) (k : Nat) (h : k < l.length) (h0 : atD l k = 0) : valD (l.take (k + 1)) = valD (l.take k) := by
  rw [valD_take_succ l k h, h0]; simp
/-- More at one place. -/
theorem valD_set : ∀ (l : List Nat) (i x : Nat), i < l.length → valD (l.set i (atD l i + x)) = valD l + 256 ^ i * x
  | [], i, x, h => by simp at h
  | c :: r, 0, x, h => by simp [valD, atD]; omega
  | c :: r, i + 1, x, h => by
    have ih := valD_set r i x (by simpa using h)
    have e : atD (c :: r) (i + 1) = atD r i := by simp [atD]
    rw [e]
    simp only [List.set_cons_succ, valD, ih]
    rw [Nat.mul_add, Nat.pow_succ, ← Nat.mul_assoc, Nat.mul_comm 256 (256 ^ i), Nat.add_assoc]
theorem atD_set_same (l : List Nat) (i x : Nat) (h : i < l.length) : atD (l.set i x) i = x := by simp [atD, h]
theorem atD_set_other (l : List Nat) (i j x : Nat) (h : i ≠ j) : atD (l.set i x) j = atD l j := by simp [atD, List.getElem?_set_ne h]
theorem valD_replicate (n : Nat) : valD (List.replicate n 0) = 0 := by
  induction n with
  | zero => rfl
  | succ n ih => rw [List.replicate_succ, valD, ih]
theorem atD_replicate (n i : Nat) : atD (List.replicate n 0) i = 0 := by
  rcases Nat.lt_or_ge i n with h | h
  · simp [atD, h]
  · rw [atD_out _ _ (by simpa using h)]
/-- The first m digits of a number. -/
def firstD (y m : Nat) : List Nat := (List.range m).map fun j => y / 256 ^ j % 256
theorem firstD_length (y m : Nat) : (firstD y m).length = m := by simp [firstD]
theorem firstD_succ (y m : Nat) : firstD y (m + 1) = firstD y m ++ [y / 256 ^ m % 256] := by simp [firstD, List.range_succ]
theorem firstD_lt (y m : Nat) : ∀ x ∈ firstD y m, x < 256 := by
  intro x hx
  simp only [firstD, List.mem_map] at hx
  obtain ⟨j, _, rfl⟩ := hx
  omega
theorem valD_firstD (y : Nat) : ∀ m, valD (firstD y m) = y % 256 ^ m
  | 0 => by simp [firstD, valD, Nat.mod_one]
  | m + 1 => by
    rw [firstD_succ, valD_snoc, firstD_length, valD_firstD y m, Nat.pow_succ]
    exact (Nat.mod_mul).symm
theorem valD_firstD_all (y m : Nat) (h : y < 256 ^ m) : valD (firstD y m) = y := by rw [valD_firstD, Nat.mod_eq_of_lt h]
theorem lt_pow_length (n : Nat) : n < 256 ^ (dig n).length := by
  have := valD_lt (dig n) (dig_lt n)
  rwa [valD_dig] at this
theorem dig_eq_firstD (n : Nat) : dig n = firstD n (dig n).length := by
  apply List.ext_getElem
  · rw [firstD_length]
  · intro i h1 h2
    rw [← atD_get _ _ h1, dig_at]
    simp [firstD]

/-! What is below 2 to a power, and above. -/
theorem two_pow_split (q b : Nat) : 2 ^ (8 * q + b) = 256 ^ q * 2 ^ b := by rw [Nat.pow_add, Nat.pow_mul]
/-- A digit below the place of the cut. -/
theorem low_digit (x q b j : Nat) (h : j < q) : x % 2 ^ (8 * q + b) / 256 ^ j % 256 = x / 256 ^ j % 256 := by
  obtain ⟨d, hd⟩ : ∃ d, 8 * q + b = 8 * j + (8 + d) := ⟨8 * q + b - 8 * j - 8, by omega⟩
  rw [hd, two_pow_split, Nat.mod_mul_right_div_self, Nat.pow_add]
  exact Nat.mod_mul_right_mod _ _ _
/-- The digit at the cut. -/
theorem cut_digit (x q b : Nat) (hb : b < 8) : x % 2 ^ (8 * q + b) / 256 ^ q % 256 = x / 256 ^ q % 256 % 2 ^ b := by
  rw [two_pow_split, Nat.mod_mul_right_div_self]
  have h1 : x / 256 ^ q % 2 ^ b < 256 := by
    have := Nat.mod_lt (x / 256 ^ q) (Nat.two_pow_pos b)
    have h2 : 2 ^ b ≤ 2 ^ 8 := Nat.pow_le_pow_right (by decide) (by omega)
    omega
  rw [Nat.mod_eq_of_lt h1]
  have h3 : (256 : Nat) = 2 ^ b * 2 ^ (8 - b) := by rw [← Nat.pow_add, show b + (8 - b) = 8 by omega]
  rw [h3, Nat.mod_mul_right_mod]
theorem shift_digit (y b : Nat) (hb : b < 8) : y / 2 ^ b % 256 = y % 256 / 2 ^ b + (y / 256 % 256 * 2 ^ (8 - b)) % 256 := by
  obtain rfl | rfl | rfl | rfl | rfl | rfl | rfl | rfl : b = 0 ∨ b = 1 ∨ b = 2 ∨ b = 3 ∨ b = 4 ∨ b = 5 ∨ b = 6 ∨ b = 7 := by omega
  all_goals simp only [Nat.reducePow, Nat.reduceSub]; omega
/-- A digit above the cut. -/
theorem high_digit (x q b j : Nat) (hb : b < 8) : x / 2 ^ (8 * q + b) / 256 ^ j % 256 = x / 256 ^ (q + j) % 256 / 2 ^ b + (x / 256 ^ (q + j + 1) % 256 * 2 ^ (8 - b)) % 256 := by
  have e : x / 2 ^ (8 * q + b) / 256 ^ j = x / 256 ^ (q + j) / 2 ^ b := by
    rw [Nat.div_div_eq_div_mul, Nat.div_div_eq_div_mul, two_pow_split, Nat.pow_add]
    congr 1
    rw [Nat.mul_assoc, Nat.mul_comm (2 ^ b), ← Nat.mul_assoc]
  rw [e, shift_digit _ _ hb, Nat.pow_succ, Nat.div_div_eq_div_mul]
end Go.Proofs.YtmdoojfcgbokjaaDoor
