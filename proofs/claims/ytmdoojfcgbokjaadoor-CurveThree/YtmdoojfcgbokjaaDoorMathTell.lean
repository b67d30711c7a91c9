/- Plain facts on bytes as five digits to base 2^26, and on two words of 64 bits. No program is named here. -/
import Derived.Test.YtmdoojfcgbokjaaDoorMathLimb
namespace Go.Proofs.YtmdoojfcgbokjaaDoor
set_option linter.unusedVariables false
open Go.RowKit

theorem leN_take (l : List UInt8) (n : Nat) : leN (l.take n) = leN l % 256 ^ n := by
  rcases Nat.lt_or_ge n l.length with h | h
  · have e := leN_append (l.take n) (l.drop n)
    rw [List.take_append_drop] at e
    have hl : (l.take n).length = n := by simp; omega
    have hb := leN_lt (l.take n)
    rw [hl] at e hb
    rw [e, Nat.add_mul_mod_self_left, Nat.mod_eq_of_lt hb]
  · rw [List.take_of_length_le h, Nat.mod_eq_of_lt (Nat.lt_of_lt_of_le (leN_lt l) (Nat.pow_le_pow_right (by decide) h))]
theorem leN_drop (l : List UInt8) (n : Nat) : leN (l.drop n) = leN l / 256 ^ n := by
  rcases Nat.lt_or_ge n l.length with h | h
  · have e := leN_append (l.take n) (l.drop n)
    rw [List.take_append_drop] at e
    have hl : (l.take n).length = n := by simp; omega
    have hb := leN_lt (l.take n)
    rw [hl] at e hb
    rw [e, Nat.add_mul_div_left _ _ (Nat.pow_pos (by decide)), Nat.div_eq_of_lt hb, Nat.zero_add]
  · rw [List.drop_eq_nil_of_le h, Nat.div_eq_of_lt (Nat.lt_of_lt_of_le (leN_lt l) (Nat.pow_le_pow_right (by decide) h))]
    rfl
theorem leN_cut (l : List UInt8) (a n : Nat) : leN (cutB l a n) = leN l / 256 ^ a % 256 ^ n := by
  rw [cutB, leN_take, leN_drop]
theorem getV_cut (l : List UInt8) (a n : Nat) : getV l false a n = leN l / 256 ^ a % 256 ^ n := by
  show leN (cutB l a n) = _
  exact leN_cut l a n
theorem limb_cut (l : List UInt8) (k : Nat) (h : k < 5) : getV l false (26 * k / 8) 4 / 2 ^ (26 * k % 8) % 67108864 = leN l / 67108864 ^ k % 67108864 := by
  rw [getV_cut]
  generalize leN l = N
  have hk : k = 0 ∨ k = 1 ∨ k = 2 ∨ k = 3 ∨ k = 4 := by omega
  rcases hk with rfl | rfl | rfl | rfl | rfl <;> simp <;> omega
/-- The first k digits of a number, and 0s behind them. -/
def tellTo (N : Nat) : Nat → List Nat
  | 0 => [0, 0, 0, 0, 0]
  | k + 1 => (tellTo N k).set k (N / 67108864 ^ k % 67108864)
theorem tellTo_length (N : Nat) : ∀ k, (tellTo N k).length = 5
  | 0 => rfl
  | k + 1 => by rw [tellTo, List.length_set, tellTo_length N k]
theorem tellTo_all (N : Nat) : tellTo N 5 = limbs N := by
  simp [tellTo, limbs, List.range_succ]
/-- A part with a 1 behind it, and 0s: as a number. -/
theorem leN_zeros (n : Nat) : leN (List.replicate n 0) = 0 := by
  induction n with
  | zero => rfl
  | succ n ih => rw [List.replicate_succ, leN, ih]; rfl
theorem leN_closed (l : List UInt8) (n : Nat) : leN (l ++ List.replicate n 0) = leN l := by rw [leN_append, leN_zeros]; simp
theorem partN_small (l : List UInt8) (k : Nat) : partN l k < 2 ^ 130 := by
  have hlen : (cutB l (16 * k) 16).length ≤ 16 := by simp [cutB]; omega
  have h := leN_lt (cutB l (16 * k) 16)
  have h2 : 256 ^ (cutB l (16 * k) 16).length ≤ 256 ^ 16 := Nat.pow_le_pow_right (by decide) hlen
  unfold partN
  rw [leN_append]
  have h3 : leN [1] = 1 := rfl
  rw [h3]
  have h4 : (256 : Nat) ^ 16 = 340282366920938463463374607431768211456 := by decide
  omega
theorem polyR_small (key : List UInt8) : polyR key < 2 ^ 130 := Nat.lt_trans (polyR_lt key) (by decide)

/-- The lowest 128 bits of a number of five digits, modulo 2^130 - 5. -/
def leastN (l : List Nat) : Nat := valL l % P1305
theorem least_five (a b c d e : Nat) (ha : a < 67108864) (hb : b < 67108864) (hc : c < 67108864) (hd : d < 67108864) (he : e < 67108864) :
    a + b * 67108864 + c % 4096 * 4503599627370496 = valL [a, b, c, d, e] % 18446744073709551616 ∧
    c / 4096 + d * 16384 + e % 16777216 * 1099511627776 = valL [a, b, c, d, e] / 18446744073709551616 % 18446744073709551616 ∧
    e / 16777216 = valL [a, b, c, d, e] / 340282366920938463463374607431768211456 := by
  simp only [valL]
  refine ⟨?_, ?_, ?_⟩ <;> omega
theorem tag_words (V S : Nat) (hV : V < 2 ^ 130) : ∃ W, W = V % P1305 ∧
    (V + 5 < 2 ^ 130 → W % 18446744073709551616 = V % 18446744073709551616 ∧ W / 18446744073709551616 % 18446744073709551616 = V / 18446744073709551616 % 18446744073709551616) ∧
    (2 ^ 130 ≤ V + 5 → W % 18446744073709551616 = (V + 5) % 18446744073709551616 ∧ W / 18446744073709551616 % 18446744073709551616 = (V + 5) / 18446744073709551616 % 18446744073709551616) := by
  refine ⟨_, rfl, ?_, ?_⟩
  · intro h
    have e : V % P1305 = V := Nat.mod_eq_of_lt (by unfold P1305; omega)
    rw [e]
    exact ⟨rfl, rfl⟩
  · intro h
    have e : V % P1305 = V + 5 - 2 ^ 130 := by
      have : V = P1305 + (V + 5 - 2 ^ 130) := by unfold P1305; omega
      rw [this, Nat.add_mod_left, Nat.mod_eq_of_lt (by unfold P1305; omega)]
      omega
    rw [e]
    omega
end Go.Proofs.YtmdoojfcgbokjaaDoor
