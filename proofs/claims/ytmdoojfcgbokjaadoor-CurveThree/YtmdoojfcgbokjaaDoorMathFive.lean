/- Numbers as five digits to base 2^51, reckoned modulo 2^255 - 19. No program is named here. -/
import Derived.Test.YtmdoojfcgbokjaaDoorMathFe
import Derived.Test.YtmdoojfcgbokjaaDoorMathTell
namespace Go.Proofs.YtmdoojfcgbokjaaDoor
set_option linter.unusedVariables false
open Go.RowKit

/-- What a row of digits to base 2^51 is as a number. -/
def valF : List Nat → Nat
  | [] => 0
  | c :: r => c + 2251799813685248 * valF r
theorem P255_num : P255 = 57896044618658097711785492504343953926634992332820282019728792003956564819949 := rfl
/-- The first k digits with what is over from the one before, and what is over then. -/
def plTo (l : List Nat) (n : Nat) : Nat → List Nat × Nat
  | 0 => (l, n)
  | k + 1 => ((plTo l n k).1.set k ((atD (plTo l n k).1 k + (plTo l n k).2) % 2251799813685248), (atD (plTo l n k).1 k + (plTo l n k).2) / 2251799813685248)
theorem plTo_length (l : List Nat) (n : Nat) : ∀ k, (plTo l n k).1.length = l.length
  | 0 => rfl
  | k + 1 => by rw [plTo, List.length_set, plTo_length l n k]
theorem plTo_at (l : List Nat) (n : Nat) : ∀ k j, k ≤ j → atD (plTo l n k).1 j = atD l j
  | 0, j, _ => rfl
  | k + 1, j, h => by rw [plTo, atD_set_other _ _ _ _ (by omega), plTo_at l n k j (by omega)]
theorem plTo_over (l : List Nat) (n : Nat) (h : ∀ x ∈ l, x < 9223372036854775808) (hn : n < 4611686018427387904) : ∀ k, (plTo l n k).2 < 4611686018427387904
  | 0 => hn
  | k + 1 => by
    have h1 := plTo_over l n h hn k
    have h2 : atD (plTo l n k).1 k < 9223372036854775808 := by rw [plTo_at l n k k (Nat.le_refl _)]; exact atD_bound l _ (by omega) h k
    rw [plTo]; simp only; omega
theorem plTo_five (a b c d e n : Nat) : ∃ o0 o1 o2 o3 o4 : Nat, o0 = (a + n) / 2251799813685248 ∧ o1 = (b + o0) / 2251799813685248 ∧ o2 = (c + o1) / 2251799813685248 ∧ o3 = (d + o2) / 2251799813685248 ∧ o4 = (e + o3) / 2251799813685248 ∧
    plTo [a, b, c, d, e] n 5 = ([(a + n) % 2251799813685248, (b + o0) % 2251799813685248, (c + o1) % 2251799813685248, (d + o2) % 2251799813685248, (e + o3) % 2251799813685248], o4) := by
  refine ⟨_, _, _, _, _, rfl, rfl, rfl, rfl, rfl, ?_⟩
  simp [plTo, atD]
/-- Digits that are an element's. -/
def IsE (l : List Nat) : Prop := ∃ a b c d e, l = [a, b, c, d, e] ∧ a < 2251799813685286 ∧ b < 2251799813685248 ∧ c < 2251799813685248 ∧ d < 2251799813685248 ∧ e < 2251799813685248
theorem IsE.len {l : List Nat} (h : IsE l) : l.length = 5 := by
  obtain ⟨a, b, c, d, e, rfl, _⟩ := h
  rfl
theorem IsE.lt {l : List Nat} (h : IsE l) : ∀ x ∈ l, x < 2251799813685286 := by
  obtain ⟨a, b, c, d, e, rfl, h0, h1, h2, h3, h4⟩ := h
  simp
  omega
theorem IsE.small {l : List Nat} (h : IsE l) : ∀ x ∈ l, x < 9223372036854775808 := fun x hx => Nat.lt_trans (h.lt x hx) (by decide)
/-- What is above 2^255 goes round. -/
def carF (l : List Nat) : List Nat := (plTo l 0 5).1.set 0 (atD (plTo l 0 5).1 0 + 19 * (plTo l 0 5).2)
theorem carF_length (l : List Nat) : (carF l).length = l.length := by rw [carF, List.length_set, plTo_length]
theorem carF_val (l : List Nat) (h : l.length = 5) : valF (carF l) % P255 = valF l % P255 := by
  obtain ⟨a, b, c, d, e, rfl⟩ := five l h
  obtain ⟨o0, o1, o2, o3, o4, h0, h1, h2, h3, h4, he⟩ := plTo_five a b c d e 0
  have e1 : valF (carF [a, b, c, d, e]) + P255 * o4 = valF [a, b, c, d, e] := by
    rw [carF, he]
    simp only [List.set_cons_zero, atD, valF, P255_num, List.getD_cons_zero]
    omega
  rw [← e1, Nat.add_mul_mod_self_left]
/-- It is an element's, where no digit is more than 2^63 and no other than the first is over 3 times its bits. -/
theorem carF_isE (a b c d e : Nat) (ha : a < 9223372036854775808) (hb : b < 6755399441055742) (hc : c < 6755399441055742) (hd : d < 6755399441055742) (he : e < 6755399441055742)
    (h : a < 6755399441055744 ∨ (b < 2251799813685248 ∧ c < 2251799813685248 ∧ d < 2251799813685248 ∧ e < 2251799813685248)) : IsE (carF [a, b, c, d, e]) := by
  obtain ⟨o0, o1, o2, o3, o4, h0, h1, h2, h3, h4, hp⟩ := plTo_five a b c d e 0
  have h4' : o4 ≤ 2 := by omega
  refine ⟨(a + 0) % 2251799813685248 + 19 * o4, _, _, _, _, by rw [carF, hp]; rfl, ?_, Nat.mod_lt _ (by decide), Nat.mod_lt _ (by decide), Nat.mod_lt _ (by decide), Nat.mod_lt _ (by decide)⟩
  have := Nat.mod_lt (a + 0) (show 0 < 2251799813685248 by decide)
  omega
/-- An element's, gone round once more: each digit is within its bits. -/
theorem carF_in (l : List Nat) (h : IsE l) : ∀ x ∈ carF l, x < 2251799813685248 := by
  obtain ⟨a, b, c, d, e, rfl, ha, hb, hc, hd, he⟩ := h
  obtain ⟨o0, o1, o2, o3, o4, h0, h1, h2, h3, h4, hp⟩ := plTo_five a b c d e 0
  have hr : carF [a, b, c, d, e] = [(a + 0) % 2251799813685248 + 19 * o4, (b + o0) % 2251799813685248, (c + o1) % 2251799813685248, (d + o2) % 2251799813685248, (e + o3) % 2251799813685248] := by rw [carF, hp]; rfl
  rw [hr]
  have q0 : o0 ≤ 1 := by omega
  have q1 : o1 ≤ 1 := by omega
  have q2 : o2 ≤ 1 := by omega
  have q3 : o3 ≤ 1 := by omega
  have q4 : o4 ≤ 1 := by omega
  have m0 : (a + 0) % 2251799813685248 + 19 * o4 < 2251799813685248 := by omega
  simp
  omega
/-- The least number, as digits. -/
def lesF (l : List Nat) : List Nat := if 0 < (plTo (carF l) 19 5).2 then (plTo (carF l) 19 5).1 else carF l
theorem lesF_val (l : List Nat) (h : IsE l) : valF (lesF l) = valF l % P255 ∧ (lesF l).length = 5 ∧ ∀ x ∈ lesF l, x < 2251799813685248 := by
  have hl : (carF l).length = 5 := by rw [carF_length, h.len]
  have hi := carF_in l h
  rw [← carF_val l h.len]
  unfold lesF
  obtain ⟨a, b, c, d, e, hm⟩ := five (carF l) hl
  rw [hm] at hi ⊢
  simp at hi
  obtain ⟨ia, ib, ic, id_, ie⟩ := hi
  obtain ⟨o0, o1, o2, o3, o4, h0, h1, h2, h3, h4, hp⟩ := plTo_five a b c d e 19
  rw [hp]
  by_cases ho : 0 < o4
  · rw [if_pos ho]
    refine ⟨?_, rfl, by simp; omega⟩
    have q4 : o4 = 1 := by omega
    have e1 : valF [a, b, c, d, e] = valF [(a + 19) % 2251799813685248, (b + o0) % 2251799813685248, (c + o1) % 2251799813685248, (d + o2) % 2251799813685248, (e + o3) % 2251799813685248] + P255 := by
      simp only [valF, P255_num]
      omega
    have e2 : valF [(a + 19) % 2251799813685248, (b + o0) % 2251799813685248, (c + o1) % 2251799813685248, (d + o2) % 2251799813685248, (e + o3) % 2251799813685248] < P255 := by
      have : valF [a, b, c, d, e] < P255 + P255 := by simp only [valF, P255_num]; omega
      omega
    rw [e1, Nat.add_mod_right, Nat.mod_eq_of_lt e2]
  · rw [if_neg ho]
    refine ⟨?_, rfl, by simp; omega⟩
    rw [Nat.mod_eq_of_lt]
    simp only [valF, P255_num]
    omega
/-- Digit by digit, what is taken away with what keeps it from going below 0. -/
def twP : List Nat := [4503599627370458, 4503599627370494, 4503599627370494, 4503599627370494, 4503599627370494]
def subTo (a b : List Nat) : Nat → List Nat
  | 0 => a
  | k + 1 => (subTo a b k).set k (atD (subTo a b k) k + (atD twP k - atD b k))
theorem subTo_length (a b : List Nat) : ∀ k, (subTo a b k).length = a.length
  | 0 => rfl
  | k + 1 => by rw [subTo, List.length_set, subTo_length a b k]
theorem subTo_at (a b : List Nat) : ∀ k j, k ≤ j → atD (subTo a b k) j = atD a j
  | 0, j, _ => rfl
  | k + 1, j, h => by rw [subTo, atD_set_other _ _ _ _ (by omega), subTo_at a b k j (by omega)]
theorem subTo_five (a b c d e a' b' c' d' e' : Nat) : subTo [a, b, c, d, e] [a', b', c', d', e'] 5 = [a + (4503599627370458 - a'), b + (4503599627370494 - b'), c + (4503599627370494 - c'), d + (4503599627370494 - d'), e + (4503599627370494 - e')] := by
  simp [subTo, atD, twP]
theorem twP_lt (k : Nat) : atD twP k < 4503599627370496 := atD_bound twP _ (by decide) (by decide) k
theorem twP_ge (l : List Nat) (h : IsE l) (k : Nat) (hk : k < 5) : atD l k ≤ atD twP k := by
  obtain ⟨a, b, c, d, e, rfl, ha, hb, hc, hd, he⟩ := h
  have : k = 0 ∨ k = 1 ∨ k = 2 ∨ k = 3 ∨ k = 4 := by omega
  rcases this with rfl | rfl | rfl | rfl | rfl <;> simp [atD, twP] <;> omega
theorem sub_isE (l m : List Nat) (hl : IsE l) (hm : IsE m) : IsE (carF (subTo l m 5)) := by
  obtain ⟨a, b, c, d, e, rfl, ha, hb, hc, hd, he⟩ := hl
  obtain ⟨a', b', c', d', e', rfl, ha', hb', hc', hd', he'⟩ := hm
  rw [subTo_five]
  exact carF_isE _ _ _ _ _ (by omega) (by omega) (by omega) (by omega) (by omega) (.inl (by omega))
theorem sub_val (l m : List Nat) (hl : IsE l) (hm : IsE m) : valF (subTo l m 5) % P255 = (valF l % P255 + (P255 - valF m % P255)) % P255 := by
  obtain ⟨a, b, c, d, e, rfl, ha, hb, hc, hd, he⟩ := hl
  obtain ⟨a', b', c', d', e', rfl, ha', hb', hc', hd', he'⟩ := hm
  rw [subTo_five]
  have e1 : valF [a + (4503599627370458 - a'), b + (4503599627370494 - b'), c + (4503599627370494 - c'), d + (4503599627370494 - d'), e + (4503599627370494 - e')] + valF [a', b', c', d', e'] = valF [a, b, c, d, e] + P255 + P255 := by
    simp only [valF, P255_num]
    omega
  generalize valF [a + (4503599627370458 - a'), b + (4503599627370494 - b'), c + (4503599627370494 - c'), d + (4503599627370494 - d'), e + (4503599627370494 - e')] = V at e1 ⊢
  generalize valF [a, b, c, d, e] = X at e1 ⊢
  generalize valF [a', b', c', d', e'] = Y at e1 ⊢
  rw [P255_num] at e1 ⊢
  omega
theorem add_isE (l m : List Nat) (hl : IsE l) (hm : IsE m) : IsE (carF (addTo l m 5)) := by
  obtain ⟨a, b, c, d, e, rfl, ha, hb, hc, hd, he⟩ := hl
  obtain ⟨a', b', c', d', e', rfl, ha', hb', hc', hd', he'⟩ := hm
  show IsE (carF [a + a', b + b', c + c', d + d', e + e'])
  exact carF_isE _ _ _ _ _ (by omega) (by omega) (by omega) (by omega) (by omega) (.inl (by omega))
theorem add_val (l m : List Nat) (hl : IsE l) (hm : IsE m) : valF (addTo l m 5) % P255 = (valF l % P255 + valF m % P255) % P255 := by
  obtain ⟨a, b, c, d, e, rfl, ha, hb, hc, hd, he⟩ := hl
  obtain ⟨a', b', c', d', e', rfl, ha', hb', hc', hd', he'⟩ := hm
  have e1 : valF (addTo [a, b, c, d, e] [a', b', c', d', e'] 5) = valF [a, b, c, d, e] + valF [a', b', c', d', e'] := by
    show valF [a + a', b + b', c + c', d + d', e + e'] = _
    simp only [valF]
    omega
  rw [e1, Nat.add_mod]

/-- One product of digit k: those above 2^255 count 19 times. -/
def prT (x y : List Nat) (k i : Nat) : Nat := if k < i then 19 * atD x i * atD y (k + 5 - i) else atD x i * atD y (k - i)
/-- The first i products of digit k, with what was over. -/
def rowT (x y : List Nat) (k c : Nat) : Nat → Nat
  | 0 => c
  | i + 1 => rowT x y k c i + prT x y k i
def mulF (x y : List Nat) : Nat → List Nat × Nat
  | 0 => ([0, 0, 0, 0, 0], 0)
  | k + 1 => ((mulF x y k).1.set k (rowT x y k (mulF x y k).2 5 % 2251799813685248), rowT x y k (mulF x y k).2 5 / 2251799813685248)
theorem mulF_length (x y : List Nat) : ∀ k, (mulF x y k).1.length = 5
  | 0 => rfl
  | k + 1 => by rw [mulF, List.length_set, mulF_length x y k]
theorem prod_lt (a b A B : Nat) (ha : a ≤ A) (hb : b ≤ B) : a * b ≤ A * B := Nat.mul_le_mul ha hb
theorem prT_lt (x y : List Nat) (hx : IsE x) (hy : IsE y) (k i : Nat) : prT x y k i < 96341445617348601000000000000000 := by
  have h1 : ∀ j, atD x j ≤ 2251799813685285 := fun j => Nat.le_of_lt_succ (atD_bound x _ (by decide) hx.lt j)
  have h2 : ∀ j, atD y j ≤ 2251799813685285 := fun j => Nat.le_of_lt_succ (atD_bound y _ (by decide) hy.lt j)
  unfold prT
  split
  · have := prod_lt _ _ _ _ (h1 i) (h2 (k + 5 - i))
    rw [Nat.mul_assoc]
    omega
  · have := prod_lt _ _ _ _ (h1 i) (h2 (k - i))
    omega
theorem rowT_lt (x y : List Nat) (hx : IsE x) (hy : IsE y) (k c : Nat) : ∀ i, rowT x y k c i ≤ c + i * 96341445617348601000000000000000
  | 0 => by simp [rowT]
  | i + 1 => by
    have h1 := rowT_lt x y hx hy k c i
    have h2 := prT_lt x y hx hy k i
    rw [rowT]
    omega
theorem mulF_over (x y : List Nat) (hx : IsE x) (hy : IsE y) : ∀ k, (mulF x y k).2 < 288230376151711744
  | 0 => by simp [mulF]
  | k + 1 => by
    have h1 := mulF_over x y hx hy k
    have h2 := rowT_lt x y hx hy k (mulF x y k).2 5
    rw [mulF]; simp only; omega
/-- All products of a digit, with what was over, are below 2^109. -/
theorem rowT_small (x y : List Nat) (hx : IsE x) (hy : IsE y) (k i : Nat) (hi : i ≤ 5) : rowT x y k (mulF x y k).2 i < 649037107316853453566312041152512 := by
  have h1 := mulF_over x y hx hy k
  have h2 := rowT_lt x y hx hy k (mulF x y k).2 i
  have h3 : i * 96341445617348601000000000000000 ≤ 5 * 96341445617348601000000000000000 := Nat.mul_le_mul_right _ hi
  omega
/-- The product: what the last digit leaves goes round. -/
def endF (x y : List Nat) : List Nat := (mulF x y 5).1.set 0 (atD (mulF x y 5).1 0 + 19 * (mulF x y 5).2)
theorem rowT_five (a b c d e a' b' c' d' e' z : Nat) :
    rowT [a, b, c, d, e] [a', b', c', d', e'] 0 z 5 = z + a * a' + 19 * b * e' + 19 * c * d' + 19 * d * c' + 19 * e * b' ∧
    rowT [a, b, c, d, e] [a', b', c', d', e'] 1 z 5 = z + a * b' + b * a' + 19 * c * e' + 19 * d * d' + 19 * e * c' ∧
    rowT [a, b, c, d, e] [a', b', c', d', e'] 2 z 5 = z + a * c' + b * b' + c * a' + 19 * d * e' + 19 * e * d' ∧
    rowT [a, b, c, d, e] [a', b', c', d', e'] 3 z 5 = z + a * d' + b * c' + c * b' + d * a' + 19 * e * e' ∧
    rowT [a, b, c, d, e] [a', b', c', d', e'] 4 z 5 = z + a * e' + b * d' + c * c' + d * b' + e * a' := by
  refine ⟨?_, ?_, ?_, ?_, ?_⟩ <;> simp [rowT, prT, atD]
theorem mulF_five (x y : List Nat) : ∃ t0 t1 t2 t3 t4 : Nat, t0 = rowT x y 0 0 5 ∧ t1 = rowT x y 1 (t0 / 2251799813685248) 5 ∧ t2 = rowT x y 2 (t1 / 2251799813685248) 5 ∧ t3 = rowT x y 3 (t2 / 2251799813685248) 5 ∧ t4 = rowT x y 4 (t3 / 2251799813685248) 5 ∧
    mulF x y 5 = ([t0 % 2251799813685248, t1 % 2251799813685248, t2 % 2251799813685248, t3 % 2251799813685248, t4 % 2251799813685248], t4 / 2251799813685248) := by
  refine ⟨_, _, _, _, _, rfl, rfl, rfl, rfl, rfl, ?_⟩
  simp [mulF]
/-- Five sums, each with what the one before left over. -/
theorem five_sums (S0 S1 S2 S3 S4 t0 t1 t2 t3 t4 : Nat) (h0 : t0 = S0) (h1 : t1 = t0 / 2251799813685248 + S1) (h2 : t2 = t1 / 2251799813685248 + S2) (h3 : t3 = t2 / 2251799813685248 + S3) (h4 : t4 = t3 / 2251799813685248 + S4) :
    valF [t0 % 2251799813685248 + 19 * (t4 / 2251799813685248), t1 % 2251799813685248, t2 % 2251799813685248, t3 % 2251799813685248, t4 % 2251799813685248] + P255 * (t4 / 2251799813685248) = valF [S0, S1, S2, S3, S4] := by
  simp only [valF, P255_num]
  omega
theorem mul_nat (a b c d e a' b' c' d' e' : Nat) :
    (a + 2251799813685248 * (b + 2251799813685248 * (c + 2251799813685248 * (d + 2251799813685248 * e)))) * (a' + 2251799813685248 * (b' + 2251799813685248 * (c' + 2251799813685248 * (d' + 2251799813685248 * e')))) =
      (a * a' + 19 * b * e' + 19 * c * d' + 19 * d * c' + 19 * e * b') + 2251799813685248 * ((a * b' + b * a' + 19 * c * e' + 19 * d * d' + 19 * e * c') + 2251799813685248 * ((a * c' + b * b' + c * a' + 19 * d * e' + 19 * e * d') + 2251799813685248 * ((a * d' + b * c' + c * b' + d * a' + 19 * e * e') + 2251799813685248 * (a * e' + b * d' + c * c' + d * b' + e * a')))) +
      57896044618658097711785492504343953926634992332820282019728792003956564819949 * ((b * e' + c * d' + d * c' + e * b') + 2251799813685248 * ((c * e' + d * d' + e * c') + 2251799813685248 * ((d * e' + e * d') + 2251799813685248 * (e * e')))) := by
  grind
theorem endF_five (x y : List Nat) (hx : IsE x) (hy : IsE y) : ∃ q Q : Nat, valF (endF x y) + P255 * q = valF x * valF y - P255 * Q ∧ P255 * Q ≤ valF x * valF y := by
  obtain ⟨a, b, c, d, e, rfl, _⟩ := hx
  obtain ⟨a', b', c', d', e', rfl, _⟩ := hy
  obtain ⟨t0, t1, t2, t3, t4, h0, h1, h2, h3, h4, hm⟩ := mulF_five [a, b, c, d, e] [a', b', c', d', e']
  rw [(rowT_five a b c d e a' b' c' d' e' _).1] at h0
  rw [(rowT_five a b c d e a' b' c' d' e' _).2.1] at h1
  rw [(rowT_five a b c d e a' b' c' d' e' _).2.2.1] at h2
  rw [(rowT_five a b c d e a' b' c' d' e' _).2.2.2.1] at h3
  rw [(rowT_five a b c d e a' b' c' d' e' _).2.2.2.2] at h4
  have hs := five_sums (a * a' + 19 * b * e' + 19 * c * d' + 19 * d * c' + 19 * e * b') (a * b' + b * a' + 19 * c * e' + 19 * d * d' + 19 * e * c') (a * c' + b * b' + c * a' + 19 * d * e' + 19 * e * d') (a * d' + b * c' + c * b' + d * a' + 19 * e * e') (a * e' + b * d' + c * c' + d * b' + e * a') t0 t1 t2 t3 t4
    (by omega) (by omega) (by omega) (by omega) (by omega)
  have hr := mul_nat a b c d e a' b' c' d' e'
  have he : endF [a, b, c, d, e] [a', b', c', d', e'] = [t0 % 2251799813685248 + 19 * (t4 / 2251799813685248), t1 % 2251799813685248, t2 % 2251799813685248, t3 % 2251799813685248, t4 % 2251799813685248] := by rw [endF, hm]; rfl
  refine ⟨t4 / 2251799813685248, (b * e' + c * d' + d * c' + e * b') + 2251799813685248 * ((c * e' + d * d' + e * c') + 2251799813685248 * ((d * e' + e * d') + 2251799813685248 * (e * e'))), ?_, ?_⟩
  · rw [he, hs, P255_num]
    simp only [valF, Nat.mul_zero, Nat.add_zero]
    omega
  · rw [P255_num]
    simp only [valF, Nat.mul_zero, Nat.add_zero]
    omega
theorem endF_val (x y : List Nat) (hx : IsE x) (hy : IsE y) : valF (endF x y) % P255 = valF x % P255 * (valF y % P255) % P255 := by
  obtain ⟨q, Q, h1, h2⟩ := endF_five x y hx hy
  rw [← Nat.mul_mod]
  have h3 : valF x * valF y = valF (endF x y) + P255 * (q + Q) := by rw [Nat.mul_add]; omega
  rw [h3, Nat.add_mul_mod_self_left]
theorem endF_small (x y : List Nat) (hx : IsE x) (hy : IsE y) : (endF x y).length = 5 ∧ (∀ t ∈ endF x y, t < 9223372036854775808) ∧ IsE (carF (endF x y)) := by
  have ho := mulF_over x y hx hy 5
  obtain ⟨t0, t1, t2, t3, t4, h0, h1, h2, h3, h4, hm⟩ := mulF_five x y
  have he : endF x y = [t0 % 2251799813685248 + 19 * (t4 / 2251799813685248), t1 % 2251799813685248, t2 % 2251799813685248, t3 % 2251799813685248, t4 % 2251799813685248] := by rw [endF, hm]; rfl
  rw [hm] at ho
  simp only at ho
  clear h0 h1 h2 h3 h4 hm
  rw [he]
  refine ⟨rfl, by simp; omega, ?_⟩
  exact carF_isE _ _ _ _ _ (by omega) (by omega) (by omega) (by omega) (by omega) (.inr ⟨by omega, by omega, by omega, by omega⟩)

/-- The digits of bytes. -/
def frT (n : Nat) : Nat → List Nat
  | 0 => [0, 0, 0, 0, 0]
  | k + 1 => (frT n k).set k (n / 2251799813685248 ^ k % 2251799813685248)
theorem frT_length (n : Nat) : ∀ k, (frT n k).length = 5
  | 0 => rfl
  | k + 1 => by rw [frT, List.length_set, frT_length n k]
theorem frT_five (n : Nat) : frT n 5 = [n / 2251799813685248 ^ 0 % 2251799813685248, n / 2251799813685248 ^ 1 % 2251799813685248, n / 2251799813685248 ^ 2 % 2251799813685248, n / 2251799813685248 ^ 3 % 2251799813685248, n / 2251799813685248 ^ 4 % 2251799813685248] := by
  simp [frT]
theorem frT_isE (n : Nat) : IsE (frT n 5) :=
  ⟨_, _, _, _, _, frT_five n, Nat.lt_trans (Nat.mod_lt _ (by decide)) (by decide), Nat.mod_lt _ (by decide), Nat.mod_lt _ (by decide), Nat.mod_lt _ (by decide), Nat.mod_lt _ (by decide)⟩
theorem frT_val (n : Nat) : valF (frT n 5) = n % 2 ^ 255 := by
  rw [frT_five]
  simp only [valF, show (2251799813685248 : Nat) ^ 0 = 1 from rfl, show (2251799813685248 : Nat) ^ 1 = 2251799813685248 from rfl, show (2251799813685248 : Nat) ^ 2 = 5070602400912917605986812821504 from rfl, show (2251799813685248 : Nat) ^ 3 = 11417981541647679048466287755595961091061972992 from rfl, show (2251799813685248 : Nat) ^ 4 = 25711008708143844408671393477458601640355247900524685364822016 from rfl, show (2 : Nat) ^ 255 = 57896044618658097711785492504343953926634992332820282019728792003956564819968 from rfl]
  omega
/-- A digit out of eight bytes. -/
theorem fr_cut (l : List UInt8) (k q s : Nat) (hk : k < 5) (hq : q = min (k * 51 / 8) 24) (hs : s = k * 51 - 8 * q) : getV l false q 8 / 2 ^ s % 2251799813685248 = leN l / 2251799813685248 ^ k % 2251799813685248 := by
  rw [getV_cut]
  generalize leN l = n
  have : k = 0 ∨ k = 1 ∨ k = 2 ∨ k = 3 ∨ k = 4 := by omega
  rcases this with rfl | rfl | rfl | rfl | rfl
  · obtain rfl : q = 0 := by rw [hq]; rfl
    obtain rfl : s = 0 := by rw [hs]
    simp only [show (256 : Nat) ^ 0 = 1 from rfl, show (256 : Nat) ^ 8 = 18446744073709551616 from rfl]
    omega
  · obtain rfl : q = 6 := by rw [hq]; rfl
    obtain rfl : s = 3 := by rw [hs]
    simp only [show (256 : Nat) ^ 6 = 281474976710656 from rfl, show (256 : Nat) ^ 8 = 18446744073709551616 from rfl, show (2 : Nat) ^ 3 = 8 from rfl, show (2251799813685248 : Nat) ^ 1 = 281474976710656 * 8 from rfl, ← Nat.div_div_eq_div_mul]
    generalize n / 281474976710656 = m
    omega
  · obtain rfl : q = 12 := by rw [hq]; rfl
    obtain rfl : s = 6 := by rw [hs]
    simp only [show (256 : Nat) ^ 12 = 79228162514264337593543950336 from rfl, show (256 : Nat) ^ 8 = 18446744073709551616 from rfl, show (2 : Nat) ^ 6 = 64 from rfl, show (2251799813685248 : Nat) ^ 2 = 79228162514264337593543950336 * 64 from rfl, ← Nat.div_div_eq_div_mul]
    generalize n / 79228162514264337593543950336 = m
    omega
  · obtain rfl : q = 19 := by rw [hq]; rfl
    obtain rfl : s = 1 := by rw [hs]
    simp only [show (256 : Nat) ^ 8 = 18446744073709551616 from rfl, show (2 : Nat) ^ 1 = 2 from rfl, show (2251799813685248 : Nat) ^ 3 = 256 ^ 19 * 2 from rfl, ← Nat.div_div_eq_div_mul]
    generalize n / 256 ^ 19 = m
    omega
  · obtain rfl : q = 24 := by rw [hq]; rfl
    obtain rfl : s = 12 := by rw [hs]
    simp only [show (256 : Nat) ^ 8 = 18446744073709551616 from rfl, show (2 : Nat) ^ 12 = 4096 from rfl, show (2251799813685248 : Nat) ^ 4 = 256 ^ 24 * 4096 from rfl, ← Nat.div_div_eq_div_mul]
    generalize n / 256 ^ 24 = m
    omega
/-- The bytes of a number in four words. -/
theorem leB_both : ∀ a b n, leB (a + b) n = leB a n ++ leB b (n / 256 ^ a)
  | 0, b, n => by simp [leB]
  | a + 1, b, n => by
    rw [show a + 1 + b = (a + b) + 1 by omega, leB, leB, leB_both a b (n / 256), Nat.div_div_eq_div_mul, Nat.pow_succ, Nat.mul_comm 256 (256 ^ a)]
    rfl
theorem leB_low : ∀ a n, leB a (n % 256 ^ a) = leB a n
  | 0, n => rfl
  | a + 1, n => by
    have h1 : n % 256 ^ (a + 1) % 256 = n % 256 := by rw [Nat.pow_succ, Nat.mul_comm, Nat.mod_mul_right_mod]
    have h2 : n % 256 ^ (a + 1) / 256 = n / 256 % 256 ^ a := by rw [Nat.pow_succ, Nat.mul_comm, Nat.mod_mul_right_div_self]
    rw [leB, leB, h2, leB_low a (n / 256)]
    simp only [h1]
/-- The first k words of bytes. -/
def wds (x : Nat) : Nat → List UInt8
  | 0 => []
  | k + 1 => wds x k ++ leB 8 (x / 18446744073709551616 ^ k % 18446744073709551616)
theorem wds_length (x : Nat) : ∀ k, (wds x k).length = 8 * k
  | 0 => rfl
  | k + 1 => by rw [wds, List.length_append, wds_length x k, leB_length]; omega
theorem wds_all (x : Nat) : ∀ k, wds x k = leB (8 * k) x
  | 0 => rfl
  | k + 1 => by
    rw [wds, wds_all x k, show 8 * (k + 1) = 8 * k + 8 by omega, leB_both (8 * k) 8 x, show (18446744073709551616 : Nat) = 256 ^ 8 from rfl, leB_low 8, Nat.pow_mul]
/-- One word out of two digits. -/
theorem word_two (l : List Nat) (hl : l.length = 5) (hb : ∀ x ∈ l, x < 2251799813685248) (k : Nat) (hk : k < 4) :
    atD l k / 2 ^ (13 * k) + atD l (k + 1) * 2 ^ (51 - 13 * k) % 18446744073709551616 = valF l / 18446744073709551616 ^ k % 18446744073709551616 := by
  obtain ⟨a, b, c, d, e, rfl⟩ := five l hl
  simp at hb
  obtain ⟨ha, hb, hc, hd, he⟩ := hb
  have : k = 0 ∨ k = 1 ∨ k = 2 ∨ k = 3 := by omega
  rcases this with rfl | rfl | rfl | rfl <;> simp [atD, valF] <;> omega

/-- Powers of an element. -/
def pw (x e : Nat) : Nat := x ^ e % P255
theorem pw_lt (x e : Nat) : pw x e < P255 := Nat.mod_lt _ P255_pos
theorem pw_one (x : Nat) (h : x < P255) : pw x 1 = x := by rw [pw, Nat.pow_one, Nat.mod_eq_of_lt h]
theorem pw_mul (x e f : Nat) : pw x e * pw x f % P255 = pw x (e + f) := by rw [pw, pw, pw, ← Nat.mul_mod, Nat.pow_add]
theorem pw_double (x e : Nat) : pw x e * pw x e % P255 = pw x (e * 2) := by rw [pw_mul, Nat.mul_two]
theorem pw_inv (x e : Nat) (h : E255 = e) : finv x = pw x e := by rw [← h]; rfl
theorem E255_num : E255 = 57896044618658097711785492504343953926634992332820282019728792003956564819947 := rfl
end Go.Proofs.YtmdoojfcgbokjaaDoor
