/- Plain facts on numbers as five digits to base 2^26, reckoned modulo 2^130 - 5. No program is named here. -/
import Derived.Test.YtmdoojfcgbokjaaDoorMathPoly
namespace Go.Proofs.YtmdoojfcgbokjaaDoor
set_option linter.unusedVariables false
open Go.RowKit

/-- What a row of digits to base 2^26 is as a number. -/
def valL : List Nat → Nat
  | [] => 0
  | c :: r => c + 67108864 * valL r
theorem valL_append : ∀ a b, valL (a ++ b) = valL a + 67108864 ^ a.length * valL b
  | [], b => by simp [valL]
  | c :: r, b => by simp only [List.cons_append, valL, valL_append r b, List.length_cons, Nat.pow_succ]; rw [Nat.mul_add, ← Nat.mul_assoc, Nat.mul_comm (67108864 ^ r.length) 67108864, Nat.add_assoc]
theorem valL_snoc (a : List Nat) (x : Nat) : valL (a ++ [x]) = valL a + 67108864 ^ a.length * x := by rw [valL_append]; simp [valL]
theorem valL_take_succ (l : List Nat) (k : Nat) (h : k < l.length) : valL (l.take (k + 1)) = valL (l.take k) + 67108864 ^ k * atD l k := by
  rw [take_snoc l k h, valL_snoc, List.length_take, Nat.min_eq_left (by omega)]
theorem valL_set : ∀ (l : List Nat) (i x : Nat), i < l.length → valL (l.set i (atD l i + x)) = valL l + 67108864 ^ i * x
  | [], i, x, h => by simp at h
  | c :: r, 0, x, h => by simp [valL, atD]; omega
  | c :: r, i + 1, x, h => by
    have ih := valL_set r i x (by simpa using h)
    have e : atD (c :: r) (i + 1) = atD r i := by simp [atD]
    rw [e]
    simp only [List.set_cons_succ, valL, ih]
    rw [Nat.mul_add, Nat.pow_succ, ← Nat.mul_assoc, Nat.mul_comm 67108864 (67108864 ^ i), Nat.add_assoc]
theorem valL_lt : ∀ l : List Nat, (∀ x ∈ l, x < 67108864) → valL l < 67108864 ^ l.length
  | [], _ => by simp [valL]
  | c :: r, h => by
    have h1 := h c (by simp)
    have h2 := valL_lt r (fun x hx => h x (by simp [hx]))
    simp only [valL, List.length_cons, Nat.pow_succ]
    omega
/-- Five digits, one by one. -/
theorem five (l : List Nat) (h : l.length = 5) : ∃ a b c d e, l = [a, b, c, d, e] := by
  match l, h with
  | [a, b, c, d, e], _ => exact ⟨a, b, c, d, e, rfl⟩
theorem atD_bound (l : List Nat) (B : Nat) (hB : 0 < B) (h : ∀ x ∈ l, x < B) (i : Nat) : atD l i < B := by
  rcases Nat.lt_or_ge i l.length with hi | hi
  · exact h _ (atD_mem l i hi)
  · rw [atD_out l i hi]; exact hB

/-- Digit by digit, the first k of them. -/
def addTo (a b : List Nat) : Nat → List Nat
  | 0 => a
  | k + 1 => (addTo a b k).set k (atD (addTo a b k) k + atD b k)
theorem addTo_length (a b : List Nat) : ∀ k, (addTo a b k).length = a.length
  | 0 => rfl
  | k + 1 => by rw [addTo, List.length_set, addTo_length a b k]
theorem addTo_at (a b : List Nat) : ∀ k j, k ≤ j → atD (addTo a b k) j = atD a j
  | 0, j, _ => rfl
  | k + 1, j, h => by rw [addTo, atD_set_other _ _ _ _ (by omega), addTo_at a b k j (by omega)]
theorem addTo_val (a b : List Nat) (ha : a.length = 5) (hb : b.length = 5) : valL (addTo a b 5) = valL a + valL b := by
  obtain ⟨a0, a1, a2, a3, a4, rfl⟩ := five a ha
  obtain ⟨b0, b1, b2, b3, b4, rfl⟩ := five b hb
  show valL [a0 + b0, a1 + b1, a2 + b2, a3 + b3, a4 + b4] = _
  simp only [valL]; omega
theorem addTo_lt (a b : List Nat) (ha : a.length = 5) (hb : b.length = 5) (h1 : ∀ x ∈ a, x < 67108864) (h2 : ∀ x ∈ b, x < 67108864) : ∀ x ∈ addTo a b 5, x < 134217728 := by
  obtain ⟨a0, a1, a2, a3, a4, rfl⟩ := five a ha
  obtain ⟨b0, b1, b2, b3, b4, rfl⟩ := five b hb
  show ∀ x ∈ [a0 + b0, a1 + b1, a2 + b2, a3 + b3, a4 + b4], x < 134217728
  simp at h1 h2 ⊢
  omega

/-- What is too much goes on to the next digit: the first k of them, and what is over. -/
def carTo (l : List Nat) : Nat → List Nat × Nat
  | 0 => (l, 0)
  | k + 1 => ((carTo l k).1.set k ((atD (carTo l k).1 k + (carTo l k).2) % 67108864), (atD (carTo l k).1 k + (carTo l k).2) / 67108864)
def carL (l : List Nat) : List Nat := (carTo l 5).1.set 0 (atD (carTo l 5).1 0 + 5 * (carTo l 5).2)
theorem carTo_length (l : List Nat) : ∀ k, (carTo l k).1.length = l.length
  | 0 => rfl
  | k + 1 => by rw [carTo, List.length_set, carTo_length l k]
theorem carTo_at (l : List Nat) : ∀ k j, k ≤ j → atD (carTo l k).1 j = atD l j
  | 0, j, _ => rfl
  | k + 1, j, h => by rw [carTo, atD_set_other _ _ _ _ (by omega), carTo_at l k j (by omega)]
theorem carTo_over (l : List Nat) (h : ∀ x ∈ l, x < 4611686018427387904) : ∀ k, (carTo l k).2 < 137438953472
  | 0 => by simp [carTo]
  | k + 1 => by
    have h1 := carTo_over l h k
    have h2 : atD (carTo l k).1 k < 4611686018427387904 := by rw [carTo_at l k k (Nat.le_refl _)]; exact atD_bound l _ (by omega) h k
    rw [carTo]; simp only; omega
theorem carTo_lt (l : List Nat) (h : ∀ x ∈ l, x < 4611686018427387904) : ∀ k, ∀ x ∈ (carTo l k).1, x < 4611686018427387904
  | 0 => h
  | k + 1 => by
    intro x hx
    rw [carTo] at hx
    rcases List.mem_or_eq_of_mem_set hx with h1 | h1
    · exact carTo_lt l h k x h1
    · rw [h1]; omega
theorem carL_length (l : List Nat) : (carL l).length = l.length := by rw [carL, List.length_set, carTo_length]
theorem carL_five (a b c d e : Nat) : ∃ o0 o1 o2 o3 o4 : Nat, o0 = a / 67108864 ∧ o1 = (b + o0) / 67108864 ∧ o2 = (c + o1) / 67108864 ∧ o3 = (d + o2) / 67108864 ∧ o4 = (e + o3) / 67108864 ∧
    carL [a, b, c, d, e] = [a % 67108864 + 5 * o4, (b + o0) % 67108864, (c + o1) % 67108864, (d + o2) % 67108864, (e + o3) % 67108864] := by
  refine ⟨_, _, _, _, _, rfl, rfl, rfl, rfl, rfl, ?_⟩
  simp [carL, carTo, atD]
theorem carL_small (l : List Nat) (h : l.length = 5) (hl : ∀ x ∈ l, x < 4611686018427387904) : ∀ x ∈ carL l, x < 4611686018427387904 := by
  obtain ⟨a, b, c, d, e, rfl⟩ := five l h
  obtain ⟨o0, o1, o2, o3, o4, h0, h1, h2, h3, h4, he⟩ := carL_five a b c d e
  rw [he]
  simp at hl ⊢
  omega
def carN (l : List Nat) : Nat → List Nat
  | 0 => l
  | t + 1 => carL (carN l t)
theorem carN_length (l : List Nat) : ∀ t, (carN l t).length = l.length
  | 0 => rfl
  | t + 1 => by rw [carN, carL_length, carN_length l t]
theorem carN_small (l : List Nat) (h : l.length = 5) (hl : ∀ x ∈ l, x < 4611686018427387904) : ∀ t, ∀ x ∈ carN l t, x < 4611686018427387904
  | 0 => hl
  | t + 1 => carL_small _ (by rw [carN_length, h]) (carN_small l h hl t)
theorem carL_val (l : List Nat) (h : l.length = 5) : ∃ q, valL (carL l) + P1305 * q = valL l := by
  obtain ⟨a, b, c, d, e, rfl⟩ := five l h
  obtain ⟨o0, o1, o2, o3, o4, h0, h1, h2, h3, h4, he⟩ := carL_five a b c d e
  refine ⟨o4, ?_⟩
  rw [he]
  simp only [valL, P1305]
  omega
theorem carL_lt (l : List Nat) (h : l.length = 5) (hl : ∀ x ∈ l, x < 4611686018427387904) : ∀ x ∈ carL (carL (carL l)), x < 67108864 := by
  obtain ⟨a, b, c, d, e, rfl⟩ := five l h
  obtain ⟨o0, o1, o2, o3, o4, h0, h1, h2, h3, h4, he⟩ := carL_five a b c d e
  rw [he]
  simp at hl
  obtain ⟨l0, l1, l2, l3, l4⟩ := hl
  have b4 : o4 < 137438953472 := by omega
  have m1 : (b + o0) % 67108864 < 67108864 := Nat.mod_lt _ (by decide)
  have m2 : (c + o1) % 67108864 < 67108864 := Nat.mod_lt _ (by decide)
  have m3 : (d + o2) % 67108864 < 67108864 := Nat.mod_lt _ (by decide)
  have m4 : (e + o3) % 67108864 < 67108864 := Nat.mod_lt _ (by decide)
  have m0 : a % 67108864 + 5 * o4 < 700000000000 := by omega
  generalize (b + o0) % 67108864 = b' at m1 ⊢
  generalize (c + o1) % 67108864 = c' at m2 ⊢
  generalize (d + o2) % 67108864 = d' at m3 ⊢
  generalize (e + o3) % 67108864 = e' at m4 ⊢
  generalize a % 67108864 + 5 * o4 = a' at m0 ⊢
  clear h0 h1 h2 h3 h4 he b4 l0 l1 l2 l3 l4
  obtain ⟨p0, p1, p2, p3, p4, h0, h1, h2, h3, h4, he⟩ := carL_five a' b' c' d' e'
  rw [he]
  have q0 : p0 ≤ 10431 := by omega
  have q1 : p1 ≤ 1 := by omega
  have q2 : p2 ≤ 1 := by omega
  have q3 : p3 ≤ 1 := by omega
  have q4 : p4 ≤ 1 := by omega
  by_cases hp4 : p4 = 0
  · subst hp4
    obtain ⟨r0, r1, r2, r3, r4, g0, g1, g2, g3, g4, ge⟩ := carL_five (a' % 67108864 + 5 * 0) ((b' + p0) % 67108864) ((c' + p1) % 67108864) ((d' + p2) % 67108864) ((e' + p3) % 67108864)
    rw [ge]
    simp
    omega
  · have hp1 : p4 = 1 := by omega
    subst hp1
    have hp3 : p3 = 1 := by omega
    have hp2 : p2 = 1 := by omega
    have hp1 : p1 = 1 := by omega
    obtain ⟨r0, r1, r2, r3, r4, g0, g1, g2, g3, g4, ge⟩ := carL_five (a' % 67108864 + 5 * 1) ((b' + p0) % 67108864) ((c' + p1) % 67108864) ((d' + p2) % 67108864) ((e' + p3) % 67108864)
    rw [ge]
    have s0 : r0 ≤ 1 := by omega
    have s1 : r1 = 0 := by omega
    have s2 : r2 = 0 := by omega
    have s3 : r3 = 0 := by omega
    have s4 : r4 = 0 := by omega
    simp
    omega

/-- The products of one digit with the first j digits of r, added. -/
def mulRow (o : List Nat) (x : Nat) (r : List Nat) (i : Nat) : Nat → List Nat
  | 0 => o
  | j + 1 => if i + j < 5 then (mulRow o x r i j).set (i + j) (atD (mulRow o x r i j) (i + j) + x * atD r j)
      else (mulRow o x r i j).set (i + j - 5) (atD (mulRow o x r i j) (i + j - 5) + 5 * x * atD r j)
def mulTo (n r : List Nat) : Nat → List Nat
  | 0 => [0, 0, 0, 0, 0]
  | i + 1 => mulRow (mulTo n r i) (atD n i) r i 5
theorem mulRow_length (o : List Nat) (x : Nat) (r : List Nat) (i : Nat) : ∀ j, (mulRow o x r i j).length = o.length
  | 0 => rfl
  | j + 1 => by
    rw [mulRow]
    split <;> rw [List.length_set, mulRow_length o x r i j]
theorem mulTo_length (n r : List Nat) : ∀ i, (mulTo n r i).length = 5
  | 0 => rfl
  | i + 1 => by rw [mulTo, mulRow_length, mulTo_length n r i]
theorem set_bound (l : List Nat) (i x B : Nat) (h : ∀ y ∈ l, y ≤ B) (hx : x ≤ B) : ∀ y ∈ l.set i x, y ≤ B := by
  intro y hy
  rcases List.mem_or_eq_of_mem_set hy with h1 | h1
  · exact h y h1
  · rw [h1]; exact hx
theorem atD_le (l : List Nat) (B : Nat) (h : ∀ x ∈ l, x ≤ B) (i : Nat) : atD l i ≤ B := by
  rcases Nat.lt_or_ge i l.length with hi | hi
  · exact h _ (atD_mem l i hi)
  · rw [atD_out l i hi]; omega
theorem mul_small (x y : Nat) (hx : x < 134217728) (hy : y < 67108864) : x * y ≤ 9007199254740992 := by
  have := Nat.mul_le_mul (Nat.le_of_lt hx) (Nat.le_of_lt hy)
  omega
theorem mulRow_le (o : List Nat) (x : Nat) (r : List Nat) (i B : Nat) (hx : x < 134217728) (hr : ∀ y ∈ r, y < 67108864) (ho : ∀ y ∈ o, y ≤ B) : ∀ j, ∀ y ∈ mulRow o x r i j, y ≤ B + j * 45035996273704960
  | 0 => by simpa [mulRow] using ho
  | j + 1 => by
    have ih := mulRow_le o x r i B hx hr ho j
    have ih' : ∀ y ∈ mulRow o x r i j, y ≤ B + (j + 1) * 45035996273704960 := fun y hy => Nat.le_trans (ih y hy) (Nat.add_le_add_left (Nat.mul_le_mul_right _ (Nat.le_succ j)) B)
    have hm := mul_small x (atD r j) hx (atD_bound r _ (by omega) hr j)
    have hm5 : 5 * x * atD r j = 5 * (x * atD r j) := Nat.mul_assoc _ _ _
    rw [mulRow]
    split
    · refine set_bound _ _ _ _ ih' ?_
      have := atD_le _ _ ih (i + j)
      rw [Nat.succ_mul]; omega
    · refine set_bound _ _ _ _ ih' ?_
      have := atD_le _ _ ih (i + j - 5)
      rw [hm5]
      rw [Nat.succ_mul]; omega
theorem mulTo_le (n r : List Nat) (hn : ∀ y ∈ n, y < 134217728) (hr : ∀ y ∈ r, y < 67108864) : ∀ i, ∀ y ∈ mulTo n r i, y ≤ i * 225179981368524800
  | 0 => by simp [mulTo]
  | i + 1 => by
    have ih := mulTo_le n r hn hr i
    have := mulRow_le (mulTo n r i) (atD n i) r i _ (atD_bound n _ (by omega) hn i) hr ih 5
    intro y hy
    rw [mulTo] at hy
    have := this y hy
    omega
theorem pow_wrap (i j : Nat) (h : 5 ≤ i + j) : 67108864 ^ i * 67108864 ^ j = 67108864 ^ (i + j - 5) * (P1305 + 5) := by
  rw [← Nat.pow_add, show i + j = (i + j - 5) + 5 by omega, Nat.pow_add]
  rfl
theorem mulRow_val (o : List Nat) (x : Nat) (r : List Nat) (i : Nat) (ho : o.length = 5) (hi : i < 5) (hr : r.length = 5) : ∀ j, j ≤ 5 → ∃ q, valL (mulRow o x r i j) + P1305 * q = valL o + 67108864 ^ i * x * valL (r.take j)
  | 0, _ => ⟨0, by simp [mulRow, valL]⟩
  | j + 1, hj => by
    obtain ⟨q, hq⟩ := mulRow_val o x r i ho hi hr j (by omega)
    have hlen : (mulRow o x r i j).length = 5 := by rw [mulRow_length, ho]
    rw [valL_take_succ r j (by omega), mulRow, Nat.mul_add, ← Nat.add_assoc, ← hq]
    split
    · rename_i hlt
      refine ⟨q, ?_⟩
      rw [valL_set _ _ _ (by omega), Nat.pow_add]
      have e : 67108864 ^ i * 67108864 ^ j * (x * atD r j) = 67108864 ^ i * x * (67108864 ^ j * atD r j) := by
        rw [Nat.mul_assoc, Nat.mul_assoc, Nat.mul_left_comm (67108864 ^ j) x (atD r j)]
      omega
    · rename_i hge
      refine ⟨q + 67108864 ^ (i + j - 5) * (x * atD r j), ?_⟩
      rw [valL_set _ _ _ (by omega)]
      have e : 67108864 ^ i * x * (67108864 ^ j * atD r j) = 67108864 ^ (i + j - 5) * (x * atD r j) * P1305 + 5 * (67108864 ^ (i + j - 5) * (x * atD r j)) := by
        have e1 : 67108864 ^ i * x * (67108864 ^ j * atD r j) = 67108864 ^ i * 67108864 ^ j * (x * atD r j) := by
          rw [Nat.mul_assoc, Nat.mul_assoc, Nat.mul_left_comm (67108864 ^ j) x (atD r j)]
        rw [e1, pow_wrap i j (by omega)]
        generalize 67108864 ^ (i + j - 5) = A
        generalize x * atD r j = B
        generalize P1305 = C
        rw [Nat.mul_assoc, Nat.mul_comm (C + 5) B, ← Nat.mul_assoc, Nat.mul_add, Nat.mul_comm (A * B) 5]
      have e2 : 67108864 ^ (i + j - 5) * (5 * x * atD r j) = 5 * (67108864 ^ (i + j - 5) * (x * atD r j)) := by
        rw [Nat.mul_assoc 5, Nat.mul_left_comm]
      rw [e, e2, Nat.mul_add, Nat.mul_comm P1305 (67108864 ^ (i + j - 5) * (x * atD r j))]
      omega
theorem mulTo_val (n r : List Nat) (hn : n.length = 5) (hr : r.length = 5) : ∀ i, i ≤ 5 → ∃ q, valL (mulTo n r i) + P1305 * q = valL (n.take i) * valL r
  | 0, _ => ⟨0, by simp [mulTo, valL]⟩
  | i + 1, hi => by
    obtain ⟨q, hq⟩ := mulTo_val n r hn hr i (by omega)
    obtain ⟨q2, hq2⟩ := mulRow_val (mulTo n r i) (atD n i) r i (mulTo_length n r i) (by omega) hr 5 (by omega)
    have e5 : r.take 5 = r := List.take_of_length_le (by omega)
    rw [e5] at hq2
    refine ⟨q + q2, ?_⟩
    rw [mulTo, valL_take_succ n i (by omega), Nat.add_mul, ← hq, Nat.mul_add]
    omega
/-- A product, reckoned back to digits. -/
def timL (n r : List Nat) : List Nat := carL (carL (carL (mulTo n r 5)))
theorem timL_length (n r : List Nat) : (timL n r).length = 5 := by simp only [timL, carL_length, mulTo_length]
theorem timL_lt (n r : List Nat) (hn : ∀ y ∈ n, y < 134217728) (hr : ∀ y ∈ r, y < 67108864) : ∀ x ∈ timL n r, x < 67108864 :=
  carL_lt _ (mulTo_length n r 5) (fun x hx => by have := mulTo_le n r hn hr 5 x hx; omega)
theorem timL_val (n r : List Nat) (hn : n.length = 5) (hr : r.length = 5) : valL (timL n r) % P1305 = valL n * valL r % P1305 := by
  obtain ⟨q, hq⟩ := mulTo_val n r hn hr 5 (by omega)
  obtain ⟨q1, h1⟩ := carL_val (mulTo n r 5) (mulTo_length n r 5)
  obtain ⟨q2, h2⟩ := carL_val (carL (mulTo n r 5)) (by rw [carL_length, mulTo_length])
  obtain ⟨q3, h3⟩ := carL_val (carL (carL (mulTo n r 5))) (by rw [carL_length, carL_length, mulTo_length])
  rw [List.take_of_length_le (by omega)] at hq
  have e : valL n * valL r = valL (timL n r) + P1305 * (q3 + q2 + q1 + q) := by
    rw [← hq, ← h1, ← h2, ← h3]
    simp only [timL, Nat.mul_add]
    omega
  rw [e, Nat.add_mul_mod_self_left]
/-- The five digits of a number. -/
def limbs (N : Nat) : List Nat := (List.range 5).map fun i => N / 67108864 ^ i % 67108864
theorem limbs_length (N : Nat) : (limbs N).length = 5 := by simp [limbs]
theorem limbs_lt (N : Nat) : ∀ x ∈ limbs N, x < 67108864 := by
  intro x hx
  simp only [limbs, List.mem_map] at hx
  obtain ⟨i, _, rfl⟩ := hx
  exact Nat.mod_lt _ (by decide)
theorem limbs_at (N i : Nat) (h : i < 5) : atD (limbs N) i = N / 67108864 ^ i % 67108864 := by
  rw [atD_get _ _ (by rw [limbs_length]; exact h)]; simp [limbs]
theorem limbs_val (N : Nat) (h : N < 2 ^ 130) : valL (limbs N) = N := by
  have e : limbs N = [N % 67108864, N / 67108864 % 67108864, N / 4503599627370496 % 67108864, N / 302231454903657293676544 % 67108864, N / 20282409603651670423947251286016 % 67108864] := by
    simp [limbs, List.range_succ]
  rw [e]
  simp only [valL]
  omega
end Go.Proofs.YtmdoojfcgbokjaaDoor
