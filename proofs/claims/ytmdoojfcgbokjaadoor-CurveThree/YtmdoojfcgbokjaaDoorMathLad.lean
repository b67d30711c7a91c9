/- The ladder over the least numbers modulo P, step by step as the document writes it; the order of 9. No program is named here. -/
import Derived.Test.YtmdoojfcgbokjaaDoorMathCurve
import Derived.Test.YtmdoojfcgbokjaaDoorMathOrder
namespace Go.Proofs.YtmdoojfcgbokjaaDoor
set_option linter.unusedVariables false
open Kum

/-- A sum, a difference, a product, as the least number. -/
def fA (x y : Nat) : Nat := (x + y) % P255
def fS (x y : Nat) : Nat := (x + (P255 - y)) % P255
def fM (x y : Nat) : Nat := (x * y) % P255
theorem fA_lt (x y : Nat) : fA x y < P255 := Nat.mod_lt _ P255_pos
theorem fS_lt (x y : Nat) : fS x y < P255 := Nat.mod_lt _ P255_pos
theorem fM_lt (x y : Nat) : fM x y < P255 := Nat.mod_lt _ P255_pos
theorem phi_fA (x y : Nat) : phi (fA x y) = phi x + phi y := phi_add x y
theorem phi_fM (x y : Nat) : phi (fM x y) = phi x * phi y := phi_mul x y
theorem phi_fS (x y : Nat) (h : y < P255) : phi (fS x y) = phi x - phi y := phi_sub x y h
def pt (x z : Nat) : Pt := ⟨phi x, phi z⟩
/-- What a step makes of X2, Z2 (twice it), and of X2, Z2 and X3, Z3 (both). -/
def nX2 (x2 z2 : Nat) : Nat := fM (fM (fA x2 z2) (fA x2 z2)) (fM (fS x2 z2) (fS x2 z2))
def nE (x2 z2 : Nat) : Nat := fS (fM (fA x2 z2) (fA x2 z2)) (fM (fS x2 z2) (fS x2 z2))
def nZ2 (x2 z2 : Nat) : Nat := fM (nE x2 z2) (fA (fM (fA x2 z2) (fA x2 z2)) (fM 121665 (nE x2 z2)))
def nP (x2 z2 x3 z3 : Nat) : Nat := fA (fM (fS x3 z3) (fA x2 z2)) (fM (fA x3 z3) (fS x2 z2))
def nM (x2 z2 x3 z3 : Nat) : Nat := fS (fM (fS x3 z3) (fA x2 z2)) (fM (fA x3 z3) (fS x2 z2))
def nX3 (x2 z2 x3 z3 : Nat) : Nat := fM (nP x2 z2 x3 z3) (nP x2 z2 x3 z3)
def nZ3 (u x2 z2 x3 z3 : Nat) : Nat := fM u (fM (nM x2 z2 x3 z3) (nM x2 z2 x3 z3))
theorem step_one (u x2 z2 x3 z3 : Nat) (h2 : z2 < P255) (h3 : z3 < P255) : pt (nX2 x2 z2) (nZ2 x2 z2) = (stepP c24 (phi u) (pt x2 z2) (pt x3 z3)).1 := by
  simp only [pt, stepP, nX2, nZ2, nE, phi_fM, phi_fA, phi_fS _ _ h2, phi_fS _ _ (fM_lt _ _)]
  rfl
theorem step_two (u x2 z2 x3 z3 : Nat) (h2 : z2 < P255) (h3 : z3 < P255) : pt (nX3 x2 z2 x3 z3) (nZ3 u x2 z2 x3 z3) = (stepP c24 (phi u) (pt x2 z2) (pt x3 z3)).2 := by
  simp only [pt, stepP, nX3, nZ3, nP, nM, phi_fM, phi_fA, phi_fS _ _ h2, phi_fS _ _ h3, phi_fS _ _ (fM_lt _ _)]
/-- Where the ladder is: at n, and the one behind it. -/
def Lad (u : F) (n : Nat) (p q : Pt) : Prop := (u ≠ 0 ∧ At cA u n p q) ∨ (u = 0 ∧ p.X * p.Z = 0 ∧ q.X * q.Z = 0)
theorem Lad.first (u : F) : Lad u 0 O (at1 u) := by
  by_cases hu : u = 0
  · refine .inr ⟨hu, ?_, ?_⟩
    · show (1 : F) * 0 = 0
      grind -lia
    · show u * 1 = 0
      rw [hu]
      grind -lia
  · refine .inl ⟨hu, ?_, ?_⟩
    · rw [mulP_zero]; exact Pt.sim.refl _
    · rw [show 0 + 1 = 1 from rfl, mulP_one]; exact Pt.sim.refl _
theorem step_zero {p q : Pt} (h : p.X * p.Z = 0) : (stepP c24 0 p q).1.Z = 0 ∧ (stepP c24 0 p q).2.Z = 0 := by
  simp only [stepP]
  refine ⟨?_, ?_⟩
  · have e : (p.X + p.Z) * (p.X + p.Z) - (p.X - p.Z) * (p.X - p.Z) = 4 * (p.X * p.Z) := by grind -lia
    rw [e, h]
    grind -lia
  · grind -lia
theorem times_zero (x : F) {z : F} (h : z = 0) : x * z = 0 := by rw [h]; grind -lia
theorem Lad.zero {u : F} {n : Nat} {p q : Pt} (h : Lad u n p q) : Lad u (2 * n) (stepP c24 u p q).1 (stepP c24 u p q).2 := by
  rcases h with ⟨hu, h⟩ | ⟨hu, h1, h2⟩
  · exact .inl ⟨hu, At.zero cGood.two cA_eq hu h⟩
  · subst hu
    exact .inr ⟨rfl, times_zero _ (step_zero h1).1, times_zero _ (step_zero h1).2⟩
theorem Lad.one {u : F} {n : Nat} {p q : Pt} (h : Lad u n p q) : Lad u (2 * n + 1) (stepP c24 u q p).2 (stepP c24 u q p).1 := by
  rcases h with ⟨hu, h⟩ | ⟨hu, h1, h2⟩
  · exact .inl ⟨hu, At.one cGood.two cA_eq hu h⟩
  · subst hu
    exact .inr ⟨rfl, times_zero _ (step_zero h2).2, times_zero _ (step_zero h2).1⟩
theorem Lad.done {u x : F} {n : Nat} {p q : Pt} (h : Lad u n p q) (hx : IsX p x) : MultX n u x := by
  rcases h with ⟨hu, h⟩ | ⟨hu, h1, h2⟩
  · exact .inr ⟨hu, hx.sim h.1⟩
  · refine .inl ⟨hu, ?_⟩
    rcases hx with ⟨_, hx⟩ | ⟨hz, hx⟩
    · exact hx
    · have hX : p.X = 0 := zero_of hz (by rw [← h1]; grind -lia)
      exact zero_of hz (by rw [← hX, ← hx]; grind -lia)
theorem isX_pt {x z : Nat} (hz : z < P255) : IsX (pt x z) (phi (fM x (finv z))) := by
  by_cases h : z = 0
  · refine .inl ⟨by rw [h]; rfl, ?_⟩
    rw [finv_zero z h]
    show phi (x * 0 % P255) = 0
    rw [Nat.mul_zero, Nat.zero_mod]
    rfl
  · refine .inr ⟨fun e => h ((phi_zero hz).1 e), ?_⟩
    rw [phi_fM]
    have e := phi_finv hz h
    show phi x * phi (finv z) * phi z = phi x
    have e2 : phi x * phi (finv z) * phi z = phi x * (phi (finv z) * phi z) := by grind -lia
    rw [e2, e]
    grind -lia

/-! The order of 9. -/
def ell : Nat := 7237005577332262213973186563042994240857116359379907606001950938285454250989
theorem ell_prime : Pr ell := pr_ell
/-- The number of bits, the highest one first, behind n. -/
def bitsV : List Bool → Nat → Nat
  | [], n => n
  | true :: l, n => bitsV l (2 * n + 1)
  | false :: l, n => bitsV l (2 * n)
/-- The ladder along bits. -/
def ladN (u : Nat) : List Bool → Nat → Nat → Nat → Nat → Nat
  | [], _, z2, _, _ => z2
  | true :: l, x2, z2, x3, z3 => ladN u l (nX3 x3 z3 x2 z2) (nZ3 u x3 z3 x2 z2) (nX2 x3 z3) (nZ2 x3 z3)
  | false :: l, x2, z2, x3, z3 => ladN u l (nX2 x2 z2) (nZ2 x2 z2) (nX3 x2 z2 x3 z3) (nZ3 u x2 z2 x3 z3)
theorem nZ2_lt (x z : Nat) : nZ2 x z < P255 := fM_lt _ _
theorem nZ3_lt (u a b c d : Nat) : nZ3 u a b c d < P255 := fM_lt _ _
theorem ladN_val (u : Nat) (hu : phi u ≠ 0) : ∀ (l : List Bool) (n x2 z2 x3 z3 : Nat), z2 < P255 → z3 < P255 → At cA (phi u) n (pt x2 z2) (pt x3 z3) → ladN u l x2 z2 x3 z3 = 0 → (mulP cA (at1 (phi u)) (bitsV l n)).Z = 0
  | [], n, x2, z2, x3, z3, h2, h3, h, e => by
    refine h.1.z ?_
    show phi z2 = 0
    have e : z2 = 0 := e
    rw [e]; rfl
  | true :: l, n, x2, z2, x3, z3, h2, h3, h, e => by
    have hA := At.one (a24 := c24) cGood.two cA_eq hu h
    rw [← step_two u x3 z3 x2 z2 h3 h2, ← step_one u x3 z3 x2 z2 h3 h2] at hA
    exact ladN_val u hu l _ _ _ _ _ (nZ3_lt _ _ _ _ _) (nZ2_lt _ _) hA e
  | false :: l, n, x2, z2, x3, z3, h2, h3, h, e => by
    have hA := At.zero (a24 := c24) cGood.two cA_eq hu h
    rw [← step_one u x2 z2 x3 z3 h2 h3, ← step_two u x2 z2 x3 z3 h2 h3] at hA
    exact ladN_val u hu l _ _ _ _ _ (nZ2_lt _ _) (nZ3_lt _ _ _ _ _) hA e
def ellBits : List Bool := [true, false, false, false, false, false, false, false, false, false, false, false, false, false, false, false, false, false, false, false, false, false, false, false, false, false, false, false, false, false, false, false, false, false, false, false, false, false, false, false, false, false, false, false, false, false, false, false, false, false, false, false, false, false, false, false, false, false, false, false, false, false, false, false, false, false, false, false, false, false, false, false, false, false, false, false, false, false, false, false, false, false, false, false, false, false, false, false, false, false, false, false, false, false, false, false, false, false, false, false, false, false, false, false, false, false, false, false, false, false, false, false, false, false, false, false, false, false, false, false, false, false, false, false, false, false, false, false, true, false, true, false, false, true, true, false, true, true, true, true, false, true, true, true, true, true, false, false, true, true, true, false, true, true, true, true, false, true, false, true, false, false, false, true, false, true, true, true, true, false, true, true, true, true, false, false, true, true, true, false, false, true, true, false, true, false, true, true, false, false, true, false, true, true, false, false, false, false, false, false, true, false, false, true, false, false, true, true, false, false, false, true, true, false, false, false, true, true, false, true, false, false, true, false, true, true, true, false, false, true, true, true, true, false, true, false, true, true, true, false, true, false, false, true, true, true, true, true, false, true, true, false, true]
set_option maxRecDepth 100000 in
theorem ellBits_val : bitsV ellBits 0 = ell := by decide +kernel
set_option maxRecDepth 100000 in
theorem ladN_ell : ladN 9 ellBits 1 0 9 1 = 0 := by decide +kernel
theorem nine_ne : phi 9 ≠ 0 := by decide
theorem ell_none : (mulP cA (at1 (phi 9)) ell).Z = 0 := by
  rw [← ellBits_val]
  refine ladN_val 9 nine_ne ellBits 0 1 0 9 1 P255_pos (by decide) ⟨?_, ?_⟩ ladN_ell
  · rw [mulP_zero]; exact Pt.sim.refl _
  · rw [show 0 + 1 = 1 from rfl, mulP_one]; exact Pt.sim.refl _
theorem ell_of_none {n : Nat} (h : (mulP cA (at1 (phi 9)) n).Z = 0) : ell ∣ n := by
  refine Classical.byContradiction fun hn => ?_
  have hg := none_gcd (line nine_ne) ell n ell_none h
  have e : Nat.gcd ell n = 1 := ell_prime.coprime hn
  rw [e, mulP_one] at hg
  exact oneDom hg
/-- A multiple of 9, by a number that the order does not divide, is no 0. -/
theorem nine_nz {n : Nat} {x : F} (hn : ¬ ell ∣ n) (h : IsX (mulP cA (at1 (phi 9)) n) x) : x ≠ 0 := by
  intro hx
  rcases h with ⟨hz, _⟩ | ⟨hz, h⟩
  · exact hn (ell_of_none hz)
  · have hX : (mulP cA (at1 (phi 9)) n).X = 0 := by rw [← h, hx]; grind -lia
    rcases ell_prime.euclid (ell_of_none (none_twice n hX)) with h2 | h2
    · exact absurd (Nat.le_of_dvd (by decide) h2) (by decide)
    · exact hn h2
/-- A key's number, as Mult takes it. -/
def clampK (n : Nat) : Nat := n % 2 ^ 254 / 8 * 8 + 2 ^ 254
theorem bit_of (n i : Nat) : (n / 2 ^ i % 2 = 1) ↔ n.testBit i = true := by
  rw [Nat.testBit_eq_decide_div_mod_eq, decide_eq_true_iff]
theorem clampK_test (n i : Nat) : (clampK n).testBit i = (decide (i = 254) || (decide (3 ≤ i) && decide (i < 254) && n.testBit i)) := by
  have hl : n % 2 ^ 254 / 8 * 8 < 2 ^ 254 := by omega
  have e : clampK n = 2 ^ 254 * 1 + n % 2 ^ 254 / 8 * 8 := by unfold clampK; omega
  have e8 : n % 2 ^ 254 / 8 * 8 = (n % 2 ^ 254) >>> 3 <<< 3 := by rw [Nat.shiftRight_eq_div_pow, Nat.shiftLeft_eq]
  rw [e, Nat.testBit_two_pow_mul_add 1 hl i]
  by_cases h : i < 254
  · rw [if_pos h, e8, Nat.testBit_shiftLeft, Nat.testBit_shiftRight, Nat.testBit_mod_two_pow]
    by_cases h3 : 3 ≤ i
    · simp [h, h3, show 3 + (i - 3) = i by omega, show i ≠ 254 by omega]
    · simp [h3, show i ≠ 254 by omega]
  · rw [if_neg h]
    by_cases h4 : i = 254
    · subst h4; simp
    · have h5 : Nat.testBit 1 (i - 254) = false := by
        cases h6 : Nat.testBit 1 (i - 254) with
        | false => rfl
        | true => exact absurd (Nat.testBit_one_eq_true_iff_self_eq_zero.1 h6) (by omega)
      simp [h, h4, h5]
theorem half_step (K i : Nat) : K / 2 ^ i = 2 * (K / 2 ^ (i + 1)) + K / 2 ^ i % 2 := by
  have : K / 2 ^ (i + 1) = K / 2 ^ i / 2 := by rw [Nat.pow_succ, Nat.div_div_eq_div_mul]
  omega
theorem byte_of (l : List UInt8) (q : Nat) (hq : q < l.length) : leN l / 256 ^ q % 256 = (at8 l q).toNat := by
  have h := leN_append (l.take q) (l.drop q)
  rw [List.take_append_drop] at h
  have hl : (l.take q).length = q := by simp; omega
  have ht := leN_lt (l.take q)
  rw [hl] at h ht
  rw [h, Nat.add_mul_div_left _ _ (Nat.pow_pos (by decide)), Nat.div_eq_of_lt ht, Nat.zero_add, List.drop_eq_getElem_cons hq, leN, at8_get l q hq]
  have := (l[q]).toNat_lt
  omega
/-- A bit of a key's number, by its byte. -/
theorem key_bit (l : List UInt8) (i : Nat) (hi : i / 8 < l.length) : leN l / 2 ^ i % 2 = (at8 l (i / 8)).toNat / 2 ^ (i % 8) % 2 := by
  rw [← byte_of l (i / 8) hi, bit_digit _ _ _ (Nat.mod_lt _ (by decide)), Nat.div_add_mod]
theorem clampK_even (n : Nat) : clampK n % 2 = 0 := by unfold clampK; omega
theorem clampK_lt (n : Nat) : clampK n < 2 ^ 255 := by unfold clampK; omega
theorem clampK_ell (n : Nat) : ¬ ell ∣ clampK n := by
  have e : clampK n = 8 * (n % 2 ^ 254 / 8 + 2 ^ 251) := by unfold clampK; omega
  have hl : ell = 7237005577332262213973186563042994240857116359379907606001950938285454250989 := rfl
  rw [e]
  intro h
  rcases ell_prime.euclid h with h | h
  · have := Nat.le_of_dvd (by decide) h
    omega
  · have := Nat.le_of_dvd (by omega) h
    omega
theorem clampK_four (n : Nat) : clampK n % 4 = 0 := by unfold clampK; omega
/-- A number of small order: four times it is nothing. -/
theorem small_zero {u x : F} (hu : u * u = 1) {n : Nat} (hn : n % 4 = 0) (h : IsX (mulP cA (at1 u) n) x) : x = 0 := by
  have hu0 : u ≠ 0 := fun e => by
    rw [e] at hu
    exact oneDom (by rw [← hu]; grind -lia)
  have h2 : (mulP cA (at1 u) 2).X = 0 := by
    rw [mulP_two]
    show (u * u - 1 * 1) * (u * u - 1 * 1) = 0
    rw [hu]
    grind -lia
  have h4 := none_mul (line hu0) (2 * 2) (none_twice 2 h2) (n / 4)
  rw [show n / 4 * (2 * 2) = n by omega] at h4
  rcases h with ⟨_, h⟩ | ⟨hz, _⟩
  · exact h
  · exact absurd h4 hz
theorem ell_mul {a b : Nat} (ha : ¬ ell ∣ a) (hb : ¬ ell ∣ b) : ¬ ell ∣ a * b := fun h => (ell_prime.euclid h).elim ha hb
end Go.Proofs.YtmdoojfcgbokjaaDoor
