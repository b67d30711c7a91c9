/- The ladder over numbers modulo P: multiples of multiples, and which are nothing. No program is named here. -/
import Derived.Test.YtmdoojfcgbokjaaDoorMathKum
import Derived.Test.YtmdoojfcgbokjaaDoorMathFe
namespace Go.Proofs.YtmdoojfcgbokjaaDoor
open Kum

/-- The number's class. -/
def phi (n : Nat) : F := Fin.ofNat _ n
theorem phi_val (n : Nat) : (phi n).val = n % P255 := rfl
theorem phi_inj {n m : Nat} (hn : n < P255) (hm : m < P255) (h : phi n = phi m) : n = m := by
  have := congrArg Fin.val h
  rw [phi_val, phi_val, Nat.mod_eq_of_lt hn, Nat.mod_eq_of_lt hm] at this
  exact this
theorem phi_mod (n : Nat) : phi (n % P255) = phi n := Fin.ext (by rw [phi_val, phi_val, Nat.mod_mod])
theorem phi_add (n m : Nat) : phi ((n + m) % P255) = phi n + phi m := by
  rw [phi_mod]
  exact Fin.ext (by rw [Fin.val_add]; exact Nat.add_mod n m P255)
theorem phi_mul (n m : Nat) : phi ((n * m) % P255) = phi n * phi m := by
  rw [phi_mod]
  exact Fin.ext (by rw [Fin.val_mul]; exact Nat.mul_mod n m P255)
theorem phi_sub (n m : Nat) (hm : m < P255) : phi ((n + (P255 - m)) % P255) = phi n - phi m := by
  have h : phi ((n + (P255 - m)) % P255) + phi m = phi n := by
    rw [← phi_add]
    exact Fin.ext (by rw [phi_val, phi_val, Nat.mod_mod, Nat.add_mod, Nat.mod_mod, ← Nat.add_mod, Nat.add_assoc, Nat.sub_add_cancel (Nat.le_of_lt hm), Nat.add_mod_right])
  rw [← h]
  grind -lia
theorem phi_zero {n : Nat} (hn : n < P255) : phi n = 0 ↔ n = 0 := by
  refine ⟨fun h => phi_inj hn P255_pos h, fun h => by rw [h]; rfl⟩
theorem phi_finv {n : Nat} (hn : n < P255) (h0 : n ≠ 0) : phi (finv n) * phi n = 1 := by
  rw [← phi_mul, finv_mul n hn h0]
  rfl

/-- X by Z; 0 if there is none. -/
def IsX (p : Pt) (x : F) : Prop := (p.Z = 0 ∧ x = 0) ∨ (p.Z ≠ 0 ∧ x * p.Z = p.X)
theorem IsX.sim {p q : Pt} {x : F} (h : IsX p x) (g : p.sim q) : IsX q x := by
  rcases h with ⟨h1, h2⟩ | ⟨h1, h2⟩
  · exact .inl ⟨g.z h1, h2⟩
  · refine .inr ⟨fun e => h1 (g.symm.z e), ?_⟩
    obtain ⟨s, t, hs, ht, g1, g2⟩ := g
    have e : t * (x * q.Z - q.X) = 0 := by
      have e1 : t * (x * q.Z - q.X) = x * (t * q.Z) - t * q.X := by grind -lia
      rw [e1, ← g1, ← g2, ← h2]
      grind -lia
    exact sub_zero (zero_of ht e)
theorem IsX.ext {p : Pt} {x y : F} (h : IsX p x) (g : IsX p y) : x = y := by
  rcases h with ⟨h1, h2⟩ | ⟨h1, h2⟩
  · rcases g with ⟨g1, g2⟩ | ⟨g1, g2⟩
    · rw [h2, g2]
    · exact absurd h1 g1
  · rcases g with ⟨g1, g2⟩ | ⟨g1, g2⟩
    · exact absurd g1 h1
    · have e : p.Z * (x - y) = 0 := by
        have e1 : p.Z * (x - y) = x * p.Z - y * p.Z := by grind -lia
        rw [e1, h2, g2]
        grind -lia
      exact sub_zero (zero_of h1 e)
/-- The curve's number. -/
def cA : F := 486662
def c24 : F := 121665
theorem cA_eq : cA = 4 * c24 + 2 := by decide
theorem cGood : Kum.Good cA := ⟨by decide, by decide, by decide⟩
def at1 (u : F) : Pt := ⟨u, 1⟩
theorem line {u : F} (hu : u ≠ 0) : Line cA (at1 u) := ⟨cGood, hu, oneDom⟩
/-- x is what Mult tells of the number K and u. -/
def MultX (K : Nat) (u x : F) : Prop := (u = 0 ∧ x = 0) ∨ (u ≠ 0 ∧ IsX (mulP cA (at1 u) K) x)
theorem MultX.ext {K : Nat} {u x y : F} (h : MultX K u x) (g : MultX K u y) : x = y := by
  rcases h with ⟨h1, h2⟩ | ⟨h1, h2⟩
  · rcases g with ⟨g1, g2⟩ | ⟨g1, g2⟩
    · rw [h2, g2]
    · exact absurd h1 g1
  · rcases g with ⟨g1, g2⟩ | ⟨g1, g2⟩
    · exact absurd g1 h1
    · exact h2.ext g2
/-- A multiple of a multiple. -/
theorem MultX.mul {a b : Nat} {u x y : F} (hu : u ≠ 0) (ha : a % 2 = 0) (hb : MultX b u y) (h : MultX a y x) : IsX (mulP cA (at1 u) (a * b)) x := by
  have hL := line hu
  rcases hb with ⟨e, _⟩ | ⟨_, hb⟩
  · exact absurd e hu
  rcases hb with ⟨hz, hy⟩ | ⟨hz, hy⟩
  · rcases h with ⟨_, hx⟩ | ⟨e, _⟩
    · exact .inl ⟨none_mul hL b hz a, hx⟩
    · exact absurd hy e
  · rcases h with ⟨e, hx⟩ | ⟨hy0, hx⟩
    · have hX : (mulP cA (at1 u) b).X = 0 := by rw [← hy, e]; grind -lia
      refine .inl ⟨?_, hx⟩
      have h2 := none_mul hL (2 * b) (none_twice b hX) (a / 2)
      rw [← Nat.mul_assoc, show a / 2 * 2 = a by omega] at h2
      exact h2
    · refine hx.sim (mul_mul hL (line hy0) b ⟨(mulP cA (at1 u) b).Z, 1, hz, oneDom, ?_, ?_⟩ a)
      · show (mulP cA (at1 u) b).Z * y = 1 * (mulP cA (at1 u) b).X
        rw [← hy]
        grind -lia
      · show (mulP cA (at1 u) b).Z * 1 = 1 * (mulP cA (at1 u) b).Z
        grind -lia
theorem MultX.comm {a b : Nat} {u x x' y y' : F} (ha : a % 2 = 0) (hb : b % 2 = 0) (h1 : MultX b u y) (h2 : MultX a y x) (g1 : MultX a u y') (g2 : MultX b y' x') : x = x' := by
  by_cases hu : u = 0
  · have zero : ∀ {K : Nat} {v z : F}, v = 0 → MultX K v z → z = 0 := fun hv h => by
      rcases h with ⟨_, h⟩ | ⟨h, _⟩
      · exact h
      · exact absurd hv h
    rw [zero (zero hu h1) h2, zero (zero hu g1) g2]
  · have e1 := MultX.mul hu ha h1 h2
    have e2 := MultX.mul hu hb g1 g2
    rw [Nat.mul_comm] at e2
    exact e1.ext e2
end Go.Proofs.YtmdoojfcgbokjaaDoor
