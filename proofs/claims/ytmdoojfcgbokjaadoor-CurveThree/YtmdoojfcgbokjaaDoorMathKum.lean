/- Points of a line, told by two numbers each, and what the sum and the difference of two have in common: multiples of multiples may come in any order. No program is named here. -/
import Derived.Test.YtmdoojfcgbokjaaDoorMathField
namespace Go.Proofs.YtmdoojfcgbokjaaDoor
namespace Kum
/-- Numbers modulo a prime. -/
abbrev F := Fin 57896044618658097711785492504343953926634992332820282019728792003956564819949
/-- A point, by two numbers: X by Z. -/
structure Pt where
  X : F
  Z : F
/-- a t t - b t + c. -/
structure Qf where
  a : F
  b : F
  c : F
/-- A form of the fourth degree. -/
structure Qt where
  a : F
  b : F
  c : F
  d : F
  e : F
def Pt.nz (p : Pt) : Prop := ¬ (p.X = 0 ∧ p.Z = 0)
def Qf.nz (p : Qf) : Prop := ¬ (p.a = 0 ∧ p.b = 0 ∧ p.c = 0)
def Pt.sim (p q : Pt) : Prop := ∃ s t : F, s ≠ 0 ∧ t ≠ 0 ∧ s * p.X = t * q.X ∧ s * p.Z = t * q.Z
def Qf.sim (p q : Qf) : Prop := ∃ s t : F, s ≠ 0 ∧ t ≠ 0 ∧ s * p.a = t * q.a ∧ s * p.b = t * q.b ∧ s * p.c = t * q.c
def Qt.sim (p q : Qt) : Prop := ∃ s t : F, s ≠ 0 ∧ t ≠ 0 ∧ s * p.a = t * q.a ∧ s * p.b = t * q.b ∧ s * p.c = t * q.c ∧ s * p.d = t * q.d ∧ s * p.e = t * q.e
/-- The product of two forms. -/
def Qf.mul (p q : Qf) : Qt := ⟨p.a * q.a, p.a * q.b + p.b * q.a, p.a * q.c + p.b * q.b + p.c * q.a, p.b * q.c + p.c * q.b, p.c * q.c⟩
/-- The form that is 0 at two points. -/
def pair (p q : Pt) : Qf := ⟨p.Z * q.Z, p.X * q.Z + q.X * p.Z, p.X * q.X⟩
/-- The form that is 0 at the sum of two points, and at their difference. -/
def com (A : F) (p q : Pt) : Qf :=
  ⟨(p.X * q.Z - q.X * p.Z) * (p.X * q.Z - q.X * p.Z), 2 * ((p.X * q.Z + q.X * p.Z) * (p.X * q.X + p.Z * q.Z) + 2 * A * (p.X * q.X * p.Z * q.Z)), (p.X * q.X - p.Z * q.Z) * (p.X * q.X - p.Z * q.Z)⟩
def O : Pt := ⟨1, 0⟩
def dbl (A : F) (p : Pt) : Pt := ⟨(p.X * p.X - p.Z * p.Z) * (p.X * p.X - p.Z * p.Z), 4 * (p.X * p.Z) * (p.X * p.X + A * (p.X * p.Z) + p.Z * p.Z)⟩
def dad (r p q : Pt) : Pt := ⟨r.Z * ((p.X * q.X - p.Z * q.Z) * (p.X * q.X - p.Z * q.Z)), r.X * ((p.X * q.Z - q.X * p.Z) * (p.X * q.Z - q.X * p.Z))⟩

theorem Pt.sim.symm {p q : Pt} (h : p.sim q) : q.sim p := by
  obtain ⟨s, t, hs, ht, h1, h2⟩ := h
  exact ⟨t, s, ht, hs, h1.symm, h2.symm⟩
theorem Qf.sim.symm {p q : Qf} (h : p.sim q) : q.sim p := by
  obtain ⟨s, t, hs, ht, h1, h2, h3⟩ := h
  exact ⟨t, s, ht, hs, h1.symm, h2.symm, h3.symm⟩
theorem Qt.sim.symm {p q : Qt} (h : p.sim q) : q.sim p := by
  obtain ⟨s, t, hs, ht, h1, h2, h3, h4, h5⟩ := h
  exact ⟨t, s, ht, hs, h1.symm, h2.symm, h3.symm, h4.symm, h5.symm⟩
theorem sub_zero {a b : F} (h : a - b = 0) : a = b := by grind -lia
theorem Qf.mul_comm (p q : Qf) : p.mul q = q.mul p := by
  simp only [Qf.mul, Qt.mk.injEq]
  refine ⟨?_, ?_, ?_, ?_, ?_⟩ <;> grind -lia
theorem pair_comm (p q : Pt) : pair p q = pair q p := by
  simp only [pair, Qf.mk.injEq]
  refine ⟨?_, ?_, ?_⟩ <;> grind -lia
theorem pair_mul (p q r s : Pt) : (pair p q).mul (pair r s) = (pair p r).mul (pair q s) := by
  simp only [pair, Qf.mul, Qt.mk.injEq]
  refine ⟨?_, ?_, ?_, ?_, ?_⟩ <;> grind -lia
theorem nz_left {p q : Pt} (h : (pair p q).nz) : p.nz := fun ⟨h1, h2⟩ => h (by simp only [pair, h1, h2]; refine ⟨?_, ?_, ?_⟩ <;> grind -lia)
theorem com_comm (A : F) (p q : Pt) : com A p q = com A q p := by
  simp only [com, Qf.mk.injEq]
  refine ⟨?_, ?_, ?_⟩ <;> grind -lia
theorem com_O (A : F) (p : Pt) : com A p O = pair p p := by
  simp only [com, pair, O, Qf.mk.injEq]
  refine ⟨?_, ?_, ?_⟩ <;> grind -lia
theorem com_self (A : F) (p : Pt) : com A p p = pair O (dbl A p) := by
  simp only [com, pair, O, dbl, Qf.mk.injEq]
  refine ⟨?_, ?_, ?_⟩ <;> grind -lia
/-- The product of what two points have in common with a third one, by the form that is 0 at both. -/
def gq (A : F) (p : Pt) (v : Qf) : Qt :=
  ⟨(v.c * (p.Z * p.Z) - v.b * (p.X * p.Z) + v.a * (p.X * p.X)) * (v.c * (p.Z * p.Z) - v.b * (p.X * p.Z) + v.a * (p.X * p.X)),
   2 * (2 * (p.X * p.Z) * (p.Z * p.Z) * (v.c * v.c) + ((p.Z * p.Z) * (p.X * p.X + p.Z * p.Z + 2 * A * (p.X * p.Z)) - 2 * (p.X * p.Z) * (p.X * p.Z)) * (v.b * v.c) + (p.X * p.Z) * (p.X * p.X + p.Z * p.Z) * (v.b * v.b - 2 * (v.a * v.c)) - 4 * (p.X * p.Z) * (p.X * p.X + p.Z * p.Z + 2 * A * (p.X * p.Z)) * (v.a * v.c) + ((p.X * p.X) * (p.X * p.X + p.Z * p.Z + 2 * A * (p.X * p.Z)) - 2 * (p.X * p.Z) * (p.X * p.Z)) * (v.a * v.b) + 2 * (p.X * p.Z) * (p.X * p.X) * (v.a * v.a)),
   2 * (p.X * p.X) * (p.Z * p.Z) * (v.c * v.c) - 2 * (p.X * p.Z) * (p.X * p.X + p.Z * p.Z) * (v.b * v.c) + (p.X * p.X * (p.X * p.X) + p.Z * p.Z * (p.Z * p.Z)) * (v.b * v.b - 2 * (v.a * v.c)) + 8 * ((p.X * p.Z) * (p.X * p.Z)) * (v.a * v.c) - 2 * (p.X * p.Z) * (p.X * p.X + p.Z * p.Z) * (v.a * v.b) + 2 * (p.X * p.X) * (p.Z * p.Z) * (v.a * v.a)
     + 4 * ((p.X * p.Z) * (p.X * p.Z) * (v.c * v.c) + (p.X * p.Z) * (p.X * p.X + p.Z * p.Z + 2 * A * (p.X * p.Z)) * (v.b * v.c) + (p.X * p.Z) * (p.X * p.Z) * (v.b * v.b - 2 * (v.a * v.c)) + (p.X * p.X + p.Z * p.Z + 2 * A * (p.X * p.Z)) * (p.X * p.X + p.Z * p.Z + 2 * A * (p.X * p.Z)) * (v.a * v.c) + (p.X * p.Z) * (p.X * p.X + p.Z * p.Z + 2 * A * (p.X * p.Z)) * (v.a * v.b) + (p.X * p.Z) * (p.X * p.Z) * (v.a * v.a)),
   2 * (2 * (p.X * p.Z) * (p.X * p.X) * (v.c * v.c) + ((p.X * p.X) * (p.X * p.X + p.Z * p.Z + 2 * A * (p.X * p.Z)) - 2 * (p.X * p.Z) * (p.X * p.Z)) * (v.b * v.c) + (p.X * p.Z) * (p.X * p.X + p.Z * p.Z) * (v.b * v.b - 2 * (v.a * v.c)) - 4 * (p.X * p.Z) * (p.X * p.X + p.Z * p.Z + 2 * A * (p.X * p.Z)) * (v.a * v.c) + ((p.Z * p.Z) * (p.X * p.X + p.Z * p.Z + 2 * A * (p.X * p.Z)) - 2 * (p.X * p.Z) * (p.X * p.Z)) * (v.a * v.b) + 2 * (p.X * p.Z) * (p.Z * p.Z) * (v.a * v.a)),
   (v.c * (p.X * p.X) - v.b * (p.X * p.Z) + v.a * (p.Z * p.Z)) * (v.c * (p.X * p.X) - v.b * (p.X * p.Z) + v.a * (p.Z * p.Z))⟩
theorem gq_pair (A : F) (p q s : Pt) : (com A p s).mul (com A q s) = gq A s (pair p q) := by
  simp only [com, Qf.mul, gq, pair, Qt.mk.injEq]
  refine ⟨?_, ?_, ?_, ?_, ?_⟩ <;> grind -lia
theorem gq_com (A : F) (p q s : Pt) : gq A s (com A p q) = gq A p (com A q s) := by
  simp only [com, gq, Qt.mk.injEq]
  refine ⟨?_, ?_, ?_, ?_, ?_⟩ <;> grind -lia
theorem gq_scale (A k : F) (p : Pt) (v : Qf) : gq A p ⟨k * v.a, k * v.b, k * v.c⟩ = ⟨k * k * (gq A p v).a, k * k * (gq A p v).b, k * k * (gq A p v).c, k * k * (gq A p v).d, k * k * (gq A p v).e⟩ := by
  simp only [gq, Qt.mk.injEq]
  refine ⟨?_, ?_, ?_, ?_, ?_⟩ <;> grind -lia
/-- 0, if the sum of three points is (or that of two and the third one's opposite). -/
def three (A : F) (p q r : Pt) : F := (com A p q).c * (r.Z * r.Z) - (com A p q).b * (r.X * r.Z) + (com A p q).a * (r.X * r.X)
theorem three_turn (A : F) (p q r : Pt) : three A p q r = three A p r q := by
  simp only [three, com]
  grind -lia
theorem three_pair (p q : Pt) : (pair p q).c * (p.Z * p.Z) - (pair p q).b * (p.X * p.Z) + (pair p q).a * (p.X * p.X) = 0 := by
  simp only [pair]
  grind -lia
theorem r1 (a b c d : F) : (a * b) * (c * d) = (a * d) * (b * c) := by grind -lia
theorem r2 (a b c : F) : a * b * c = a * (b * c) := by grind -lia
theorem r3 (A m : F) (h : 2 * ((m + m) * (m + m) + 2 * A * (m * m)) = 0) : (2 * 2 * (A + 2)) * (m * m) = 0 := by grind -lia
theorem r4 (A m : F) (h : 2 * ((m + m) * (-m + -m) + 2 * A * (-m * -m)) = 0) : (2 * 2 * (A - 2)) * (m * m) = 0 := by grind -lia
theorem mulDom (a b : F) (h : a * b = 0) : a = 0 ∨ b = 0 := by
  have h1 : (a * b).val = 0 := by rw [h]; rfl
  rw [Fin.val_mul] at h1
  have h2 : P255 ∣ a.val * b.val := Nat.dvd_of_mod_eq_zero h1
  rcases P255_prime.euclid h2 with h3 | h3
  · exact .inl (Fin.ext (Nat.eq_zero_of_dvd_of_lt h3 a.isLt))
  · exact .inr (Fin.ext (Nat.eq_zero_of_dvd_of_lt h3 b.isLt))
theorem oneDom : (1 : F) ≠ 0 := by decide
theorem mul_ne {a b : F} (ha : a ≠ 0) (hb : b ≠ 0) : a * b ≠ 0 := fun h => (mulDom a b h).elim ha hb
theorem zero_of {a b : F} (ha : a ≠ 0) (h : a * b = 0) : b = 0 := (mulDom a b h).resolve_left ha
theorem Pt.sim.refl (p : Pt) : p.sim p := ⟨1, 1, oneDom, oneDom, rfl, rfl⟩
theorem Qf.sim.refl (p : Qf) : p.sim p := ⟨1, 1, oneDom, oneDom, rfl, rfl, rfl⟩
theorem Pt.sim.trans {p q r : Pt} (h : p.sim q) (g : q.sim r) : p.sim r := by
  obtain ⟨s, t, hs, ht, h1, h2⟩ := h
  obtain ⟨s', t', hs', ht', g1, g2⟩ := g
  exact ⟨s' * s, t * t', mul_ne hs' hs, mul_ne ht ht', by grind -lia, by grind -lia⟩
theorem Qf.sim.trans {p q r : Qf} (h : p.sim q) (g : q.sim r) : p.sim r := by
  obtain ⟨s, t, hs, ht, h1, h2, h3⟩ := h
  obtain ⟨s', t', hs', ht', g1, g2, g3⟩ := g
  exact ⟨s' * s, t * t', mul_ne hs' hs, mul_ne ht ht', by grind -lia, by grind -lia, by grind -lia⟩
theorem Qt.sim.trans {p q r : Qt} (h : p.sim q) (g : q.sim r) : p.sim r := by
  obtain ⟨s, t, hs, ht, h1, h2, h3, h4, h5⟩ := h
  obtain ⟨s', t', hs', ht', g1, g2, g3, g4, g5⟩ := g
  exact ⟨s' * s, t * t', mul_ne hs' hs, mul_ne ht ht', by grind -lia, by grind -lia, by grind -lia, by grind -lia, by grind -lia⟩
theorem Pt.sim.nz {p q : Pt} (h : p.sim q) (hp : p.nz) : q.nz := by
  obtain ⟨s, t, hs, ht, h1, h2⟩ := h
  rintro ⟨e1, e2⟩
  exact hp ⟨zero_of hs (by rw [h1, e1]; grind -lia), zero_of hs (by rw [h2, e2]; grind -lia)⟩
theorem Qf.sim.nz {p q : Qf} (h : p.sim q) (hp : p.nz) : q.nz := by
  obtain ⟨s, t, hs, ht, h1, h2, h3⟩ := h
  rintro ⟨e1, e2, e3⟩
  exact hp ⟨zero_of hs (by rw [h1, e1]; grind -lia), zero_of hs (by rw [h2, e2]; grind -lia), zero_of hs (by rw [h3, e3]; grind -lia)⟩
theorem Qf.mul_sim {p p' q q' : Qf} (h : p.sim p') (g : q.sim q') : (p.mul q).sim (p'.mul q') := by
  obtain ⟨s, t, hs, ht, h1, h2, h3⟩ := h
  obtain ⟨s', t', hs', ht', g1, g2, g3⟩ := g
  refine ⟨s * s', t * t', mul_ne hs hs', mul_ne ht ht', ?_, ?_, ?_, ?_, ?_⟩ <;> simp only [Qf.mul] <;> grind -lia
theorem mul_zero_of {p w : Qf} (hp : p.nz) (h1 : p.a * w.a = 0) (h2 : p.a * w.b + p.b * w.a = 0) (h3 : p.a * w.c + p.b * w.b + p.c * w.a = 0) (h4 : p.b * w.c + p.c * w.b = 0) (h5 : p.c * w.c = 0) : w.a = 0 ∧ w.b = 0 ∧ w.c = 0 := by
  by_cases ha : p.a = 0
  · by_cases hb : p.b = 0
    · have hc : p.c ≠ 0 := fun hc => hp ⟨ha, hb, hc⟩
      exact ⟨zero_of hc (by grind -lia), zero_of hc (by grind -lia), zero_of hc (by grind -lia)⟩
    · have e0 : w.a = 0 := zero_of hb (by grind -lia)
      have e1 : w.b = 0 := zero_of hb (by grind -lia)
      exact ⟨e0, e1, zero_of hb (by grind -lia)⟩
  · have e0 : w.a = 0 := zero_of ha h1
    have e1 : w.b = 0 := zero_of ha (by grind -lia)
    exact ⟨e0, e1, zero_of ha (by grind -lia)⟩
/-- A form that is not 0 may be taken away. -/
theorem Qf.mul_cancel {p q q' : Qf} (hp : p.nz) (h : (p.mul q).sim (p.mul q')) : q.sim q' := by
  obtain ⟨s, t, hs, ht, h1, h2, h3, h4, h5⟩ := h
  simp only [Qf.mul] at h1 h2 h3 h4 h5
  obtain ⟨e1, e2, e3⟩ := mul_zero_of (w := ⟨s * q.a - t * q'.a, s * q.b - t * q'.b, s * q.c - t * q'.c⟩) hp (by clear h2 h3 h4 h5; grind -lia) (by clear h1 h3 h4 h5; grind -lia) (by clear h1 h2 h4 h5; grind -lia) (by clear h1 h2 h3 h5; grind -lia) (by clear h1 h2 h3 h4; grind -lia)
  exact ⟨s, t, hs, ht, sub_zero e1, sub_zero e2, sub_zero e3⟩
theorem pair_zero {p q : Pt} (hp : p.nz) (h1 : p.Z * q.Z = 0) (h2 : p.X * q.Z + q.X * p.Z = 0) (h3 : p.X * q.X = 0) : q.X = 0 ∧ q.Z = 0 := by
  by_cases hz : p.Z = 0
  · have hx : p.X ≠ 0 := fun hx => hp ⟨hx, hz⟩
    exact ⟨zero_of hx h3, zero_of hx (by grind -lia)⟩
  · have e : q.Z = 0 := zero_of hz h1
    exact ⟨zero_of hz (by grind -lia), e⟩
theorem pair_nz {p q : Pt} (hp : p.nz) (hq : q.nz) : (pair p q).nz := fun ⟨h1, h2, h3⟩ => hq (pair_zero hp h1 h2 h3)
theorem pair_cancel {p q q' : Pt} (hp : p.nz) (h : (pair p q).sim (pair p q')) : q.sim q' := by
  obtain ⟨s, t, hs, ht, h1, h2, h3⟩ := h
  simp only [pair] at h1 h2 h3
  obtain ⟨e1, e2⟩ := pair_zero (q := ⟨s * q.X - t * q'.X, s * q.Z - t * q'.Z⟩) hp (by clear h2 h3; grind -lia) (by clear h1 h3; grind -lia) (by clear h1 h2; grind -lia)
  exact ⟨s, t, hs, ht, sub_zero e1, sub_zero e2⟩
theorem pair_sim {p p' q q' : Pt} (h : p.sim p') (g : q.sim q') : (pair p q).sim (pair p' q') := by
  obtain ⟨s, t, hs, ht, h1, h2⟩ := h
  obtain ⟨s', t', hs', ht', g1, g2⟩ := g
  refine ⟨s * s', t * t', mul_ne hs hs', mul_ne ht ht', ?_, ?_, ?_⟩ <;> simp only [pair] <;> grind -lia
theorem com_sim (A : F) {p p' q q' : Pt} (h : p.sim p') (g : q.sim q') : (com A p q).sim (com A p' q') := by
  obtain ⟨s, t, hs, ht, h1, h2⟩ := h
  obtain ⟨s', t', hs', ht', g1, g2⟩ := g
  refine ⟨(s * s') * (s * s'), (t * t') * (t * t'), mul_ne (mul_ne hs hs') (mul_ne hs hs'), mul_ne (mul_ne ht ht') (mul_ne ht ht'), ?_, ?_, ?_⟩
  · have e1 : (s * p.X) * (s' * q.Z) = (t * p'.X) * (t' * q'.Z) := by rw [h1, g2]
    have e2 : (s * p.Z) * (s' * q.X) = (t * p'.Z) * (t' * q'.X) := by rw [h2, g1]
    have e3 : (s * s') * (p.X * q.Z - q.X * p.Z) = (t * t') * (p'.X * q'.Z - q'.X * p'.Z) := by grind -lia
    have f1 : (s * s') * (s * s') * (com A p q).a = ((s * s') * (p.X * q.Z - q.X * p.Z)) * ((s * s') * (p.X * q.Z - q.X * p.Z)) := by simp only [com]; grind -lia
    have f2 : (t * t') * (t * t') * (com A p' q').a = ((t * t') * (p'.X * q'.Z - q'.X * p'.Z)) * ((t * t') * (p'.X * q'.Z - q'.X * p'.Z)) := by simp only [com]; grind -lia
    rw [f1, f2, e3]
  · have e1 : (s * s') * (p.X * q.Z + q.X * p.Z) = (t * t') * (p'.X * q'.Z + q'.X * p'.Z) := by
      have e1 : (s * p.X) * (s' * q.Z) = (t * p'.X) * (t' * q'.Z) := by rw [h1, g2]
      have e2 : (s * p.Z) * (s' * q.X) = (t * p'.Z) * (t' * q'.X) := by rw [h2, g1]
      grind -lia
    have e2 : (s * s') * (p.X * q.X + p.Z * q.Z) = (t * t') * (p'.X * q'.X + p'.Z * q'.Z) := by
      have e1 : (s * p.X) * (s' * q.X) = (t * p'.X) * (t' * q'.X) := by rw [h1, g1]
      have e2 : (s * p.Z) * (s' * q.Z) = (t * p'.Z) * (t' * q'.Z) := by rw [h2, g2]
      grind -lia
    have e3 : (s * s') * (s * s') * (p.X * q.X * p.Z * q.Z) = (t * t') * (t * t') * (p'.X * q'.X * p'.Z * q'.Z) := by
      have e1 : ((s * p.X) * (s' * q.X)) * ((s * p.Z) * (s' * q.Z)) = ((t * p'.X) * (t' * q'.X)) * ((t * p'.Z) * (t' * q'.Z)) := by rw [h1, g1, h2, g2]
      grind -lia
    have f1 : (s * s') * (s * s') * (com A p q).b = 2 * (((s * s') * (p.X * q.Z + q.X * p.Z)) * ((s * s') * (p.X * q.X + p.Z * q.Z)) + 2 * A * ((s * s') * (s * s') * (p.X * q.X * p.Z * q.Z))) := by simp only [com]; grind -lia
    have f2 : (t * t') * (t * t') * (com A p' q').b = 2 * (((t * t') * (p'.X * q'.Z + q'.X * p'.Z)) * ((t * t') * (p'.X * q'.X + p'.Z * q'.Z)) + 2 * A * ((t * t') * (t * t') * (p'.X * q'.X * p'.Z * q'.Z))) := by simp only [com]; grind -lia
    rw [f1, f2, e1, e2, e3]
  · have e3 : (s * s') * (p.X * q.X - p.Z * q.Z) = (t * t') * (p'.X * q'.X - p'.Z * q'.Z) := by
      have e1 : (s * p.X) * (s' * q.X) = (t * p'.X) * (t' * q'.X) := by rw [h1, g1]
      have e2 : (s * p.Z) * (s' * q.Z) = (t * p'.Z) * (t' * q'.Z) := by rw [h2, g2]
      grind -lia
    have f1 : (s * s') * (s * s') * (com A p q).c = ((s * s') * (p.X * q.X - p.Z * q.Z)) * ((s * s') * (p.X * q.X - p.Z * q.Z)) := by simp only [com]; grind -lia
    have f2 : (t * t') * (t * t') * (com A p' q').c = ((t * t') * (p'.X * q'.X - p'.Z * q'.Z)) * ((t * t') * (p'.X * q'.X - p'.Z * q'.Z)) := by simp only [com]; grind -lia
    rw [f1, f2, e3]
/-- What A must be: then no form is 0. -/
structure Good (A : F) : Prop where
  two : (2 : F) ≠ 0
  plus : A + 2 ≠ 0
  minus : A - 2 ≠ 0
theorem com_nz {A : F} (hA : Good A) {p q : Pt} (hp : p.nz) (hq : q.nz) : (com A p q).nz := by
  rintro ⟨h0, h1, h2⟩
  simp only [com] at h0 h1 h2
  have e0 : p.X * q.Z - q.X * p.Z = 0 := (mulDom _ _ h0).elim id id
  have e2 : p.X * q.X - p.Z * q.Z = 0 := (mulDom _ _ h2).elim id id
  have f0 : q.X * p.Z = p.X * q.Z := by grind -lia
  have f2 : p.Z * q.Z = p.X * q.X := by grind -lia
  generalize hm : p.X * q.Z = m at *
  generalize hn : p.X * q.X = n at *
  have e4 : n * n = m * m := by
    have : (p.X * q.X) * (p.Z * q.Z) = (p.X * q.Z) * (q.X * p.Z) := r1 _ _ _ _
    rw [hn, f2, hm, f0] at this
    exact this
  have e5 : n * p.Z * q.Z = n * n := by
    have : n * p.Z * q.Z = n * (p.Z * q.Z) := r2 _ _ _
    rw [this, f2]
  have e6 : (n - m) * (n + m) = 0 := by grind -lia
  have h4 : (2 : F) * 2 ≠ 0 := mul_ne hA.two hA.two
  have hm0 : m = 0 := by
    rcases mulDom _ _ e6 with h | h
    · have en : n = m := by grind -lia
      have : (2 * 2 * (A + 2)) * (m * m) = 0 := by
        rw [f0, f2, e5, en] at h1
        exact r3 A m h1
      exact (mulDom _ _ (zero_of (mul_ne h4 hA.plus) this)).elim id id
    · have en : n = - m := by grind -lia
      have : (2 * 2 * (A - 2)) * (m * m) = 0 := by
        rw [f0, f2, e5, en] at h1
        exact r4 A m h1
      exact (mulDom _ _ (zero_of (mul_ne h4 hA.minus) this)).elim id id
  have hn0 : n = 0 := (mulDom _ _ (show n * n = 0 by rw [e4, hm0]; grind -lia)).elim id id
  rw [hm0] at hm f0
  rw [hn0] at hn f2
  by_cases hx : p.X = 0
  · have hz : p.Z ≠ 0 := fun hz => hp ⟨hx, hz⟩
    exact hq ⟨zero_of hz (by grind -lia), zero_of hz f2⟩
  · exact hq ⟨zero_of hx hn, zero_of hx hm⟩
theorem gq_sim (A : F) (p : Pt) {v v' : Qf} (h : v.sim v') : (gq A p v).sim (gq A p v') := by
  obtain ⟨s, t, hs, ht, h1, h2, h3⟩ := h
  have e1 := gq_scale A s p v
  have e2 := gq_scale A t p v'
  rw [h1, h2, h3, e2] at e1
  injection e1 with f1 f2 f3 f4 f5
  exact ⟨s * s, t * t, mul_ne hs hs, mul_ne ht ht, f1.symm, f2.symm, f3.symm, f4.symm, f5.symm⟩
/-- The one law: of p, q and s, whose sums and differences are known two by two. -/
theorem four (A : F) {p q s P M Q N : Pt} (h : (pair P M).sim (com A p q)) (g : (pair Q N).sim (com A q s)) : ((com A P s).mul (com A M s)).sim ((com A p Q).mul (com A p N)) := by
  rw [gq_pair, com_comm A p Q, com_comm A p N, gq_pair]
  have h1 := gq_sim A s h
  have h2 := gq_sim A p g
  rw [← gq_com A p q s] at h2
  exact h1.trans h2.symm
theorem three_zero (A : F) {p q r M : Pt} (h : (com A p r).sim (pair q M)) : three A p q r = 0 := by
  rw [three_turn]
  obtain ⟨s, t, hs, ht, h1, h2, h3⟩ := h
  have e : s * three A p r q = t * ((pair q M).c * (q.Z * q.Z) - (pair q M).b * (q.X * q.Z) + (pair q M).a * (q.X * q.X)) := by
    unfold three
    grind -lia
  rw [three_pair] at e
  exact zero_of hs (by rw [e]; grind -lia)
theorem dad_pair {A : F} {p q r : Pt} (hx : r.X ≠ 0) (hz : r.Z ≠ 0) (h : three A p q r = 0) : (pair (dad r p q) r).sim (com A p q) := by
  refine ⟨1, r.X * r.Z, oneDom, mul_ne hx hz, ?_, ?_, ?_⟩
  · simp only [pair, dad, com]
    grind -lia
  · unfold three at h
    have e : (pair (dad r p q) r).b = (com A p q).c * (r.Z * r.Z) + (com A p q).a * (r.X * r.X) := by
      simp only [pair, dad, com]
      grind -lia
    rw [e]
    grind -lia
  · simp only [pair, dad, com]
    grind -lia
theorem O_nz : (O : Pt).nz := fun h => oneDom h.1
/-- The multiples of a point. -/
def mulP (A : F) (r : Pt) (n : Nat) : Pt :=
  if h0 : n = 0 then O else if h1 : n = 1 then r else if h2 : n % 2 = 0 then dbl A (mulP A r (n / 2)) else dad r (mulP A r (n / 2)) (mulP A r (n / 2 + 1))
theorem mulP_zero (A : F) (r : Pt) : mulP A r 0 = O := by rw [mulP]; simp
theorem mulP_one (A : F) (r : Pt) : mulP A r 1 = r := by rw [mulP]; simp
theorem mulP_even (A : F) (r : Pt) (m : Nat) (hm : 1 ≤ m) : mulP A r (2 * m) = dbl A (mulP A r m) := by
  rw [mulP, dif_neg (by omega), dif_neg (by omega), dif_pos (by omega), show 2 * m / 2 = m by omega]
theorem mulP_odd (A : F) (r : Pt) (m : Nat) (hm : 1 ≤ m) : mulP A r (2 * m + 1) = dad r (mulP A r m) (mulP A r (m + 1)) := by
  rw [mulP, dif_neg (by omega), dif_neg (by omega), dif_neg (by omega), show (2 * m + 1) / 2 = m by omega]
/-- A line and a point on it. -/
structure Line (A : F) (r : Pt) : Prop where
  good : Good A
  x : r.X ≠ 0
  z : r.Z ≠ 0
theorem Line.nz {A : F} {r : Pt} (h : Line A r) : r.nz := fun e => h.x e.1
theorem mulP_two (A : F) (r : Pt) : mulP A r 2 = dbl A r := by
  have := mulP_even A r 1 (by omega)
  rw [mulP_one] at this
  exact this
theorem dbl_O (A : F) : dbl A O = O := by
  simp only [dbl, O, Pt.mk.injEq]
  refine ⟨?_, ?_⟩ <;> grind -lia
theorem mulP_twice (A : F) (r : Pt) (m : Nat) : mulP A r (2 * m) = dbl A (mulP A r m) := by
  by_cases h : m = 0
  · rw [h, Nat.mul_zero, mulP_zero, dbl_O]
  · exact mulP_even A r m (by omega)
/-- The one next to m, and the one ahead of it. -/
def Next (A : F) (r : Pt) (m : Nat) : Prop := (com A (mulP A r m) r).sim (pair (mulP A r (m + 1)) (mulP A r (m - 1)))
theorem odd_pair {A : F} {r : Pt} (hL : Line A r) (m : Nat) (h : m = 0 ∨ (1 ≤ m ∧ Next A r m)) : (pair (mulP A r (2 * m + 1)) r).sim (com A (mulP A r m) (mulP A r (m + 1))) := by
  rcases h with rfl | ⟨h1, h⟩
  · rw [mulP_zero, show 2 * 0 + 1 = 1 from rfl, mulP_one, com_comm, com_O]
    exact Qf.sim.refl _
  · rw [mulP_odd A r m h1]
    exact dad_pair hL.x hL.z (three_zero A h)
theorem dbl_nz {A : F} (hA : Good A) {p : Pt} (hp : p.nz) : (dbl A p).nz := by
  have h := com_nz hA hp hp
  rw [com_self, pair_comm] at h
  exact nz_left h
theorem apart {A : F} {r : Pt} (hL : Line A r) (k : Nat) (hn : ∀ j, j ≤ k → (mulP A r j).nz) (hB : ∀ j, 1 ≤ j → j < k → Next A r j) : ∀ m, 1 ≤ m → m < k → (com A (mulP A r (m + 1)) (mulP A r (m - 1))).sim (pair (mulP A r (2 * m)) (mulP A r 2)) := by
  intro m
  induction m with
  | zero => intro h; omega
  | succ m ih =>
    intro _ hk
    by_cases hm : m = 0
    · subst hm
      show (com A (mulP A r 2) (mulP A r 0)).sim (pair (mulP A r 2) (mulP A r 2))
      rw [mulP_zero, com_O]
      exact Qf.sim.refl _
    · have hW := ih (by omega) (by omega)
      have h1 : (pair (mulP A r (m + 1 + 1)) (mulP A r (m + 1 - 1))).sim (com A (mulP A r (m + 1)) r) := (hB (m + 1) (by omega) hk).symm
      have h2 : (pair (mulP A r (m + 1)) (mulP A r (m - 1))).sim (com A r (mulP A r m)) := by rw [com_comm]; exact (hB m (by omega) (by omega)).symm
      have h3 := four A h1 h2
      simp only [Nat.add_sub_cancel] at h3 ⊢
      rw [com_self A (mulP A r m), com_self A (mulP A r (m + 1)), ← mulP_even A r m (by omega), ← mulP_even A r (m + 1) (by omega)] at h3
      have h4 := h3.trans (Qf.mul_sim (Qf.sim.refl (pair O (mulP A r (2 * (m + 1))))) hW)
      rw [pair_mul O (mulP A r (2 * (m + 1))), Qf.mul_comm (com A _ _)] at h4
      exact Qf.mul_cancel (pair_nz O_nz (by rw [mulP_even A r m (by omega)]; exact dbl_nz hL.good (hn m (by omega)))) h4
theorem all_next {A : F} {r : Pt} (hL : Line A r) : ∀ k, (∀ j, j ≤ k → (mulP A r j).nz) ∧ (∀ j, 1 ≤ j → j < k → Next A r j) := by
  intro k
  induction k with
  | zero => exact ⟨fun j hj => by rw [show j = 0 by omega, mulP_zero]; exact O_nz, fun j h1 h2 => by omega⟩
  | succ k ih =>
    obtain ⟨hn, hB⟩ := ih
    suffices h : (mulP A r (k + 1)).nz ∧ (1 ≤ k → Next A r k) by
      refine ⟨fun j hj => ?_, fun j h1 h2 => ?_⟩
      · by_cases e : j = k + 1
        · rw [e]; exact h.1
        · exact hn j (by omega)
      · by_cases e : j = k
        · rw [e]; exact h.2 (by omega)
        · exact hB j h1 (by omega)
    by_cases h0 : k = 0
    · subst h0
      exact ⟨by rw [mulP_one]; exact hL.nz, fun h => by omega⟩
    by_cases h1 : k = 1
    · subst h1
      refine ⟨by rw [mulP_two]; exact dbl_nz hL.good hL.nz, fun _ => ?_⟩
      show (com A (mulP A r 1) r).sim (pair (mulP A r 2) (mulP A r 0))
      rw [mulP_one, mulP_zero, mulP_two, com_self, pair_comm]
      exact Qf.sim.refl _
    have hnext : ∀ m, m < k → m = 0 ∨ (1 ≤ m ∧ Next A r m) := fun m hm => by
      by_cases e : m = 0
      · exact .inl e
      · exact .inr ⟨by omega, hB m (by omega) hm⟩
    rcases Nat.mod_two_eq_zero_or_one k with h2 | h2
    · obtain ⟨m, rfl⟩ : ∃ m, k = 2 * m := ⟨k / 2, by omega⟩
      have hD := odd_pair hL m (hnext m (by omega))
      refine ⟨nz_left (hD.symm.nz (com_nz hL.good (hn m (by omega)) (hn (m + 1) (by omega)))), fun _ => ?_⟩
      have hD' := odd_pair hL (m - 1) (hnext (m - 1) (by omega))
      rw [show 2 * (m - 1) + 1 = 2 * m - 1 by omega, show m - 1 + 1 = m by omega, com_comm] at hD'
      have hb := hB m (by omega) (by omega)
      have hP : (pair (mulP A r (2 * m)) O).sim (com A (mulP A r m) (mulP A r m)) := by
        rw [com_self, ← mulP_even A r m (by omega), pair_comm]
        exact Qf.sim.refl _
      have h3 := four A hP hb.symm
      have h4 := h3.trans (Qf.mul_sim hD.symm hD'.symm)
      rw [com_comm A O r, com_O, pair_mul (mulP A r (2 * m + 1)), Qf.mul_comm (com A _ _), Qf.mul_comm (pair (mulP A r (2 * m + 1)) _)] at h4
      exact Qf.mul_cancel (pair_nz hL.nz hL.nz) h4
    · obtain ⟨m, rfl⟩ : ∃ m, k = 2 * m + 1 := ⟨k / 2, by omega⟩
      have hD := odd_pair hL m (hnext m (by omega))
      have hW := apart hL _ hn hB m (by omega) (by omega)
      refine ⟨by rw [show 2 * m + 1 + 1 = 2 * (m + 1) by omega, mulP_even A r (m + 1) (by omega)]; exact dbl_nz hL.good (hn (m + 1) (by omega)), fun _ => ?_⟩
      have hb := hB m (by omega) (by omega)
      rw [com_comm] at hD
      have h3 := four A hD hb.symm
      rw [com_self A r, com_self A (mulP A r (m + 1)), ← mulP_even A r (m + 1) (by omega), ← mulP_two] at h3
      have h4 := h3.trans (Qf.mul_sim (Qf.sim.refl _) hW)
      rw [pair_comm (mulP A r (2 * m)), pair_mul O, Qf.mul_comm (com A _ _)] at h4
      exact Qf.mul_cancel (pair_nz O_nz (by rw [mulP_two]; exact dbl_nz hL.good hL.nz)) h4
theorem mulP_nz {A : F} {r : Pt} (hL : Line A r) (n : Nat) : (mulP A r n).nz := (all_next hL n).1 n (Nat.le_refl _)
theorem next_any {A : F} {r : Pt} (hL : Line A r) (n : Nat) (hn : 1 ≤ n) : Next A r n := (all_next hL (n + 1)).2 n hn (by omega)
/-- Any two multiples: their sum and their difference. -/
theorem both {A : F} {r : Pt} (hL : Line A r) : ∀ n m, n ≤ m → (com A (mulP A r m) (mulP A r n)).sim (pair (mulP A r (m + n)) (mulP A r (m - n))) := by
  intro n
  induction n using Nat.strongRecOn with
  | _ n ih =>
    intro m hm
    by_cases h0 : n = 0
    · subst h0
      rw [mulP_zero, com_O]
      exact Qf.sim.refl _
    by_cases h1 : n = 1
    · subst h1
      rw [mulP_one]
      exact next_any hL m hm
    obtain ⟨j, rfl⟩ : ∃ j, n = j + 1 := ⟨n - 1, by omega⟩
    have hj := ih j (by omega) m (by omega)
    have hj' := ih (j - 1) (by omega) m (by omega)
    have h3 := four A hj.symm (next_any hL j (by omega)).symm
    have h4 := ((Qf.mul_sim (next_any hL (m + j) (by omega)) (next_any hL (m - j) (by omega))).symm.trans h3).trans (Qf.mul_sim (Qf.sim.refl _) hj')
    rw [show m - j + 1 = m - (j - 1) by omega, show m - j - 1 = m - (j + 1) by omega, show m + j - 1 = m + (j - 1) by omega, show m + j + 1 = m + (j + 1) by omega] at h4
    rw [pair_comm (mulP A r (m - (j - 1))), pair_mul (mulP A r (m + (j + 1))), Qf.mul_comm, Qf.mul_comm (com A _ _)] at h4
    exact (Qf.mul_cancel (pair_nz (mulP_nz hL _) (mulP_nz hL _)) h4).symm
theorem dbl_sim (A : F) {p q : Pt} (h : p.sim q) : (dbl A p).sim (dbl A q) := by
  obtain ⟨s, t, hs, ht, h1, h2⟩ := h
  refine ⟨(s * s) * (s * s), (t * t) * (t * t), mul_ne (mul_ne hs hs) (mul_ne hs hs), mul_ne (mul_ne ht ht) (mul_ne ht ht), ?_, ?_⟩
  · have e : (s * s) * (s * s) * (dbl A p).X = ((s * p.X) * (s * p.X) - (s * p.Z) * (s * p.Z)) * ((s * p.X) * (s * p.X) - (s * p.Z) * (s * p.Z)) := by simp only [dbl]; grind -lia
    have e' : (t * t) * (t * t) * (dbl A q).X = ((t * q.X) * (t * q.X) - (t * q.Z) * (t * q.Z)) * ((t * q.X) * (t * q.X) - (t * q.Z) * (t * q.Z)) := by simp only [dbl]; grind -lia
    rw [e, e', h1, h2]
  · have e : (s * s) * (s * s) * (dbl A p).Z = 4 * ((s * p.X) * (s * p.Z)) * ((s * p.X) * (s * p.X) + A * ((s * p.X) * (s * p.Z)) + (s * p.Z) * (s * p.Z)) := by simp only [dbl]; grind -lia
    have e' : (t * t) * (t * t) * (dbl A q).Z = 4 * ((t * q.X) * (t * q.Z)) * ((t * q.X) * (t * q.X) + A * ((t * q.X) * (t * q.Z)) + (t * q.Z) * (t * q.Z)) := by simp only [dbl]; grind -lia
    rw [e, e', h1, h2]
/-- Multiples of a multiple. -/
theorem mul_mul {A : F} {r r' : Pt} (hL : Line A r) (hL' : Line A r') (n : Nat) (hr : r'.sim (mulP A r n)) : ∀ k, (mulP A r' k).sim (mulP A r (k * n)) := by
  intro k
  induction k using Nat.strongRecOn with
  | _ k ih =>
    by_cases h0 : k = 0
    · rw [h0, Nat.zero_mul, mulP_zero, mulP_zero]
      exact Pt.sim.refl _
    by_cases h1 : k = 1
    · rw [h1, Nat.one_mul, mulP_one]
      exact hr
    rcases Nat.mod_two_eq_zero_or_one k with h2 | h2
    · obtain ⟨m, rfl⟩ : ∃ m, k = 2 * m := ⟨k / 2, by omega⟩
      rw [mulP_twice, Nat.mul_assoc, mulP_twice]
      exact dbl_sim A (ih m (by omega))
    · obtain ⟨m, rfl⟩ : ∃ m, k = 2 * m + 1 := ⟨k / 2, by omega⟩
      have hD := odd_pair hL' m (.inr ⟨by omega, next_any hL' m (by omega)⟩)
      have hc := com_sim A (ih (m + 1) (by omega)) (ih m (by omega))
      rw [com_comm] at hD
      have hb := both hL (m * n) ((m + 1) * n) (Nat.mul_le_mul_right n (by omega))
      have e1 : (m + 1) * n + m * n = (2 * m + 1) * n := by rw [← Nat.add_mul]; congr 1; omega
      have e2 : (m + 1) * n - m * n = n := by rw [← Nat.sub_mul, show m + 1 - m = 1 by omega, Nat.one_mul]
      rw [e1, e2] at hb
      have h3 := (hD.trans hc).trans hb
      have h4 := h3.trans (pair_sim (Pt.sim.refl (mulP A r ((2 * m + 1) * n))) hr.symm)
      rw [pair_comm _ r', pair_comm _ r'] at h4
      exact pair_cancel hL'.nz h4
theorem sim_O {p : Pt} (hp : p.nz) (hz : p.Z = 0) : p.sim O := ⟨1, p.X, oneDom, fun hx => hp ⟨hx, hz⟩, by simp only [O]; grind -lia, by rw [hz]; simp only [O]; grind -lia⟩
theorem Pt.sim.z {p q : Pt} (h : p.sim q) (hz : p.Z = 0) : q.Z = 0 := by
  obtain ⟨s, t, hs, ht, h1, h2⟩ := h
  exact zero_of ht (by rw [← h2, hz]; grind -lia)
theorem Pt.sim.x {p q : Pt} (h : p.sim q) (hz : p.X = 0) : q.X = 0 := by
  obtain ⟨s, t, hs, ht, h1, h2⟩ := h
  exact zero_of ht (by rw [← h1, hz]; grind -lia)
theorem cross_sim {a p : Pt} (ha : a.nz) (hp : p.nz) (h : p.X * a.Z = a.X * p.Z) : a.sim p := by
  by_cases hz : p.Z = 0
  · have hx : p.X ≠ 0 := fun hx => hp ⟨hx, hz⟩
    have az : a.Z = 0 := zero_of hx (by rw [h, hz]; grind -lia)
    exact ⟨p.X, a.X, hx, fun ax => ha ⟨ax, az⟩, by grind -lia, by rw [az, hz]; grind -lia⟩
  · have az : a.Z ≠ 0 := fun az => by
      have : p.Z * a.X = 0 := by rw [az] at h; grind -lia
      exact ha ⟨zero_of hz this, az⟩
    exact ⟨p.Z, a.Z, hz, az, by grind -lia, by grind -lia⟩
theorem twice_sim {p a b : Pt} (h : (pair p p).sim (pair a b)) (ha : a.nz) (hp : p.nz) : a.sim p := by
  obtain ⟨s, t, hs, ht, h1, h2, h3⟩ := h
  refine cross_sim ha hp ?_
  have e : s * ((p.X * a.Z - a.X * p.Z) * (p.X * a.Z - a.X * p.Z)) = t * ((pair a b).c * (a.Z * a.Z) - (pair a b).b * (a.X * a.Z) + (pair a b).a * (a.X * a.X)) := by
    have e1 : s * ((p.X * a.Z - a.X * p.Z) * (p.X * a.Z - a.X * p.Z)) = (s * (pair p p).c) * (a.Z * a.Z) - (s * (pair p p).b) * (a.X * a.Z) + (s * (pair p p).a) * (a.X * a.X) := by
      simp only [pair]; grind -lia
    rw [e1, h1, h2, h3]
    grind -lia
  rw [three_pair] at e
  have e2 := zero_of hs (show s * ((p.X * a.Z - a.X * p.Z) * (p.X * a.Z - a.X * p.Z)) = 0 by rw [e]; grind -lia)
  have e3 : p.X * a.Z - a.X * p.Z = 0 := (mulDom _ _ e2).elim id id
  exact sub_zero e3
/-- A multiple that is nothing may be left out. -/
theorem shift {A : F} {r : Pt} (hL : Line A r) (m n : Nat) (h : (mulP A r m).Z = 0) : (mulP A r (n + m)).sim (mulP A r n) := by
  have hO := sim_O (mulP_nz hL m) h
  by_cases hm : m ≤ n
  · have hb := both hL m n hm
    have hc := com_sim A (Pt.sim.refl (mulP A r n)) hO
    rw [com_O] at hc
    exact twice_sim (hc.symm.trans hb) (mulP_nz hL _) (mulP_nz hL _)
  · have hb := both hL n m (by omega)
    have hc := com_sim A hO (Pt.sim.refl (mulP A r n))
    rw [com_comm A O, com_O] at hc
    rw [Nat.add_comm n m]
    exact twice_sim (hc.symm.trans hb) (mulP_nz hL _) (mulP_nz hL _)
theorem none_mod {A : F} {r : Pt} (hL : Line A r) (m : Nat) (h : (mulP A r m).Z = 0) : ∀ n, (mulP A r n).Z = 0 → (mulP A r (n % m)).Z = 0 := by
  intro n
  induction n using Nat.strongRecOn with
  | _ n ih =>
    intro hn
    by_cases hm : n < m
    · rw [Nat.mod_eq_of_lt hm]; exact hn
    by_cases h0 : m = 0
    · rw [h0, Nat.mod_zero]; exact hn
    · rw [Nat.mod_eq_sub_mod (by omega)]
      refine ih (n - m) (by omega) ?_
      have := shift hL m (n - m) h
      rw [Nat.sub_add_cancel (by omega)] at this
      exact this.z hn
theorem none_gcd {A : F} {r : Pt} (hL : Line A r) : ∀ m n, (mulP A r m).Z = 0 → (mulP A r n).Z = 0 → (mulP A r (Nat.gcd m n)).Z = 0 := by
  intro m n
  induction m, n using Nat.gcd.induction with
  | H0 n => intro _ h; rw [Nat.gcd_zero_left]; exact h
  | H1 m n hm ih =>
    intro h1 h2
    rw [Nat.gcd_rec]
    exact ih (none_mod hL m h1 n h2) h1
theorem none_mul {A : F} {r : Pt} (hL : Line A r) (m : Nat) (h : (mulP A r m).Z = 0) : ∀ k, (mulP A r (k * m)).Z = 0
  | 0 => by rw [Nat.zero_mul, mulP_zero]; rfl
  | k + 1 => by
    rw [Nat.succ_mul]
    exact (shift hL m (k * m) h).symm.z (none_mul hL m h k)
theorem none_twice {A : F} {r : Pt} (n : Nat) (h : (mulP A r n).X = 0) : (mulP A r (2 * n)).Z = 0 := by
  rw [mulP_twice]
  simp only [dbl, h]
  grind -lia
/-- A step of the ladder, as the document writes it: twice p, and p and q, whose difference is u. -/
def stepP (a24 u : F) (p q : Pt) : Pt × Pt :=
  (⟨((p.X + p.Z) * (p.X + p.Z)) * ((p.X - p.Z) * (p.X - p.Z)), ((p.X + p.Z) * (p.X + p.Z) - (p.X - p.Z) * (p.X - p.Z)) * ((p.X + p.Z) * (p.X + p.Z) + a24 * ((p.X + p.Z) * (p.X + p.Z) - (p.X - p.Z) * (p.X - p.Z)))⟩,
   ⟨((q.X - q.Z) * (p.X + p.Z) + (q.X + q.Z) * (p.X - p.Z)) * ((q.X - q.Z) * (p.X + p.Z) + (q.X + q.Z) * (p.X - p.Z)), u * (((q.X - q.Z) * (p.X + p.Z) - (q.X + q.Z) * (p.X - p.Z)) * ((q.X - q.Z) * (p.X + p.Z) - (q.X + q.Z) * (p.X - p.Z)))⟩)
theorem step_dbl {A a24 u : F} (hA : A = 4 * a24 + 2) (p q : Pt) : (stepP a24 u p q).1 = dbl A p := by
  simp only [stepP, dbl, Pt.mk.injEq]
  refine ⟨?_, ?_⟩ <;> grind -lia
theorem step_dad {a24 u : F} (h2 : (2 : F) ≠ 0) (p q : Pt) : (stepP a24 u p q).2.sim (dad ⟨u, 1⟩ p q) := by
  refine ⟨1, 2 * 2, oneDom, mul_ne h2 h2, ?_, ?_⟩ <;> simp only [stepP, dad] <;> grind -lia
theorem dad_sim (r : Pt) {p p' q q' : Pt} (h : p.sim p') (g : q.sim q') : (dad r p q).sim (dad r p' q') := by
  have hc := com_sim (0 : F) h g
  obtain ⟨s, t, hs, ht, h1, h2, h3⟩ := hc
  simp only [com] at h1 h3
  refine ⟨s, t, hs, ht, ?_, ?_⟩ <;> simp only [dad] <;> grind -lia
/-- p and q are the n-th multiple, and the one behind it. -/
def At (A u : F) (n : Nat) (p q : Pt) : Prop := p.sim (mulP A ⟨u, 1⟩ n) ∧ q.sim (mulP A ⟨u, 1⟩ (n + 1))
theorem dad_first {A u : F} (hu : u ≠ 0) : (dad ⟨u, 1⟩ (mulP A ⟨u, 1⟩ 0) (mulP A ⟨u, 1⟩ 1)).sim (mulP A ⟨u, 1⟩ 1) := by
  rw [mulP_zero, mulP_one]
  refine ⟨1, u, oneDom, hu, ?_, ?_⟩ <;> simp only [dad, O] <;> grind -lia
theorem odd_sim {A u : F} (hu : u ≠ 0) (m : Nat) : (dad ⟨u, 1⟩ (mulP A ⟨u, 1⟩ m) (mulP A ⟨u, 1⟩ (m + 1))).sim (mulP A ⟨u, 1⟩ (2 * m + 1)) := by
  by_cases h : m = 0
  · subst h; exact dad_first hu
  · rw [mulP_odd A _ m (by omega)]; exact Pt.sim.refl _
theorem At.zero {A u a24 : F} (h2 : (2 : F) ≠ 0) (hA : A = 4 * a24 + 2) (hu : u ≠ 0) {n : Nat} {p q : Pt} (h : At A u n p q) : At A u (2 * n) (stepP a24 u p q).1 (stepP a24 u p q).2 := by
  refine ⟨?_, ?_⟩
  · rw [step_dbl hA, mulP_twice]; exact dbl_sim A h.1
  · exact (step_dad h2 p q).trans ((dad_sim _ h.1 h.2).trans (odd_sim hu n))
theorem dad_comm (r p q : Pt) : dad r p q = dad r q p := by
  simp only [dad, Pt.mk.injEq]
  refine ⟨?_, ?_⟩ <;> grind -lia
theorem At.one {A u a24 : F} (h2 : (2 : F) ≠ 0) (hA : A = 4 * a24 + 2) (hu : u ≠ 0) {n : Nat} {p q : Pt} (h : At A u n p q) : At A u (2 * n + 1) (stepP a24 u q p).2 (stepP a24 u q p).1 := by
  refine ⟨?_, ?_⟩
  · refine (step_dad h2 q p).trans ?_
    rw [dad_comm]
    exact (dad_sim _ h.1 h.2).trans (odd_sim hu n)
  · rw [step_dbl hA, show 2 * n + 1 + 1 = 2 * (n + 1) by omega, mulP_twice]; exact dbl_sim A h.2
end Kum
end Go.Proofs.YtmdoojfcgbokjaaDoor
