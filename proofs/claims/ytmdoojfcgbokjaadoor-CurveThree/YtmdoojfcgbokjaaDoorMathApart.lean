/- Two multiples of 9, told apart. No program is named here. -/
import Derived.Test.YtmdoojfcgbokjaaDoorMathLad
namespace Go.Proofs.YtmdoojfcgbokjaaDoor
set_option linter.unusedVariables false
open Kum

/-- The ladder along bits: where it ends. -/
def ladS (u : Nat) : List Bool → Nat → Nat → Nat → Nat → Nat × Nat
  | [], x2, z2, _, _ => (x2, z2)
  | true :: l, x2, z2, x3, z3 => ladS u l (nX3 x3 z3 x2 z2) (nZ3 u x3 z3 x2 z2) (nX2 x3 z3) (nZ2 x3 z3)
  | false :: l, x2, z2, x3, z3 => ladS u l (nX2 x2 z2) (nZ2 x2 z2) (nX3 x2 z2 x3 z3) (nZ3 u x2 z2 x3 z3)
theorem ladS_val (u : Nat) (hu : phi u ≠ 0) : ∀ (l : List Bool) (n x2 z2 x3 z3 : Nat), z2 < P255 → z3 < P255 → At cA (phi u) n (pt x2 z2) (pt x3 z3) → (pt (ladS u l x2 z2 x3 z3).1 (ladS u l x2 z2 x3 z3).2).sim (mulP cA (at1 (phi u)) (bitsV l n))
  | [], n, x2, z2, x3, z3, h2, h3, h => h.1
  | true :: l, n, x2, z2, x3, z3, h2, h3, h => by
    have hA := At.one (a24 := c24) cGood.two cA_eq hu h
    rw [← step_two u x3 z3 x2 z2 h3 h2, ← step_one u x3 z3 x2 z2 h3 h2] at hA
    exact ladS_val u hu l _ _ _ _ _ (nZ3_lt _ _ _ _ _) (nZ2_lt _ _) hA
  | false :: l, n, x2, z2, x3, z3, h2, h3, h => by
    have hA := At.zero (a24 := c24) cGood.two cA_eq hu h
    rw [← step_one u x2 z2 x3 z3 h2 h3, ← step_two u x2 z2 x3 z3 h2 h3] at hA
    exact ladS_val u hu l _ _ _ _ _ (nZ2_lt _ _) (nZ3_lt _ _ _ _ _) hA
theorem ladS_nine (l : List Bool) : (pt (ladS 9 l 1 0 9 1).1 (ladS 9 l 1 0 9 1).2).sim (mulP cA (at1 (phi 9)) (bitsV l 0)) := by
  refine ladS_val 9 nine_ne l 0 1 0 9 1 P255_pos (by decide) ⟨?_, ?_⟩
  · rw [mulP_zero]; exact Pt.sim.refl _
  · rw [show 0 + 1 = 1 from rfl, mulP_one]; exact Pt.sim.refl _
def bitsA : List Bool := [true, false, false, false, false, false, false, false, false, false, false, false, false, false, false, false, false, false, false, false, false, false, false, false, false, false, false, false, false, false, false, false, false, false, false, false, false, false, false, false, false, false, false, false, false, false, false, false, false, false, false, false, false, false, false, false, false, false, false, false, false, false, false, false, false, false, false, false, false, false, false, false, false, false, false, false, false, false, false, false, false, false, false, false, false, false, false, false, false, false, false, false, false, false, false, false, false, false, false, false, false, false, false, false, false, false, false, false, false, false, false, false, false, false, false, false, false, false, false, false, false, false, false, false, false, false, false, false, false, false, false, false, false, false, false, false, false, false, false, false, false, false, false, false, false, false, false, false, false, false, false, false, false, false, false, false, false, false, false, false, false, false, false, false, false, false, false, false, false, false, false, false, false, false, false, false, false, false, false, false, false, false, false, false, false, false, false, false, false, false, false, false, false, false, false, false, false, false, false, false, false, false, false, false, false, false, false, false, false, false, false, false, false, false, false, false, false, false, false, false, false, false, false, false, false, false, false, false, false, false, false, false, false, false, false, false, false, false, false, false, false, false, false, false, false, false, false, false, false, false, false, false, false, false, false]
def bitsB : List Bool := [true, false, false, false, false, false, false, false, false, false, false, false, false, false, false, false, false, false, false, false, false, false, false, false, false, false, false, false, false, false, false, false, false, false, false, false, false, false, false, false, false, false, false, false, false, false, false, false, false, false, false, false, false, false, false, false, false, false, false, false, false, false, false, false, false, false, false, false, false, false, false, false, false, false, false, false, false, false, false, false, false, false, false, false, false, false, false, false, false, false, false, false, false, false, false, false, false, false, false, false, false, false, false, false, false, false, false, false, false, false, false, false, false, false, false, false, false, false, false, false, false, false, false, false, false, false, false, false, false, false, false, false, false, false, false, false, false, false, false, false, false, false, false, false, false, false, false, false, false, false, false, false, false, false, false, false, false, false, false, false, false, false, false, false, false, false, false, false, false, false, false, false, false, false, false, false, false, false, false, false, false, false, false, false, false, false, false, false, false, false, false, false, false, false, false, false, false, false, false, false, false, false, false, false, false, false, false, false, false, false, false, false, false, false, false, false, false, false, false, false, false, false, false, false, false, false, false, false, false, false, false, false, false, false, false, false, false, false, false, false, false, false, false, false, false, false, true, false, false, false, false, false, false, false, false]
set_option maxRecDepth 100000 in
theorem bitsA_val : bitsV bitsA 0 = clampK 1 := by decide +kernel
set_option maxRecDepth 100000 in
theorem bitsB_val : bitsV bitsB 0 = clampK 256 := by decide +kernel
set_option maxRecDepth 100000 in
theorem lad_apart : fM (ladS 9 bitsA 1 0 9 1).1 (ladS 9 bitsB 1 0 9 1).2 ≠ fM (ladS 9 bitsB 1 0 9 1).1 (ladS 9 bitsA 1 0 9 1).2 := by decide +kernel
/-- Public of 1 and of 256 are not the same. -/
theorem public_apart {x y : F} (hx : MultX (clampK 1) (phi 9) x) (hy : MultX (clampK 256) (phi 9) y) : x ≠ y := by
  rintro rfl
  rcases hx with ⟨h, _⟩ | ⟨_, hx⟩
  · exact nine_ne h
  rcases hy with ⟨h, _⟩ | ⟨_, hy⟩
  · exact nine_ne h
  rw [← bitsA_val] at hx
  rw [← bitsB_val] at hy
  have ha := hx.sim (ladS_nine bitsA).symm
  have hb := hy.sim (ladS_nine bitsB).symm
  have hxa : x * phi (ladS 9 bitsA 1 0 9 1).2 = phi (ladS 9 bitsA 1 0 9 1).1 := by
    rcases ha with ⟨hz, _⟩ | ⟨_, h⟩
    · exfalso
      have hn := (ladS_nine bitsA).z hz
      rw [bitsA_val] at hn
      exact clampK_ell 1 (ell_of_none hn)
    · exact h
  have hxb : x * phi (ladS 9 bitsB 1 0 9 1).2 = phi (ladS 9 bitsB 1 0 9 1).1 := by
    rcases hb with ⟨hz, _⟩ | ⟨_, h⟩
    · exfalso
      have hn := (ladS_nine bitsB).z hz
      rw [bitsB_val] at hn
      exact clampK_ell 256 (ell_of_none hn)
    · exact h
  apply lad_apart
  refine phi_inj (fM_lt _ _) (fM_lt _ _) ?_
  rw [phi_fM, phi_fM, ← hxa, ← hxb]
  grind -lia
end Go.Proofs.YtmdoojfcgbokjaaDoor
