/- A multiple, as a number: what Mult tells, and what is known of it. No program is named here. -/
import Derived.Test.YtmdoojfcgbokjaaDoorMathLad
import Derived.Test.YtmdoojfcgbokjaaDoorMathApart
namespace Go.Proofs.YtmdoojfcgbokjaaDoor
set_option linter.unusedVariables false
open Kum

/-- The multiple of U by K: 0, where there is none. -/
def mX (K U : Nat) : Nat := if phi U = 0 then 0 else fM (mulP cA (at1 (phi U)) K).X.val (finv (mulP cA (at1 (phi U)) K).Z.val)
theorem mX_lt (K U : Nat) : mX K U < P255 := by
  unfold mX
  split
  · exact P255_pos
  · exact fM_lt _ _
theorem phi_of_val (x : F) : phi x.val = x := Fin.ext (by rw [phi_val]; exact Nat.mod_eq_of_lt x.isLt)
theorem mX_spec (K U : Nat) : MultX K (phi U) (phi (mX K U)) := by
  unfold mX
  split
  · rename_i h
    exact .inl ⟨h, (phi_zero P255_pos).2 rfl⟩
  · rename_i h
    refine .inr ⟨h, ?_⟩
    have h1 := isX_pt (x := (mulP cA (at1 (phi U)) K).X.val) (z := (mulP cA (at1 (phi U)) K).Z.val) (mulP cA (at1 (phi U)) K).Z.isLt
    have h2 : pt (mulP cA (at1 (phi U)) K).X.val (mulP cA (at1 (phi U)) K).Z.val = mulP cA (at1 (phi U)) K := by
      unfold pt
      rw [phi_of_val, phi_of_val]
    rw [h2] at h1
    exact h1
theorem mX_eq {K U m : Nat} (hm : m < P255) (h : MultX K (phi U) (phi m)) : m = mX K U := phi_inj hm (mX_lt K U) (h.ext (mX_spec K U))
theorem mX_comm (a b U : Nat) (ha : a % 2 = 0) (hb : b % 2 = 0) : mX a (mX b U) = mX b (mX a U) :=
  phi_inj (mX_lt _ _) (mX_lt _ _) (MultX.comm ha hb (mX_spec b U) (mX_spec a _) (mX_spec a U) (mX_spec b _))
theorem ne_of_phi {m : Nat} (h : phi m ≠ 0) (hm : m < P255) : m ≠ 0 := fun e => h ((phi_zero hm).2 e)
theorem isX_nine (K : Nat) : IsX (mulP cA (at1 (phi 9)) K) (phi (mX K 9)) := by
  rcases mX_spec K 9 with h | h
  · exact absurd h.1 nine_ne
  · exact h.2
theorem mX_nine_ne {K : Nat} (hK : ¬ ell ∣ K) : mX K 9 ≠ 0 := ne_of_phi (nine_nz hK (isX_nine K)) (mX_lt _ _)
theorem isX_two {a : Nat} (b : Nat) (ha : a % 2 = 0) : IsX (mulP cA (at1 (phi 9)) (a * b)) (phi (mX a (mX b 9))) := MultX.mul nine_ne ha (mX_spec b 9) (mX_spec a _)
theorem mX_two_ne {a b : Nat} (ha : a % 2 = 0) (hA : ¬ ell ∣ a) (hB : ¬ ell ∣ b) : mX a (mX b 9) ≠ 0 := ne_of_phi (nine_nz (ell_mul hA hB) (isX_two b ha)) (mX_lt _ _)
theorem mX_three_ne {a b c : Nat} (ha : a % 2 = 0) (hb : b % 2 = 0) (hA : ¬ ell ∣ a) (hB : ¬ ell ∣ b) (hC : ¬ ell ∣ c) : mX a (mX b (mX c 9)) ≠ 0 :=
  ne_of_phi (nine_nz (ell_mul hA (ell_mul hB hC)) (MultX.mul nine_ne ha (.inr ⟨nine_ne, isX_two c hb⟩) (mX_spec a _))) (mX_lt _ _)
theorem mX_zero (K : Nat) : mX K 0 = 0 := by
  have h0 : phi 0 = 0 := (phi_zero P255_pos).2 rfl
  unfold mX
  rw [if_pos h0]
theorem mX_small {K U : Nat} (hU : phi U * phi U = 1) (hK : K % 4 = 0) : mX K U = 0 := by
  rcases mX_spec K U with h | h
  · exact (phi_zero (mX_lt _ _)).1 h.2
  · exact (phi_zero (mX_lt _ _)).1 (small_zero hU hK h.2)
theorem mX_apart : mX (clampK 1) 9 ≠ mX (clampK 256) 9 := fun h => public_apart (mX_spec (clampK 1) 9) (mX_spec (clampK 256) 9) (by rw [h])
theorem clampK_six : clampK 6 = clampK 1 := by decide
/-- The number of 32 bytes, whose highest bit counts as 0. -/
def modU (l : List UInt8) : Nat := leN l % 2 ^ 255 % P255
theorem modU_lt (l : List UInt8) : modU l < P255 := Nat.mod_lt _ P255_pos
theorem modU_told (m : Nat) (h : m < P255) : modU (leB 32 m) = m := by
  have h1 : m < 256 ^ 32 := Nat.lt_trans h (by decide)
  have h2 : m < 2 ^ 255 := Nat.lt_trans h (by decide)
  unfold modU
  rw [leN_leB, Nat.mod_eq_of_lt h1, Nat.mod_eq_of_lt h2, Nat.mod_eq_of_lt h]
/-- What Mult tells of two keys. -/
def mK (k u : List UInt8) : Nat := mX (clampK (leN k)) (modU u)
theorem mK_lt (k u : List UInt8) : mK k u < P255 := mX_lt _ _
theorem mK_told (k : List UInt8) (m : Nat) (h : m < P255) : mK k (leB 32 m) = mX (clampK (leN k)) m := by rw [mK, modU_told m h]
theorem mK_comm (a b u : List UInt8) : mK a (leB 32 (mK b u)) = mK b (leB 32 (mK a u)) := by
  rw [mK_told a _ (mK_lt _ _), mK_told b _ (mK_lt _ _)]
  exact mX_comm _ _ _ (clampK_even _) (clampK_even _)
end Go.Proofs.YtmdoojfcgbokjaaDoor
