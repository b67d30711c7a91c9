/- A key's bytes as Mult reads them. No program is named here. -/
import Derived.Test.YtmdoojfcgbokjaaDoorMathMult
namespace Go.Proofs.YtmdoojfcgbokjaaDoor
set_option linter.unusedVariables false
open Go.RowKit

theorem and248 : ∀ n : Fin 256, bits .and .u8 ((n.val : Nat) : Int) 248 = ((n.val / 8 * 8 : Nat) : Int) := by decide +kernel
theorem and127 : ∀ n : Fin 256, bits .and .u8 ((n.val : Nat) : Int) 127 = ((n.val % 128 : Nat) : Int) := by decide +kernel
theorem ofNat_small (n : Nat) (h : n < 256) : (UInt8.ofNat n).toNat = n := by simp; omega
theorem set64 : ∀ n : Fin 256, bits .or .u8 (bits .and .u8 ((n.val : Nat) : Int) 127) 64 = ((n.val % 64 + 64 : Nat) : Int) := by decide +kernel
theorem andB1 : ∀ n : Fin 256, bits .and .u8 ((n.val : Nat) : Int) 1 = ((n.val % 2 : Nat) : Int) := by decide +kernel
/-- The key with its bits set. -/
def keyB (k : List UInt8) : List UInt8 := (k.set 0 (UInt8.ofNat ((at8 k 0).toNat / 8 * 8))).set 31 (UInt8.ofNat ((at8 k 31).toNat % 64 + 64))
theorem keyB_length (k : List UInt8) : (keyB k).length = k.length := by simp [keyB]
theorem ends_of : ∀ (k : List UInt8), k.length = 32 → ∃ a m z, k = a :: (m ++ [z]) ∧ m.length = 30 := by
  intro k hk
  match k, hk with
  | a :: r, hk =>
    have hr : r.length = 31 := by simpa using hk
    have hne : r ≠ [] := fun e => by rw [e] at hr; cases hr
    exact ⟨a, r.dropLast, r.getLast hne, by rw [List.dropLast_concat_getLast], by simp [hr]⟩
theorem leN_keyB (k : List UInt8) (hk : k.length = 32) : leN (keyB k) = clampK (leN k) := by
  obtain ⟨a, m, z, rfl, hm⟩ := ends_of k hk
  have h0 : at8 (a :: (m ++ [z])) 0 = a := by simp [at8]
  have h31 : at8 (a :: (m ++ [z])) 31 = z := by simp [at8, hm]
  have e : keyB (a :: (m ++ [z])) = UInt8.ofNat (a.toNat / 8 * 8) :: (m ++ [UInt8.ofNat (z.toNat % 64 + 64)]) := by
    rw [keyB, h0, h31, List.set_cons_zero, List.set_cons_succ, List.set_append_right _ _ (by omega), hm]
    rfl
  have ha := a.toNat_lt
  have hz := z.toNat_lt
  have hml := leN_lt m
  rw [hm] at hml
  have ea : (UInt8.ofNat (a.toNat / 8 * 8)).toNat = a.toNat / 8 * 8 := by simp; omega
  have ez : (UInt8.ofNat (z.toNat % 64 + 64)).toNat = z.toNat % 64 + 64 := by simp; omega
  rw [e]
  simp only [leN, leN_append, ea, ez, hm, clampK]
  generalize leN m = M at hml ⊢
  generalize a.toNat = x at ha ⊢
  generalize z.toNat = y at hz ⊢
  simp only [show (256 : Nat) ^ 30 = 1766847064778384329583297500742918515827483896875618958121606201292619776 from rfl, show (2 : Nat) ^ 254 = 28948022309329048855892746252171976963317496166410141009864396001978282409984 from rfl] at hml ⊢
  omega
/-- A step with swaps ahead of it and behind it. -/
theorem lad_step {U K b : Nat} {is : Bool} {x2 z2 x3 z3 a2 d2 a3 d3 f2 e2 f3 e3 : Nat} (hL : Lad (phi U) (K / 2 ^ (b + 1)) (pt x2 z2) (pt x3 z3)) (hb : is = decide (K / 2 ^ b % 2 = 1)) (h2 : z2 < P255) (h3 : z3 < P255)
    (ha2 : (if is = true then x3 else x2) = a2) (ha3 : (if is = true then x2 else x3) = a3) (hd2 : (if is = true then z3 else z2) = d2) (hd3 : (if is = true then z2 else z3) = d3)
    (hf2 : (if is = true then nX3 a2 d2 a3 d3 else nX2 a2 d2) = f2) (hf3 : (if is = true then nX2 a2 d2 else nX3 a2 d2 a3 d3) = f3) (he2 : (if is = true then nZ3 U a2 d2 a3 d3 else nZ2 a2 d2) = e2) (he3 : (if is = true then nZ2 a2 d2 else nZ3 U a2 d2 a3 d3) = e3) :
    Lad (phi U) (K / 2 ^ b) (pt f2 e2) (pt f3 e3) := by
  have hs := half_step K b
  cases is with
  | false =>
    have hb0 : K / 2 ^ b % 2 = 0 := by
      have h : ¬ K / 2 ^ b % 2 = 1 := of_decide_eq_false hb.symm
      omega
    simp only [Bool.false_eq_true, if_false] at ha2 ha3 hd2 hd3 hf2 hf3 he2 he3
    subst ha2 ha3 hd2 hd3 hf2 hf3 he2 he3
    rw [hs, hb0, Nat.add_zero, step_one U x2 z2 x3 z3 h2 h3, step_two U x2 z2 x3 z3 h2 h3]
    exact hL.zero
  | true =>
    have hb1 : K / 2 ^ b % 2 = 1 := of_decide_eq_true hb.symm
    simp only [if_true] at ha2 ha3 hd2 hd3 hf2 hf3 he2 he3
    subst ha2 ha3 hd2 hd3 hf2 hf3 he2 he3
    rw [hs, hb1, step_one U x3 z3 x2 z2 h3 h2, step_two U x3 z3 x2 z2 h3 h2]
    exact hL.one
theorem lad_end {U K x2 z2 x3 z3 : Nat} (hL : Lad (phi U) (K / 2 ^ 0) (pt x2 z2) (pt x3 z3)) (hz : z2 < P255) : fM x2 (finv z2) = mX K U := by
  rw [Nat.pow_zero, Nat.div_one] at hL
  exact mX_eq (fM_lt _ _) (hL.done (isX_pt hz))
end Go.Proofs.YtmdoojfcgbokjaaDoor
