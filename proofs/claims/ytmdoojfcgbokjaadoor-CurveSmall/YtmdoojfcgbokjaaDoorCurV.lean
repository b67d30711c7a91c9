/- Keys whose bits are turned (CurveClamps), and keys of small order (CurveSmall). -/
import Derived.Test.YtmdoojfcgbokjaaDoorCurT
namespace Go.Proofs.YtmdoojfcgbokjaaDoor
set_option linter.unusedVariables false
open Go.RowKit

theorem and_val8 (a b : UInt8) : bits .and .u8 (a.toNat : Int) (b.toNat : Int) = ((a &&& b).toNat : Int) := by
  rw [u8_and_nat _ _ (a.toNat_lt) (b.toNat_lt), UInt8.toNat_and]
theorem turn_low (x b : UInt8) : (x ^^^ (b &&& 7)).toNat / 8 = x.toNat / 8 := by
  rw [UInt8.toNat_xor, UInt8.toNat_and]
  have h7 : b.toNat &&& (7 : UInt8).toNat < 8 := Nat.lt_of_le_of_lt Nat.and_le_right (by decide)
  generalize b.toNat &&& (7 : UInt8).toNat = y at h7
  have h := Nat.shiftRight_xor_distrib (a := x.toNat) (b := y) (i := 3)
  simp only [Nat.shiftRight_eq_div_pow] at h
  rw [show (2 : Nat) ^ 3 = 8 from rfl] at h
  rw [h, Nat.div_eq_of_lt h7, Nat.xor_zero]
theorem turn_mod (x b c : UInt8) (n : Nat) (hc : c.toNat % 2 ^ n = 0) : (x ^^^ (b &&& c)).toNat % 2 ^ n = x.toNat % 2 ^ n := by
  rw [UInt8.toNat_xor, UInt8.toNat_and, Nat.xor_mod_two_pow, Nat.and_mod_two_pow, hc, Nat.and_zero, Nat.xor_zero]
/-- The key with bits turned that do not count. -/
def turnK (k : List UInt8) (b : UInt8) : List UInt8 := (k.set 0 (at8 k 0 ^^^ (b &&& 7))).set 31 (at8 k 31 ^^^ (b &&& 192))
def turnU (u : List UInt8) (b : UInt8) : List UInt8 := u.set 31 (at8 u 31 ^^^ (b &&& 128))
theorem turnK_length (k : List UInt8) (b : UInt8) : (turnK k b).length = k.length := by simp [turnK]
theorem turnU_length (k : List UInt8) (b : UInt8) : (turnU k b).length = k.length := by simp [turnU]
theorem turnK_same (k : List UInt8) (b : UInt8) (hk : k.length = 32) : clampK (leN (turnK k b)) = clampK (leN k) := by
  rw [← leN_keyB _ (by rw [turnK_length, hk]), ← leN_keyB k hk]
  congr 1
  have h0 : at8 (turnK k b) 0 = at8 k 0 ^^^ (b &&& 7) := by
    rw [at8_get _ _ (by rw [turnK_length]; omega)]
    simp only [turnK]
    rw [List.getElem_set_ne (by decide), List.getElem_set_self]
  have h31 : at8 (turnK k b) 31 = at8 k 31 ^^^ (b &&& 192) := by
    rw [at8_get _ _ (by rw [turnK_length]; omega)]
    simp only [turnK]
    rw [List.getElem_set_self]
  have e0 := turn_low (at8 k 0) b
  have e31 := turn_mod (at8 k 31) b 192 6 (by decide)
  rw [show (2 : Nat) ^ 6 = 64 from rfl] at e31
  rw [keyB, keyB, h0, h31, e0, e31, turnK]
  rw [List.set_comm _ _ (show (31 : Nat) ≠ 0 by decide), List.set_set, List.set_set]
theorem turnU_same (u : List UInt8) (b : UInt8) (hu : u.length = 32) : modU (turnU u b) = modU u := by
  obtain ⟨a, m, z, rfl, hm⟩ := ends_of u hu
  have h31 : at8 (a :: (m ++ [z])) 31 = z := by simp [at8, hm]
  have e : turnU (a :: (m ++ [z])) b = a :: (m ++ [z ^^^ (b &&& 128)]) := by
    rw [turnU, h31, List.set_cons_succ, List.set_append_right _ _ (by omega), hm]
    rfl
  have ez := turn_mod z b 128 7 (by decide)
  rw [show (2 : Nat) ^ 7 = 128 from rfl] at ez
  rw [e]
  unfold modU
  congr 1
  simp only [leN, leN_append, hm]
  generalize leN m = M
  generalize (z ^^^ (b &&& 128)).toNat = y at ez ⊢
  generalize z.toNat = x at ez ⊢
  simp only [show (256 : Nat) ^ 30 = 1766847064778384329583297500742918515827483896875618958121606201292619776 from rfl, show (2 : Nat) ^ 255 = 57896044618658097711785492504343953926634992332820282019728792003956564819968 from rfl]
  omega
theorem turned (k u : List UInt8) (b : UInt8) (hk : k.length = 32) (hu : u.length = 32) : mK (turnK k b) (turnU u b) = mK k u := by rw [mK, mK, turnK_same k b hk, turnU_same u b hu]
/-- The five keys. -/
def bigL (x : UInt8) : List UInt8 := x :: (List.replicate 30 255 ++ [127])
theorem big_236 (k : List UInt8) : mK k (bigL 236) = 0 := mX_small (by decide +kernel) (clampK_four _)
theorem big_237 (k : List UInt8) : mK k (bigL 237) = 0 := by
  have h : modU (bigL 237) = 0 := by decide +kernel
  rw [mK, h]; exact mX_zero _
theorem big_238 (k : List UInt8) : mK k (bigL 238) = 0 := mX_small (by decide +kernel) (clampK_four _)
theorem mK_one (k : List UInt8) : mK k oneL = 0 := mX_small (by decide +kernel) (clampK_four _)
/-- The key while it is filled. -/
def uTo (k : Nat) : List UInt8 := 0 :: (List.replicate (k - 1) 255 ++ List.replicate (32 - k) 0)
theorem uTo_length (k : Nat) (h1 : 1 ≤ k) (h2 : k ≤ 31) : (uTo k).length = 32 := by simp [uTo]; omega
theorem uTo_step (k : Nat) (h1 : 1 ≤ k) (h2 : k < 31) : ((uTo k).map bv).set k (.int .u8 255) = (uTo (k + 1)).map bv := by
  have e : (Value.int .u8 255) = bv 255 := rfl
  rw [e, ← List.map_set]
  congr 1
  obtain ⟨j, rfl⟩ : ∃ j, k = j + 1 := ⟨k - 1, by omega⟩
  unfold uTo
  rw [List.set_cons_succ, List.set_append_right _ _ (by simp), show 32 - (j + 1) = (32 - (j + 1 + 1)) + 1 by omega, List.replicate_succ]
  simp only [Nat.add_sub_cancel, List.length_replicate, Nat.sub_self, List.set_cons_zero]
  rw [List.replicate_succ', List.append_assoc]
  rfl
theorem uTo_end : ((uTo 31).map bv).set 31 (.int .u8 127) = (bigL 0).map bv := by
  have e : (Value.int .u8 127) = bv 127 := rfl
  rw [e, ← List.map_set]
  rfl
theorem uTo_first : (uTo 1).map bv = zeroL.map bv := rfl
theorem big_set (x : UInt8) : ((bigL 0).map bv).set 0 (.int .u8 (x.toNat : Int)) = (bigL x).map bv := rfl
end Go.Proofs.YtmdoojfcgbokjaaDoor
