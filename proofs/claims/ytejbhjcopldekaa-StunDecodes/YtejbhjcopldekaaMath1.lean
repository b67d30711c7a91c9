/- Plain facts on words of 32 bits: turning, and the sum over bytes bit by bit. No program is named here. -/
import Derived.WalkKit
namespace Go.Proofs.Ytejbhjcopldekaa
set_option maxRecDepth 100000
open Go.RowKit

/-- x turned to the left by n bits, whatever n is. -/
def rotl (x : BitVec 32) (n : Int) : BitVec 32 := x.rotateLeft (n % 32).toNat

theorem and31 (n : Int) : bits .and .u64 (IntKind.u64.wrap n) 31 = n % 32 := by
  rw [IntKind.wrap_u64, u64_and _ _ (by omega) (by omega) (by omega) (by omega)]
  have e : ((31 : Int).toNat) = 2 ^ 5 - 1 := by decide
  rw [e, Nat.and_two_pow_sub_one_eq_mod]
  omega

theorem rotl_val (x : BitVec 32) (n : Int) :
    bits .or .u32 ((x.toNat : Int) * 2 ^ (n % 32).toNat % 4294967296) ((x.toNat : Int) / 2 ^ (32 - n % 32).toNat) = ((rotl x n).toNat : Int) := by
  obtain ⟨s, hs⟩ : ∃ s : Nat, s = (n % 32).toNat := ⟨_, rfl⟩
  have hs32 : s < 32 := by omega
  have e1 : (32 - n % 32).toNat = 32 - s := by omega
  have hx := x.isLt
  have e2 : ((x.toNat : Int) * 2 ^ s % 4294967296) = ((x.toNat * 2 ^ s % 4294967296 : Nat) : Int) := by simp
  have e3 : ((x.toNat : Int) / 2 ^ (32 - s)) = ((x.toNat / 2 ^ (32 - s) : Nat) : Int) := by simp
  have b3 : x.toNat / 2 ^ (32 - s) < 4294967296 := Nat.lt_of_le_of_lt (Nat.div_le_self _ _) (by simpa using hx)
  unfold rotl
  rw [e1, ← hs, e2, e3, u32_or_nat _ _ (Nat.mod_lt _ (by decide)) b3, BitVec.toNat_rotateLeft, Nat.mod_eq_of_lt hs32, Nat.shiftLeft_eq, Nat.shiftRight_eq_div_pow]

theorem rotl_rotl (x : BitVec 32) (a b : Int) : rotl (rotl x a) b = rotl x (a + b) := by
  unfold rotl
  obtain ⟨s, hs⟩ : ∃ s : Nat, s = (a % 32).toNat := ⟨_, rfl⟩
  obtain ⟨t, ht⟩ : ∃ s : Nat, s = (b % 32).toNat := ⟨_, rfl⟩
  have hu : ((a + b) % 32).toNat = (s + t) % 32 := by omega
  have h1 : s < 32 := by omega
  have h2 : t < 32 := by omega
  rw [hu, ← hs, ← ht]
  apply BitVec.eq_of_getLsbD_eq
  intro i hi
  simp only [BitVec.getLsbD_rotateLeft]
  have m1 : t % 32 = t := by omega
  have m2 : s % 32 = s := by omega
  have m3 : (s + t) % 32 % 32 = (s + t) % 32 := by omega
  rw [m1, m2, m3]
  by_cases c1 : i < t <;> by_cases c2 : i < (s + t) % 32 <;> simp [c1, c2, hi]
  · by_cases c3 : 32 - t + i < s <;> simp [c3]
    · rw [show 32 - s + (32 - t + i) = 32 - (s + t) % 32 + i by omega]
    · rw [show 32 - t + i - s = 32 - (s + t) % 32 + i by omega]
      simp; omega
  · by_cases c3 : 32 - t + i < s <;> simp [c3]
    · rw [show 32 - s + (32 - t + i) = i - (s + t) % 32 by omega]
    · rw [show 32 - t + i - s = i - (s + t) % 32 by omega]
      simp; omega
  · by_cases c3 : i - t < s <;> simp [c3]
    · rw [show 32 - s + (i - t) = 32 - (s + t) % 32 + i by omega]
    · rw [show i - t - s = 32 - (s + t) % 32 + i by omega]
      simp; omega
  · by_cases c3 : i - t < s <;> simp [c3]
    · rw [show 32 - s + (i - t) = i - (s + t) % 32 by omega]
    · rw [show i - t - s = i - (s + t) % 32 by omega]
      simp; omega

theorem rot_zero (x : BitVec 32) : x.rotateLeft 0 = x := by
  apply BitVec.eq_of_toNat_eq
  have hx := x.isLt
  rw [BitVec.toNat_rotateLeft, Nat.zero_mod, Nat.shiftLeft_zero, Nat.shiftRight_eq_div_pow, Nat.mod_eq_of_lt hx, Nat.sub_zero, Nat.div_eq_of_lt hx, Nat.or_zero]
theorem rotl_32 (x : BitVec 32) : rotl x 32 = x := by
  unfold rotl
  have : ((32 : Int) % 32).toNat = 0 := by decide
  rw [this, rot_zero]
theorem rotl_back (x : BitVec 32) (a : Int) : rotl (rotl x a) (-a) = x := by
  rw [rotl_rotl]
  unfold rotl
  have : ((a + -a) % 32).toNat = 0 := by have : a + -a = 0 := by omega
                                         rw [this]; decide
  rw [this, rot_zero]

/-! The sum over bytes (CRC32): one bit, eight bits, all bytes. -/
def crcPoly : BitVec 32 := 0xEDB88320#32
def crcBit (x : BitVec 32) : BitVec 32 := if x.getLsbD 0 then (x >>> 1) ^^^ crcPoly else x >>> 1
def crcBits : Nat → BitVec 32 → BitVec 32
  | 0, x => x
  | k + 1, x => crcBit (crcBits k x)
theorem and1 (y : BitVec 32) : bits .and .u32 (y.toNat : Int) 1 = ((y.toNat % 2 : Nat) : Int) := by
  have h := y.isLt
  have e := u32_and_nat y.toNat 1 (by omega) (by decide)
  rw [Nat.and_one_is_mod] at e
  exact e
theorem lsb_mod (y : BitVec 32) : y.getLsbD 0 = decide (y.toNat % 2 = 1) := by
  rw [BitVec.getLsbD, Nat.testBit_zero]
theorem half_val (y : BitVec 32) : (y.toNat : Int) / (2 : Int) = ((y >>> 1).toNat : Int) := by
  rw [BitVec.toNat_ushiftRight, Nat.shiftRight_eq_div_pow]; simp
theorem xor_val (y z : BitVec 32) : bits .xor .u32 (y.toNat : Int) (z.toNat : Int) = ((y ^^^ z).toNat : Int) := by
  rw [u32_xor_nat _ _ (by have := y.isLt; omega) (by have := z.isLt; omega), BitVec.toNat_xor]
theorem crcBit_yes (y : BitVec 32) (h : (bits .and .u32 (y.toNat : Int) 1 == 1) = true) : bits .xor .u32 ((y.toNat : Int) / (2 : Int)) 3988292384 = ((crcBit y).toNat : Int) := by
  rw [and1] at h
  have h1 : y.toNat % 2 = 1 := by have := eq_of_beq h; omega
  have e : (3988292384 : Int) = (crcPoly.toNat : Int) := by decide
  rw [half_val, e, xor_val, crcBit, lsb_mod, h1]
  rfl
theorem crcBit_no (y : BitVec 32) (h : (bits .and .u32 (y.toNat : Int) 1 == 1) = false) : (y.toNat : Int) / (2 : Int) = ((crcBit y).toNat : Int) := by
  rw [and1] at h
  have h1 : ¬ y.toNat % 2 = 1 := by have := ne_of_beq_false h; omega
  rw [half_val, crcBit, lsb_mod]
  simp [h1]
def wide (c : UInt8) : BitVec 32 := BitVec.ofNat 32 c.toNat
def crcNext (x : BitVec 32) (c : UInt8) : BitVec 32 := crcBits 8 (x ^^^ wide c)
def crcAll (x : BitVec 32) (l : List UInt8) : BitVec 32 := l.foldl crcNext x
def crcOf (l : List UInt8) : BitVec 32 := ~~~ crcAll 0xFFFFFFFF#32 l

/-- The document's way: the byte's bit k is held against the lowest bit. -/
def refBit (c : UInt8) (k : Nat) (x : BitVec 32) : BitVec 32 := if x.getLsbD 0 = (wide c).getLsbD k then x >>> 1 else (x >>> 1) ^^^ crcPoly
def refBits (c : UInt8) : Nat → BitVec 32 → BitVec 32
  | 0, x => x
  | k + 1, x => refBit c k (refBits c k x)

theorem shr_shr (v : BitVec 32) (a b : Nat) : v >>> a >>> b = v >>> (a + b) := (BitVec.shiftRight_add v a b).symm
theorem xor_right (a b c : BitVec 32) : a ^^^ b ^^^ c = a ^^^ c ^^^ b := by rw [BitVec.xor_assoc, BitVec.xor_comm b, ← BitVec.xor_assoc]
theorem crcBit_xor (x d : BitVec 32) : crcBit (x ^^^ d) = (if x.getLsbD 0 = d.getLsbD 0 then x >>> 1 else (x >>> 1) ^^^ crcPoly) ^^^ (d >>> 1) := by
  unfold crcBit
  rw [BitVec.getLsbD_xor, BitVec.ushiftRight_xor_distrib]
  cases hx : x.getLsbD 0 <;> cases hd : d.getLsbD 0 <;> simp [xor_right]
theorem refBits_eq (c : UInt8) (x : BitVec 32) : ∀ k, crcBits k (x ^^^ wide c) = refBits c k x ^^^ (wide c >>> k)
  | 0 => by simp [crcBits, refBits]
  | k + 1 => by
    rw [crcBits, refBits, refBits_eq c x k, crcBit_xor, shr_shr, BitVec.getLsbD_ushiftRight, Nat.add_zero]
    rfl
theorem wide_shift (c : UInt8) : wide c >>> 8 = 0#32 := by
  apply BitVec.eq_of_toNat_eq
  have hc := c.toNat_lt
  simp only [wide, BitVec.toNat_ushiftRight, BitVec.toNat_ofNat, Nat.shiftRight_eq_div_pow]
  omega
theorem refBits_next (c : UInt8) (x : BitVec 32) : crcNext x c = refBits c 8 x := by
  rw [crcNext, refBits_eq, wide_shift, BitVec.xor_zero]

/-- Bits that are still far off ride along. -/
theorem crcBits_far (x d : BitVec 32) : ∀ k, (∀ j, j < k → d.getLsbD j = false) → crcBits k (x ^^^ d) = crcBits k x ^^^ (d >>> k)
  | 0, _ => by simp [crcBits]
  | k + 1, h => by
    rw [crcBits, crcBits, crcBits_far x d k (fun j hj => h j (by omega)), crcBit_xor, shr_shr, BitVec.getLsbD_ushiftRight, Nat.add_zero, h k (by omega)]
    unfold crcBit
    cases (crcBits k x).getLsbD 0 <;> simp
theorem crcBits_add (x : BitVec 32) (j : Nat) : ∀ k, crcBits k (crcBits j x) = crcBits (j + k) x
  | 0 => rfl
  | k + 1 => by rw [crcBits, crcBits_add x j k]; rfl

def low (v : BitVec 32) : UInt8 := UInt8.ofNat (v.toNat % 256)
theorem wide_low (v : BitVec 32) (j : Nat) : (wide (low v)).getLsbD j = (decide (j < 8) && v.getLsbD j) := by
  have e : (wide (low v)) = BitVec.ofNat 32 (v.toNat % 2 ^ 8) := by
    unfold wide low
    rw [UInt8.toNat_ofNat']
    congr 1
    omega
  rw [e, BitVec.getLsbD_ofNat, Nat.testBit_mod_two_pow]
  by_cases hj : j < 8
  · have : j < 32 := by omega
    simp [hj, this, BitVec.getLsbD]
  · simp [hj]
/-- One byte of a word, taken from below: the rest of the word rides along. -/
theorem crcNext_low (s v : BitVec 32) : crcNext s (low v) ^^^ (v >>> 8) = crcBits 8 (s ^^^ v) := by
  obtain ⟨d, hd⟩ : ∃ d, d = v ^^^ wide (low v) := ⟨_, rfl⟩
  have hv : s ^^^ v = (s ^^^ wide (low v)) ^^^ d := by
    rw [hd, BitVec.xor_comm v, ← BitVec.xor_assoc, BitVec.xor_assoc s, BitVec.xor_self, BitVec.xor_zero]
  have h0 : ∀ j, j < 8 → d.getLsbD j = false := by
    intro j hj
    rw [hd, BitVec.getLsbD_xor, wide_low]
    simp [hj]
  have h8 : d >>> 8 = v >>> 8 := by
    rw [hd, BitVec.ushiftRight_xor_distrib, wide_shift, BitVec.xor_zero]
  rw [hv, crcBits_far _ _ 8 h0, h8]
  rfl
theorem crcNext_eq (s v : BitVec 32) : crcNext s (low v) = crcBits 8 (s ^^^ v) ^^^ (v >>> 8) := by
  rw [← crcNext_low, BitVec.xor_assoc, BitVec.xor_self, BitVec.xor_zero]
theorem crcAll_word (s v : BitVec 32) : crcAll s [low v, low (v >>> 8), low (v >>> 16), low (v >>> 24)] = crcBits 32 (s ^^^ v) := by
  have e1 : crcBits 8 (s ^^^ v) ^^^ (v >>> 8) ^^^ (v >>> 8) = crcBits 8 (s ^^^ v) := by rw [BitVec.xor_assoc, BitVec.xor_self, BitVec.xor_zero]
  have e2 : crcBits 16 (s ^^^ v) ^^^ (v >>> 16) ^^^ (v >>> 16) = crcBits 16 (s ^^^ v) := by rw [BitVec.xor_assoc, BitVec.xor_self, BitVec.xor_zero]
  have e3 : crcBits 24 (s ^^^ v) ^^^ (v >>> 24) ^^^ (v >>> 24) = crcBits 24 (s ^^^ v) := by rw [BitVec.xor_assoc, BitVec.xor_self, BitVec.xor_zero]
  have e4 : v >>> 32 = 0#32 := by
    apply BitVec.eq_of_toNat_eq
    have := v.isLt
    simp only [BitVec.toNat_ushiftRight, Nat.shiftRight_eq_div_pow, BitVec.toNat_ofNat]
    omega
  show crcNext (crcNext (crcNext (crcNext s (low v)) (low (v >>> 8))) (low (v >>> 16))) (low (v >>> 24)) = _
  rw [crcNext_eq s v, crcNext_eq _ (v >>> 8), e1, crcBits_add, shr_shr, crcNext_eq _ (v >>> 16), e2, crcBits_add, shr_shr, crcNext_eq _ (v >>> 24), e3, crcBits_add, shr_shr, e4, BitVec.xor_zero]
theorem crcAll_append (s : BitVec 32) (l m : List UInt8) : crcAll s (l ++ m) = crcAll (crcAll s l) m := List.foldl_append ..
theorem crc_self (l : List UInt8) : crcOf (l ++ [low (crcOf l), low (crcOf l >>> 8), low (crcOf l >>> 16), low (crcOf l >>> 24)]) = 0x2144DF1C#32 := by
  have e : crcAll 0xFFFFFFFF#32 l ^^^ crcOf l = 0xFFFFFFFF#32 := by
    unfold crcOf
    rw [BitVec.not_def, ← BitVec.xor_assoc, BitVec.xor_comm (crcAll 0xFFFFFFFF#32 l), BitVec.xor_assoc, BitVec.xor_self, BitVec.xor_zero]
    decide
  rw [crcOf, crcAll_append, crcAll_word, e]
  decide +kernel

end Go.Proofs.Ytejbhjcopldekaa
