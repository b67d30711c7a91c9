/- Several texts laid together. -/
import Derived.WalkKit
import Derived.ArgAppend
import Derived.WalkSpells
import Derived.Test.YtdancpcnjklifaaDoorRows
import Derived.WalkLawsBesides
import Derived.Laws.CopyOwn
import Derived.Laws.BytesArg
import Derived.OrdersHeld
import Derived.Deep.RegionHeld3
import Derived.Laws.OwnMore
import Derived.Deep.WholeRow
import Derived.Lib.SlBytesConst
import Derived.ProofKit
import Derived.OpenShut
import Derived.ShutString
import Derived.ChangeOld
import Derived.Below
import Derived.ChangeSame
/- Plain facts on words of 32 bits: turning, and the sum over bytes bit by bit. No program is named here. -/
namespace Go.Proofs.YtdancpcnjklifaaDoor
set_option maxRecDepth 100000
open Go.RowKit

/-- x turned to the left by n bits, whatever n is. -/
def rotl (x : BitVec 32) (n : Int) : BitVec 32 := x.rotateLeft (n % 32).toNat

theorem and31 (n : Int) : bits .and .u64 (IntKind.u64.wrap n) 31 = n % 32 := by
  rw [IntKind.wrap_u64, u64_and _ _ (by omega) (by omega) (by omega) (by omega)]
  have e : ((31 : Int).toNat) = 2 ^ 5 - 1 := by decide
  rw [e, Nat.and_two_pow_sub_one_eq_mod]
  omega

theorem rotl_val (x : BitVec 32) (n : Int) :
    bits .or .u32 ((x.toNat : Int) * 2 ^ (n % 32).toNat % 4294967296) ((x.toNat : Int) / 2 ^ (32 - n % 32).toNat) = ((rotl x n).toNat : Int) := by
  obtain ⟨s, hs⟩ : ∃ s : Nat, s = (n % 32).toNat := ⟨_, rfl⟩
  have hs32 : s < 32 := by omega
  have e1 : (32 - n % 32).toNat = 32 - s := by omega
  have hx := x.isLt
  have e2 : ((x.toNat : Int) * 2 ^ s % 4294967296) = ((x.toNat * 2 ^ s % 4294967296 : Nat) : Int) := by simp
  have e3 : ((x.toNat : Int) / 2 ^ (32 - s)) = ((x.toNat / 2 ^ (32 - s) : Nat) : Int) := by simp
  have b3 : x.toNat / 2 ^ (32 - s) < 4294967296 := Nat.lt_of_le_of_lt (Nat.div_le_self _ _) (by simpa using hx)
  unfold rotl
  rw [e1, ← hs, e2, e3, u32_or_nat _ _ (Nat.mod_lt _ (by decide)) b3, BitVec.toNat_rotateLeft, Nat.mod_eq_of_lt hs32, Nat.shiftLeft_eq, Nat.shiftRight_eq_div_pow]

theorem rotl_rotl (x : BitVec 32) (a b : Int) : rotl (rotl x a) b = rotl x (a + b) := by
  unfold rotl
  obtain ⟨s, hs⟩ : ∃ s : Nat, s = (a % 32).toNat := ⟨_, rfl⟩
  obtain ⟨t, ht⟩ : ∃ s : Nat, s = (b % 32).toNat := ⟨_, rfl⟩
  have hu : ((a + b) % 32).toNat = (s + t) % 32 := by omega
  have h1 : s < 32 := by omega
  have h2 : t < 32 := by omega
  rw [hu, ← hs, ← ht]
  apply BitVec.eq_of_getLsbD_eq
  intro i hi
  simp only [BitVec.getLsbD_rotateLeft]
  have m1 : t % 32 = t := by omega
  have m2 : s % 32 = s := by omega
  have m3 : (s + t) % 32 % 32 = (s + t) % 32 := by omega
  rw [m1, m2, m3]
  by_cases c1 : i < t <;> by_cases c2 : i < (s + t) % 32 <;> simp [c1, c2, hi]
  · by_cases c3 : 32 - t + i < s <;> simp [c3]
    · rw [show 32 - s + (32 - t + i) = 32 - (s + t) % 32 + i by omega]
    · rw [show 32 - t + i - s = 32 - (s + t) % 32 + i by omega]
      simp; omega
  · by_cases c3 : 32 - t + i < s <;> simp [c3]
    · rw [show 32 - s + (32 - t + i) = i - (s + t) % 32 by omega]
    · rw [show 32 - t + i - s = i - (s + t) % 32 by omega]
      simp; omega
  · by_cases c3 : i - t < s <;> simp [c3]
    · rw [show 32 - s + (i - t) = 32 - (s + t) % 32 + i by omega]
    · rw [show i - t - s = 32 - (s + t) % 32 + i by omega]
      simp; omega
  · by_cases c3 : i - t < s <;> simp [c3]
    · rw [show 32 - s + (i - t) = i - (s + t) % 32 by omega]
    · rw [show i - t - s = i - (s + t) % 32 by omega]
      simp; omega

theorem rot_zero (x : BitVec 32) : x.rotateLeft 0 = x := by
  apply BitVec.eq_of_toNat_eq
  have hx := x.isLt
  rw [BitVec.toNat_rotateLeft, Nat.zero_mod, Nat.shiftLeft_zero, Nat.shiftRight_eq_div_pow, Nat.mod_eq_of_lt hx, Nat.sub_zero, Nat.div_eq_of_lt hx, Nat.or_zero]
theorem rotl_32 (x : BitVec 32) : rotl x 32 = x := by
  unfold rotl
  have : ((32 : Int) % 32).toNat = 0 := by decide
  rw [this, rot_zero]
theorem rotl_back (x : BitVec 32) (a : Int) : rotl (rotl x a) (-a) = x := by
  rw [rotl_rotl]
  unfold rotl
  have : ((a + -a) % 32).toNat = 0 := by have : a + -a = 0 := by omega
                                         rw [this]; decide
  rw [this, rot_zero]

/-! The sum over bytes (CRC32): one bit, eight bits, all bytes. -/
def crcPoly : BitVec 32 := 0xEDB88320#32
def crcBit (x : BitVec 32) : BitVec 32 := if x.getLsbD 0 then (x >>> 1) ^^^ crcPoly else x >>> 1
def crcBits : Nat → BitVec 32 → BitVec 32
  | 0, x => x
  | k + 1, x => crcBit (crcBits k x)
theorem and1 (y : BitVec 32) : bits .and .u32 (y.toNat : Int) 1 = ((y.toNat % 2 : Nat) : Int) := by
  have h := y.isLt
  have e := u32_and_nat y.toNat 1 (by omega) (by decide)
  rw [Nat.and_one_is_mod] at e
  exact e
theorem lsb_mod (y : BitVec 32) : y.getLsbD 0 = decide (y.toNat % 2 = 1) := by
  rw [BitVec.getLsbD, Nat.testBit_zero]
theorem half_val (y : BitVec 32) : (y.toNat : Int) / (2 : Int) = ((y >>> 1).toNat : Int) := by
  rw [BitVec.toNat_ushiftRight, Nat.shiftRight_eq_div_pow]; simp
theorem xor_val (y z : BitVec 32) : bits .xor .u32 (y.toNat : Int) (z.toNat : Int) = ((y ^^^ z).toNat : Int) := by
  rw [u32_xor_nat _ _ (by have := y.isLt; omega) (by have := z.isLt; omega), BitVec.toNat_xor]
theorem crcBit_yes (y : BitVec 32) (h : (bits .and .u32 (y.toNat : Int) 1 == 1) = true) : bits .xor .u32 ((y.toNat : Int) / (2 : Int)) 3988292384 = ((crcBit y).toNat : Int) := by
  rw [and1] at h
  have h1 : y.toNat % 2 = 1 := by have := eq_of_beq h; omega
  have e : (3988292384 : Int) = (crcPoly.toNat : Int) := by decide
  rw [half_val, e, xor_val, crcBit, lsb_mod, h1]
  rfl
theorem crcBit_no (y : BitVec 32) (h : (bits .and .u32 (y.toNat : Int) 1 == 1) = false) : (y.toNat : Int) / (2 : Int) = ((crcBit y).toNat : Int) := by
  rw [and1] at h
  have h1 : ¬ y.toNat % 2 = 1 := by have := ne_of_beq_false h; omega
  rw [half_val, crcBit, lsb_mod]
  simp [h1]
def wide (c : UInt8) : BitVec 32 := BitVec.ofNat 32 c.toNat
def crcNext (x : BitVec 32) (c : UInt8) : BitVec 32 := crcBits 8 (x ^^^ wide c)
def crcAll (x : BitVec 32) (l : List UInt8) : BitVec 32 := l.foldl crcNext x
def crcOf (l : List UInt8) : BitVec 32 := ~~~ crcAll 0xFFFFFFFF#32 l

/-- The document's way: the byte's bit k is held against the lowest bit. -/
def refBit (c : UInt8) (k : Nat) (x : BitVec 32) : BitVec 32 := if x.getLsbD 0 = (wide c).getLsbD k then x >>> 1 else (x >>> 1) ^^^ crcPoly
def refBits (c : UInt8) : Nat → BitVec 32 → BitVec 32
  | 0, x => x
  | k + 1, x => refBit c k (refBits c k x)

theorem shr_shr (v : BitVec 32) (a b : Nat) : v >>> a >>> b = v >>> (a + b) := (BitVec.shiftRight_add v a b).symm
theorem xor_right (a b c : BitVec 32) : a ^^^ b ^^^ c = a ^^^ c ^^^ b := by rw [BitVec.xor_assoc, BitVec.xor_comm b, ← BitVec.xor_assoc]
theorem crcBit_xor (x d : BitVec 32) : crcBit (x ^^^ d) = (if x.getLsbD 0 = d.getLsbD 0 then x >>> 1 else (x >>> 1) ^^^ crcPoly) ^^^ (d >>> 1) := by
  unfold crcBit
  rw [BitVec.getLsbD_xor, BitVec.ushiftRight_xor_distrib]
  cases hx : x.getLsbD 0 <;> cases hd : d.getLsbD 0 <;> simp [xor_right]
theorem refBits_eq (c : UInt8) (x : BitVec 32) : ∀ k, crcBits k (x ^^^ wide c) = refBits c k x ^^^ (wide c >>> k)
  | 0 => by simp [crcBits, refBits]
  | k + 1 => by
    rw [crcBits, refBits, refBits_eq c x k, crcBit_xor, shr_shr, BitVec.getLsbD_ushiftRight, Nat.add_zero]
    rfl
theorem wide_shift (c : UInt8) : wide c >>> 8 = 0#32 := by
  apply BitVec.eq_of_toNat_eq
  have hc := c.toNat_lt
  simp only [wide, BitVec.toNat_ushiftRight, BitVec.toNat_ofNat, Nat.shiftRight_eq_div_pow]
  omega
theorem refBits_next (c : UInt8) (x : BitVec 32) : crcNext x c = refBits c 8 x := by
  rw [crcNext, refBits_eq, wide_shift, BitVec.xor_zero]

/-- Bits that are still far off ride along. -/
theorem crcBits_far (x d : BitVec 32) : ∀ k, (∀ j, j < k → d.getLsbD j = false) → crcBits k (x ^^^ d) = crcBits k x ^^^ (d >>> k)
  | 0, _ => by simp [crcBits]
  | k + 1, h => by
    rw [crcBits, crcBits, crcBits_far x d k (fun j hj => h j (by omega)), crcBit_xor, shr_shr, BitVec.getLsbD_ushiftRight, Nat.add_zero, h k (by omega)]
    unfold crcBit
    cases (crcBits k x).getLsbD 0 <;> simp
theorem crcBits_add (x : BitVec 32) (j : Nat) : ∀ k, crcBits k (crcBits j x) = crcBits (j + k) x
  | 0 => rfl
  | k + 1 => by rw [crcBits, crcBits_add x j k]; rfl

def low (v : BitVec 32) : UInt8 := UInt8.ofNat (v.toNat % 256)
theorem wide_low (v : BitVec 32) (j : Nat) : (wide (low v)).getLsbD j = (decide (j < 8) && v.getLsbD j) := by
  have e : (wide (low v)) = BitVec.ofNat 32 (v.toNat % 2 ^ 8) := by
    unfold wide low
    rw [UInt8.toNat_ofNat']
    congr 1
    omega
  rw [e, BitVec.getLsbD_ofNat, Nat.testBit_mod_two_pow]
  by_cases hj : j < 8
  · have : j < 32 := by omega
    simp [hj, this, BitVec.getLsbD]
  · simp [hj]
/-- One byte of a word, taken from below: the rest of the word rides along. -/
theorem crcNext_low (s v : BitVec 32) : crcNext s (low v) ^^^ (v >>> 8) = crcBits 8 (s ^^^ v) := by
  obtain ⟨d, hd⟩ : ∃ d, d = v ^^^ wide (low v) := ⟨_, rfl⟩
  have hv : s ^^^ v = (s ^^^ wide (low v)) ^^^ d := by
    rw [hd, BitVec.xor_comm v, ← BitVec.xor_assoc, BitVec.xor_assoc s, BitVec.xor_self, BitVec.xor_zero]
  have h0 : ∀ j, j < 8 → d.getLsbD j = false := by
    intro j hj
    rw [hd, BitVec.getLsbD_xor, wide_low]
    simp [hj]
  have h8 : d >>> 8 = v >>> 8 := by
    rw [hd, BitVec.ushiftRight_xor_distrib, wide_shift, BitVec.xor_zero]
  rw [hv, crcBits_far _ _ 8 h0, h8]
  rfl
theorem crcNext_eq (s v : BitVec 32) : crcNext s (low v) = crcBits 8 (s ^^^ v) ^^^ (v >>> 8) := by
  rw [← crcNext_low, BitVec.xor_assoc, BitVec.xor_self, BitVec.xor_zero]
theorem crcAll_word (s v : BitVec 32) : crcAll s [low v, low (v >>> 8), low (v >>> 16), low (v >>> 24)] = crcBits 32 (s ^^^ v) := by
  have e1 : crcBits 8 (s ^^^ v) ^^^ (v >>> 8) ^^^ (v >>> 8) = crcBits 8 (s ^^^ v) := by rw [BitVec.xor_assoc, BitVec.xor_self, BitVec.xor_zero]
  have e2 : crcBits 16 (s ^^^ v) ^^^ (v >>> 16) ^^^ (v >>> 16) = crcBits 16 (s ^^^ v) := by rw [BitVec.xor_assoc, BitVec.xor_self, BitVec.xor_zero]
  have e3 : crcBits 24 (s ^^^ v) ^^^ (v >>> 24) ^^^ (v >>> 24) = crcBits 24 (s ^^^ v) := by rw [BitVec.xor_assoc, BitVec.xor_self, BitVec.xor_zero]
  have e4 : v >>> 32 = 0#32 := by
    apply BitVec.eq_of_toNat_eq
    have := v.isLt
    simp only [BitVec.toNat_ushiftRight, Nat.shiftRight_eq_div_pow, BitVec.toNat_ofNat]
    omega
  show crcNext (crcNext (crcNext (crcNext s (low v)) (low (v >>> 8))) (low (v >>> 16))) (low (v >>> 24)) = _
  rw [crcNext_eq s v, crcNext_eq _ (v >>> 8), e1, crcBits_add, shr_shr, crcNext_eq _ (v >>> 16), e2, crcBits_add, shr_shr, crcNext_eq _ (v >>> 24), e3, crcBits_add, shr_shr, e4, BitVec.xor_zero]
theorem crcAll_append (s : BitVec 32) (l m : List UInt8) : crcAll s (l ++ m) = crcAll (crcAll s l) m := List.foldl_append ..
theorem crc_self (l : List UInt8) : crcOf (l ++ [low (crcOf l), low (crcOf l >>> 8), low (crcOf l >>> 16), low (crcOf l >>> 24)]) = 0x2144DF1C#32 := by
  have e : crcAll 0xFFFFFFFF#32 l ^^^ crcOf l = 0xFFFFFFFF#32 := by
    unfold crcOf
    rw [BitVec.not_def, ← BitVec.xor_assoc, BitVec.xor_comm (crcAll 0xFFFFFFFF#32 l), BitVec.xor_assoc, BitVec.xor_self, BitVec.xor_zero]
    decide
  rw [crcOf, crcAll_append, crcAll_word, e]
  decide +kernel

end Go.Proofs.YtdancpcnjklifaaDoor

/- Plain facts on numbers as bytes. No program is named here. -/
namespace Go.Proofs.YtdancpcnjklifaaDoor
set_option maxRecDepth 100000
open Go.RowKit

/-- The byte at a place (0 where there is none): a name of its own, that the walk leaves alone. -/
def at8 (l : List UInt8) (i : Nat) : UInt8 := l.getD i 0
theorem at8_lt (l : List UInt8) (i : Nat) : ((at8 l i).toNat : Int) < 256 := by have := (at8 l i).toNat_lt; omega
theorem at8_get (l : List UInt8) (i : Nat) (h : i < l.length) : at8 l i = l[i] := by simp [at8, h]

/-- The bytes that a slice leads to. -/
def Byt (w : World) (a : Option Addr) (len : Nat) (l : List UInt8) : Prop :=
  l.length = len ∧ (len = 0 ∨ ∃ b off, a = some ⟨b, off, none⟩ ∧ ∀ i, i < len → w.cell? ⟨b, off + i, none⟩ = some (.int .u8 ((at8 l i).toNat : Int)))

/-- The number that bytes tell, the lowest first. -/
def leN : List UInt8 → Nat
  | [] => 0
  | c :: r => c.toNat + 256 * leN r
/-- The lowest k bytes of a number, the lowest first. -/
def leB : Nat → Nat → List UInt8
  | 0, _ => []
  | k + 1, n => UInt8.ofNat (n % 256) :: leB k (n / 256)
def valB (bs : List UInt8) (big : Bool) : Nat := if big then leN bs.reverse else leN bs
def cutB (l : List UInt8) (at_ size : Nat) : List UInt8 := (l.drop at_).take size
def getV (l : List UInt8) (big : Bool) (at_ size : Nat) : Nat := valB (cutB l at_ size) big
theorem cutB_length (l : List UInt8) (at_ size : Nat) (h : at_ + size ≤ l.length) : (cutB l at_ size).length = size := by simp [cutB]; omega
theorem cutB_at (l : List UInt8) (at_ size i : Nat) (h : i < size) : at8 (cutB l at_ size) i = at8 l (at_ + i) := by
  simp [at8, cutB, h]
def putB (size n : Nat) (big : Bool) : List UInt8 := if big then (leB size n).reverse else leB size n
/-- How many bytes ahead of the lowest byte i stands. -/
def posI (big : Bool) (size i : Int) : Int := if big then size - 1 - i else i

theorem leB_length : ∀ k n, (leB k n).length = k
  | 0, _ => rfl
  | k + 1, n => by simp [leB, leB_length k]
theorem putB_length (size n : Nat) (big : Bool) : (putB size n big).length = size := by cases big <;> simp [putB, leB_length]
theorem leN_lt : ∀ l : List UInt8, leN l < 256 ^ l.length
  | [] => by simp [leN]
  | c :: r => by
    have h := leN_lt r
    have hc := c.toNat_lt
    simp only [leN, List.length_cons, Nat.pow_succ]
    omega
theorem leN_append : ∀ l m : List UInt8, leN (l ++ m) = leN l + 256 ^ l.length * leN m
  | [], m => by simp [leN]
  | c :: r, m => by
    simp only [List.cons_append, leN, List.length_cons, Nat.pow_succ, leN_append r m, Nat.mul_add]
    rw [Nat.mul_comm (256 ^ r.length) 256, Nat.mul_assoc]
    omega
theorem leN_leB : ∀ k n, leN (leB k n) = n % 256 ^ k
  | 0, n => by simp [leB, leN, Nat.mod_one]
  | k + 1, n => by
    have e : (256 : Nat) ^ (k + 1) = 256 * 256 ^ k := by rw [Nat.pow_succ, Nat.mul_comm]
    rw [leB, leN, leN_leB k, UInt8.toNat_ofNat', e, Nat.mod_mul]
    omega
theorem leB_get : ∀ k n i (h : i < k), (leB k n)[i]'(by rw [leB_length]; exact h) = UInt8.ofNat (n / 256 ^ i % 256)
  | k + 1, n, 0, _ => by simp [leB]
  | k + 1, n, i + 1, h => by
    simp only [leB, List.getElem_cons_succ]
    rw [leB_get k (n / 256) i (by omega), Nat.div_div_eq_div_mul, Nat.pow_succ, Nat.mul_comm]
theorem leB_snoc (k n : Nat) : leB (k + 1) n = leB k n ++ [UInt8.ofNat (n / 256 ^ k % 256)] := by
  apply List.ext_getElem
  · simp [leB_length]
  · intro i h1 h2
    rw [leB_length] at h1
    rw [leB_get (k + 1) n i h1]
    by_cases hi : i < k
    · rw [List.getElem_append_left (by rw [leB_length]; exact hi), leB_get k n i hi]
    · have e : i = k := by omega
      subst e
      rw [List.getElem_append_right (by rw [leB_length]; exact Nat.le_refl _)]
      simp [leB_length]

/-- One byte more, the lowest first. -/
theorem getV_le_step (bs : List UInt8) (k : Nat) (h : k < bs.length) : leN (bs.take (k + 1)) = leN (bs.take k) + bs[k].toNat * 256 ^ k := by
  rw [List.take_succ_eq_append_getElem h, leN_append]
  simp only [List.length_take, leN]
  rw [Nat.min_eq_left (by omega), Nat.mul_zero, Nat.add_zero, Nat.mul_comm]
/-- One byte more, the highest first. -/
theorem getV_be_step (bs : List UInt8) (k : Nat) (h : k < bs.length) : leN (bs.take (k + 1)).reverse = 256 * leN (bs.take k).reverse + bs[k].toNat := by
  rw [List.take_succ_eq_append_getElem h, List.reverse_append]
  simp only [List.reverse_cons, List.reverse_nil, List.nil_append, List.singleton_append, leN]
  omega

/-- What stands in the number when k of its bytes have been read. -/
def accV (bs : List UInt8) (big : Bool) (k : Nat) : Nat := if big then leN (bs.take k).reverse * 256 ^ (bs.length - k) else leN (bs.take k)
theorem pow256 (k : Nat) : (256 : Nat) ^ k = 2 ^ (8 * k) := by rw [show (256 : Nat) = 2 ^ 8 by decide, ← Nat.pow_mul]
theorem or_far (a b m : Nat) (hb : b < 2 ^ m) : (a * 2 ^ m) ||| b = a * 2 ^ m + b := by
  rw [Nat.mul_comm, Nat.two_pow_add_eq_or_of_lt hb]
theorem accV_step (bs : List UInt8) (big : Bool) (k : Nat) (h : k < bs.length) :
    accV bs big k ||| (bs[k].toNat * 2 ^ (8 * (if big then bs.length - 1 - k else k))) = accV bs big (k + 1) := by
  have hc := (bs[k]).toNat_lt
  cases big
  · simp only [accV, Bool.false_eq_true, if_false]
    rw [getV_le_step bs k h, Nat.or_comm, pow256]
    have hl := leN_lt (bs.take k)
    rw [List.length_take, Nat.min_eq_left (by omega), pow256] at hl
    rw [or_far _ _ _ hl, Nat.add_comm]
  · simp only [accV, if_true]
    rw [getV_be_step bs k h]
    have e : bs.length - k = (bs.length - 1 - k) + 1 := by omega
    have e2 : bs.length - (k + 1) = bs.length - 1 - k := by omega
    rw [e2, e, Nat.pow_succ, ← pow256]
    obtain ⟨m, hm⟩ : ∃ m, m = bs.length - 1 - k := ⟨_, rfl⟩
    rw [← hm, Nat.mul_comm (256 ^ m) 256, ← Nat.mul_assoc, pow256]
    have hlt : bs[k].toNat * 2 ^ (8 * m) < 2 ^ (8 * (m + 1)) := by
      rw [Nat.mul_add, Nat.pow_add, Nat.mul_comm]
      exact Nat.mul_lt_mul_of_pos_left (by simpa using hc) (Nat.two_pow_pos _)
    have e3 : leN (bs.take k).reverse * 256 * 2 ^ (8 * m) = leN (bs.take k).reverse * 2 ^ (8 * (m + 1)) := by
      rw [Nat.mul_add 8 m 1, Nat.pow_add, Nat.mul_assoc, Nat.mul_comm 256]
    rw [e3, or_far _ _ _ hlt, Nat.add_mul, Nat.mul_comm 256, e3]
theorem accV_zero (bs : List UInt8) (big : Bool) : accV bs big 0 = 0 := by cases big <;> simp [accV, leN]
theorem accV_all (bs : List UInt8) (big : Bool) : accV bs big bs.length = valB bs big := by cases big <;> simp [accV, valB]
theorem accV_lt (bs : List UInt8) (big : Bool) (k : Nat) (h : k ≤ bs.length) : accV bs big k < 256 ^ bs.length := by
  cases big
  · simp only [accV, Bool.false_eq_true, if_false]
    have hl := leN_lt (bs.take k)
    rw [List.length_take, Nat.min_eq_left (by omega)] at hl
    exact Nat.lt_of_lt_of_le hl (Nat.pow_le_pow_right (by decide) h)
  · simp only [accV, if_true]
    have hl := leN_lt (bs.take k).reverse
    rw [List.length_reverse, List.length_take, Nat.min_eq_left (by omega)] at hl
    have : 256 ^ bs.length = 256 ^ k * 256 ^ (bs.length - k) := by rw [← Nat.pow_add]; congr 1; omega
    rw [this]
    exact Nat.mul_lt_mul_of_pos_right hl (Nat.pow_pos (by decide))
theorem posI_bound (big : Bool) (size i : Int) (h0 : 0 ≤ i) (h1 : i < size) : 0 ≤ posI big size i ∧ posI big size i < size := by cases big <;> simp [posI] <;> omega
theorem or_val64 (a b : Nat) (ha : a < 18446744073709551616) (hb : b < 18446744073709551616) : bits .or .u64 (a : Int) (b : Int) = ((a ||| b : Nat) : Int) := u64_or_nat a b ha hb
/-- A byte, laid at its place into the number. -/
theorem get_step (bs : List UInt8) (big : Bool) (k : Nat) (h : k < bs.length) (h8 : bs.length ≤ 8) :
    bits .or .u64 (accV bs big k : Int) (((at8 bs k).toNat : Int) * 2 ^ (8 * posI big bs.length k).toNat % 18446744073709551616) = (accV bs big (k + 1) : Int) := by
  obtain ⟨p, hp⟩ : ∃ p : Nat, p = if big then bs.length - 1 - k else k := ⟨_, rfl⟩
  have hp8 : p ≤ 7 := by rw [hp]; cases big <;> simp <;> omega
  have e1 : (8 * posI big bs.length k).toNat = 8 * p := by rw [hp]; cases big <;> simp [posI] <;> omega
  have hc := (at8 bs k).toNat_lt
  have hlt : (at8 bs k).toNat * 2 ^ (8 * p) < 18446744073709551616 := by
    have h1 : (at8 bs k).toNat * 2 ^ (8 * p) < 256 * 2 ^ (8 * p) := Nat.mul_lt_mul_of_pos_right hc (Nat.two_pow_pos _)
    have h2 : 2 ^ (8 * p) ≤ 2 ^ 56 := Nat.pow_le_pow_right (by decide) (by omega)
    omega
  have ha : accV bs big k < 18446744073709551616 := by
    have h1 := accV_lt bs big k (by omega)
    have h2 : 256 ^ bs.length ≤ 256 ^ 8 := Nat.pow_le_pow_right (by decide) h8
    omega
  have e2 : (((at8 bs k).toNat : Int) * 2 ^ (8 * p) % 18446744073709551616) = (((at8 bs k).toNat * 2 ^ (8 * p) : Nat) : Int) := by
    have h1 : (((at8 bs k).toNat : Int) * 2 ^ (8 * p)) = (((at8 bs k).toNat * 2 ^ (8 * p) : Nat) : Int) := by simp
    rw [h1]; omega
  rw [e1, e2, or_val64 _ _ ha hlt, at8_get bs k h, hp, accV_step bs big k h]
/-- A byte as a value. -/
def bv (c : UInt8) : Value := .int .u8 (c.toNat : Int)
theorem putB_at (sz n : Nat) (big : Bool) (k : Nat) (h : k < sz) : ((at8 (putB sz n big) k).toNat : Int) = ((n : Int) / 2 ^ (8 * posI big sz k).toNat) % 256 := by
  obtain ⟨p, hp⟩ : ∃ p : Nat, p = if big then sz - 1 - k else k := ⟨_, rfl⟩
  have hps : p < sz := by rw [hp]; cases big <;> simp <;> omega
  have e1 : (8 * posI big sz k).toNat = 8 * p := by rw [hp]; cases big <;> simp [posI] <;> omega
  have e2 : at8 (putB sz n big) k = UInt8.ofNat (n / 256 ^ p % 256) := by
    rw [at8_get _ _ (by rw [putB_length]; exact h)]
    cases big
    · simp only [putB, Bool.false_eq_true, if_false] at hp ⊢
      rw [leB_get _ _ _ h, hp]
    · simp only [putB, if_true] at hp ⊢
      rw [List.getElem_reverse, leB_get _ _ _ (by rw [leB_length]; omega)]
      simp only [leB_length]
      rw [hp]
  rw [e1, e2, UInt8.toNat_ofNat', pow256]
  have e3 : ((n : Int) / 2 ^ (8 * p)) = ((n / 2 ^ (8 * p) : Nat) : Int) := by simp
  rw [e3]
  omega
theorem take_at (l : List UInt8) (k : Nat) (h : k < l.length) : l.take (k + 1) = l.take k ++ [at8 l k] := by
  rw [List.take_succ_eq_append_getElem h, at8_get l k h]
/-- What is owned, as bytes that a slice leads to. -/
theorem Byt.ofOwn {w : World} {base e g n cap : Nat} {l : List UInt8} (h : w.ownsRow base e 1 (.slice (some ⟨g, 0, none⟩) n cap) n (l.map bv)) : Byt w (some ⟨g, 0, none⟩) n l := by
  have hl : l.length = n := by have := h.1; simpa using this
  refine ⟨hl, .inr ⟨g, 0, rfl, fun i hi => ?_⟩⟩
  have hc := h.cellAt i (by omega)
  rw [Nat.zero_add, hc, List.getElem?_map, at8_get l i (by omega)]
  simp [bv, show i < l.length by omega]
theorem Byt.cells {w : World} {a : Option Addr} {len : Nat} {l : List UInt8} (h : Byt w a len l) : ∀ ad, a = some ad → ∀ j v, (l.map bv)[j]? = some v → w.cell? (ad.add j) = some v := by
  intro ad ha j v hj
  have hjl : j < l.length := by
    rcases Nat.lt_or_ge j l.length with h | h
    · exact h
    · simp [List.getElem?_eq_none (show (l.map bv).length ≤ j by simpa using h)] at hj
  have hl := h.1
  rcases h.2 with h0 | ⟨b, off, e, hc⟩
  · omega
  · rw [ha] at e
    cases e
    have hadd : (⟨b, off, none⟩ : Addr).add j = ⟨b, off + j, none⟩ := by unfold Addr.add; split <;> simp_all
    rw [hadd, hc j (by omega), at8_get l j hjl]
    simpa [hjl, bv] using hj
theorem Byt.later {w w' : World} {a : Option Addr} {len : Nat} {l : List UInt8} (h : Byt w a len l) (hb : Below w.heap.size w w') : Byt w' a len l := by
  refine ⟨h.1, ?_⟩
  rcases h.2 with h0 | ⟨b, off, e, hc⟩
  · exact .inl h0
  · refine .inr ⟨b, off, e, fun i hi => ?_⟩
    have := hc i hi
    rw [hb.cell (p := ⟨b, off + i, none⟩) (World.block_lt_of_cell? w _ this)]
    exact this
theorem bv_oneCell (l : List UInt8) : ∀ u ∈ l.map bv, u.oneCell' = true := by
  intro u hu
  simp only [List.mem_map] at hu
  obtain ⟨c, _, rfl⟩ := hu
  rfl
end Go.Proofs.YtdancpcnjklifaaDoor

/- Slices of one-cell things that lie anywhere within a row of the call's own: what an append makes of them. No program is named here. -/
namespace Go.Proofs.YtdancpcnjklifaaDoor
set_option maxRecDepth 100000
open Go.RowKit

/-- The things that a slice leads to, which may lie anywhere within a row. -/
def Seg (w : World) (e : TypeId) (a : Option Addr) (n cap : Nat) (vs : List Value) : Prop :=
  vs.length = n ∧ ((a = none ∧ n = 0 ∧ cap = 0) ∨ ∃ g off cur, a = some ⟨g, off, none⟩ ∧ w.heap[g]? = some (.cells cur e (0, 0)) ∧ off + cap ≤ cur.size ∧ n ≤ cap ∧ ∀ i, i < n → cur[off + i]? = vs[i]?)
def blockOf (a : Option Addr) : Option Nat := a.map (·.block)

theorem Seg.nil (w : World) (e : TypeId) : Seg w e none 0 0 [] := ⟨rfl, .inl ⟨rfl, rfl, rfl⟩⟩
theorem Seg.kept {w w' : World} {e : TypeId} {a : Option Addr} {n cap : Nat} {vs : List Value} (h : Seg w e a n cap vs) (hk : ∀ g, blockOf a = some g → w'.heap[g]? = w.heap[g]?) : Seg w' e a n cap vs := by
  refine ⟨h.1, ?_⟩
  rcases h.2 with h0 | ⟨g, off, cur, rfl, hg, h1, h2, h3⟩
  · exact .inl h0
  · exact .inr ⟨g, off, cur, rfl, by rw [hk g rfl]; exact hg, h1, h2, h3⟩
theorem Seg.lt {w : World} {e : TypeId} {a : Option Addr} {n cap : Nat} {vs : List Value} (h : Seg w e a n cap vs) : ∀ g, blockOf a = some g → g < w.heap.size := by
  intro g hg
  rcases h.2 with ⟨rfl, _⟩ | ⟨g', off, cur, rfl, hh, _⟩
  · simp [blockOf] at hg
  · simp [blockOf] at hg
    subst hg
    exact (Array.getElem?_eq_some_iff.1 hh).1
theorem Seg.cell {w : World} {e : TypeId} {a : Option Addr} {n cap : Nat} {vs : List Value} (h : Seg w e a n cap vs) (i : Nat) (hi : i < n) : ∃ g off, a = some ⟨g, off, none⟩ ∧ w.cell? ⟨g, off + i, none⟩ = vs[i]? ∧ w.frozen? ⟨g, off + i, none⟩ = false := by
  rcases h.2 with ⟨_, h0, _⟩ | ⟨g, off, cur, rfl, hg, h1, h2, h3⟩
  · omega
  · exact ⟨g, off, rfl, by rw [cell_of_row w g (off + i) cur e (0, 0) hg]; exact h3 i hi, frozen_of_row w g (off + i) cur e hg⟩
theorem Seg.ofOwn {w : World} {base : Nat} {e : TypeId} {v : Value} {n : Nat} {xs : List Value} (h : w.ownsRow base e 1 v n xs) (hn : 0 < n) :
    ∃ g cap, v = .slice (some ⟨g, 0, none⟩) n cap ∧ base ≤ g ∧ Seg w e (some ⟨g, 0, none⟩) n cap xs := by
  rcases h.2 with ⟨_, h0⟩ | ⟨g, cap, cur, rfl, hb, hg, hnc, hcm, hcs, htake⟩
  · omega
  · refine ⟨g, cap, rfl, hb, by have := h.1; omega, .inr ⟨g, 0, cur, rfl, hg, by omega, hnc, fun i hi => ?_⟩⟩
    rw [← htake, List.getElem?_take, if_pos (by omega)]
    simp

theorem addr_add (g off j : Nat) : (⟨g, off, none⟩ : Addr).add j = ⟨g, off + j, none⟩ := by unfold Addr.add; split <;> simp_all

/-- One thing behind the others: it goes where there is room, or all go to a new row. -/
theorem append_seg {P : Program} (t ty e : TypeId) (i : TypeInfo) (z : Value) (bytes : Nat) (ht : P.underlying t = some (.slice e)) (hi : P.info? e = some i) (hz : i.zero = some z) (hsize : i.size = 1) (hby : i.bytes = bytes) (hzs : z.cells.size = 1)
    (w : World) (a : Option Addr) (n cap : Nat) (vs : List Value) (h : Seg w e a n cap vs) (x : Value) (hx : x.oneCell' = true) (hn : n + 1 ≤ maxLen) (hb : (n + 1) * bytes ≤ 140737488355328) :
    ∃ a' cap' w2, (Builtin.append_ #[t, t] ty #[.slice a n cap, .slice (some ⟨w.heap.size, 0, none⟩) 1 1]).run P (w.alloc (.cells #[x] e)) = .ok (.slice a' (n + 1) cap') w2 ∧
      Seg w2 e a' (n + 1) cap' (vs ++ [x]) ∧ w.grownBy w2 (blockOf a) ∧ (blockOf a' = blockOf a ∨ ∀ j, blockOf a' = some j → w.heap.size ≤ j) ∧ w.heap.size + 1 ≤ w2.heap.size := by
  have hnew : ∀ j u, [x][j]? = some u → (w.alloc (.cells #[x] e)).cell? ((⟨w.heap.size, 0, none⟩ : Addr).add j) = some u := cell_one_new _ _ _
  have h1c : ∀ u ∈ [x], u.oneCell' = true := by intro u hu; simp at hu; subst hu; exact hx
  have hv := h.1
  have hal : ∀ g, blockOf a = some g → (w.alloc (.cells #[x] e)).heap[g]? = w.heap[g]? := fun g hg => Below.heap_alloc w _ g (h.lt g hg)
  have grown_of : ∀ w2 : World, (w.alloc (.cells #[x] e)).grownBy w2 none → w.grownBy w2 (blockOf a) := fun w2 hg =>
    ⟨hg.os, hg.tape, hg.output, by have := hg.size; simp at this; omega, fun k hk hne => by rw [hg.block k (by simp; omega) (by simp)]; exact Below.heap_alloc w _ k hk⟩
  rcases h.2 with ⟨rfl, rfl, rfl⟩ | ⟨g, off, cur, rfl, hg, hoc, hnc, hcells⟩
  · obtain rfl : vs = [] := List.eq_nil_of_length_eq_zero hv
    obtain ⟨v', w2, hr, hown, hgr, _⟩ := run_append_own (P := P) (w.alloc (.cells #[x] e)) w.heap.size t ty e i z 1 bytes ht hi hz hsize hby hzs (by decide) (.slice none 0 0) 0 [] (World.ownsRow_nil _ _ _ _) ⟨w.heap.size, 0, none⟩ 1 1 [x] rfl hnew h1c hn hb (by simp)
    obtain ⟨g, cap', rfl, hbg, hseg⟩ := Seg.ofOwn hown (by omega)
    exact ⟨_, _, w2, hr, by simpa using hseg, grown_of w2 hgr, .inr (fun j hj => by simp [blockOf] at hj; omega), by have := hgr.size; simpa using this⟩
  · have hold : ∀ j u, vs[j]? = some u → (w.alloc (.cells #[x] e)).cell? ((⟨g, off, none⟩ : Addr).add j) = some u := by
      intro j u hj
      have hjn : j < n := by
        rcases Nat.lt_or_ge j vs.length with hh | hh
        · omega
        · rw [List.getElem?_eq_none hh] at hj; cases hj
      rw [addr_add, cell_of_row _ g (off + j) cur e (0, 0) (by rw [hal g rfl]; exact hg), hcells j hjn]
      exact hj
    by_cases hroom : n + 1 ≤ cap
    · have hgA : (w.alloc (.cells #[x] e)).heap[g]? = some (.cells cur e (0, 0)) := by rw [hal g rfl]; exact hg
      have hr := run_append_room_cells (P := P) (w.alloc (.cells #[x] e)) t ty e i ht hi g off n cap ⟨w.heap.size, 0, none⟩ 1 1 [x] (by simp [hsize]) hnew h1c hroom
        (by intro j hj; simp at hj; subst hj
            rw [hsize, Nat.mul_one, cell_of_row _ g _ cur e (0, 0) hgA]; simp; omega)
        (by intro j hj; exact frozen_of_row _ g _ cur e hgA)
      rw [hsize, Nat.mul_one] at hr
      have hset : (w.alloc (.cells #[x] e)).setCells g (off + n) [x] = (w.alloc (.cells #[x] e)).setCell ⟨g, off + n, none⟩ x := rfl
      rw [hset] at hr
      refine ⟨_, _, _, hr, ⟨by simp [hv], .inr ⟨g, off, cur.setIfInBounds (off + n) x, rfl, heap_setCell_same _ g (off + n) cur e x hgA, by simpa using hoc, hroom, ?_⟩⟩, ?_, .inl rfl, by simp [World.setCell]⟩
      · intro j hj
        rw [Array.getElem?_setIfInBounds]
        by_cases hjn : j = n
        · subst hjn
          rw [if_pos rfl, if_pos (by omega)]
          simp [← hv]
        · rw [if_neg (by omega), hcells j (by omega), List.getElem?_append_left (by omega)]
      · refine ⟨rfl, rfl, rfl, by simp, fun k hk hne => ?_⟩
        rw [heap_setCell_other _ ⟨g, off + n, none⟩ k x (by intro e; apply hne; simp [blockOf, e])]
        exact Below.heap_alloc w _ k hk
    · obtain ⟨v', w2, hr, hown, hgr⟩ := run_append_arg_grows (P := P) (w.alloc (.cells #[x] e)) t ty e i z 1 bytes ht hi hz hsize hby hzs (by decide) ⟨g, off, none⟩ n cap vs (by omega) hold ⟨w.heap.size, 0, none⟩ 1 1 [x] rfl hnew (by omega) hn hb
      obtain ⟨g', cap', rfl, hbg, hseg⟩ := Seg.ofOwn hown (by omega)
      exact ⟨_, _, w2, hr, hseg, grown_of w2 hgr, .inr (fun j hj => by simp [blockOf] at hj; simp at hbg; omega), by have := hgr.size; simpa using this⟩
theorem below_append {B : Nat} {W w2 : World} {a : Option Addr} (hg : W.grownBy w2 (blockOf a)) (hs : W.heap.size + 1 ≤ w2.heap.size) (hB : B ≤ W.heap.size) (ha : ∀ j, blockOf a = some j → B ≤ j) (o : Obj) : Below B (W.alloc o) w2 :=
  ⟨hg.os, hg.tape, hg.output, by simpa using hs, fun j hj => by
    rw [hg.block j (by omega) (by intro e; have := ha j e.symm; omega)]
    exact (Below.heap_alloc W o j (by omega)).symm⟩
/-- An append whose run is known, for the walk. -/
theorem wpList_append_run {P : Program} {w : World} {ops : Array Oper} {rest : List Oper} {o : Oper} {a : Act} {Q : Exit → Act → World → Prop} (hgd : o.guard = none) (s x : Operand) (t : TypeId)
    (ho : o.op = .call { callee := .builtin .append, args := #[s, x], argTypes := #[t, t] }) (vs vx v' : Value) (w2 : World) (hs : a.eval s = vs) (hx : a.eval x = vx)
    (hr : (Builtin.append_ #[t, t] o.type #[vs, vx]).run P w = .ok v' w2) (h : wpList P ops Q rest (a.put o.dst v') w2) : wpList P ops Q (o :: rest) a w := by
  refine wpList_plain hgd fun K hK => ?_
  unfold Oper.wp execOp
  simp only [ho, resolve, invoke, builtin, Sem.run_bind, Sem.run_pure, Result.andThen_ok, List.map_toArray, List.map_cons, List.map_nil, hs, hx, hr]
  exact hK _ _ h
/-- Where the walk lays what is left when the first one is cut off. -/
def restAddr (g off cap : Nat) : Addr := if cap = 1 then ⟨g, off, none⟩ else ⟨g, off + 1, none⟩
theorem Seg.rest {w : World} {e : TypeId} {g off n cap : Nat} {v : Value} {vs : List Value} (h : Seg w e (some ⟨g, off, none⟩) (n + 1) cap (v :: vs)) :
    Seg w e (some (restAddr g off cap)) n (cap - 1) vs := by
  have hl := h.1
  rcases h.2 with ⟨e0, _⟩ | ⟨g', off', cur, e0, hg, hoc, hnc, hcs⟩
  · cases e0
  · cases e0
    simp at hl
    refine ⟨hl, .inr ?_⟩
    unfold restAddr
    by_cases hc : cap = 1
    · rw [if_pos hc]
      exact ⟨g, off, cur, rfl, hg, by omega, by omega, fun i hi => by omega⟩
    · rw [if_neg hc]
      refine ⟨g, off + 1, cur, rfl, hg, by omega, by omega, fun i hi => ?_⟩
      have := hcs (i + 1) (by omega)
      rw [show off + 1 + i = off + (i + 1) by omega, this]
      simp
/-- The first one overwritten: the others stay. -/
theorem Seg.over {w : World} {e : TypeId} {g off n cap : Nat} {v x : Value} {vs : List Value} (h : Seg w e (some ⟨g, off, none⟩) (n + 1) cap (v :: vs)) :
    Seg (w.setCell ⟨g, off, none⟩ x) e (some ⟨g, off, none⟩) (n + 1) cap (x :: vs) := by
  have hl := h.1
  rcases h.2 with ⟨e0, _⟩ | ⟨g', off', cur, e0, hg, hoc, hnc, hcs⟩
  · cases e0
  · cases e0
    refine ⟨by simpa using hl, .inr ⟨g, off, cur.setIfInBounds off x, rfl, heap_setCell_same w g off cur e x hg, by simpa using hoc, hnc, fun i hi => ?_⟩⟩
    rw [Array.getElem?_setIfInBounds]
    cases i with
    | zero => rw [Nat.add_zero, if_pos rfl, if_pos (by omega)]; simp
    | succ i =>
      rw [if_neg (by omega), hcs (i + 1) hi]
      simp
end Go.Proofs.YtdancpcnjklifaaDoor

/- The walks over words.Rot, words.crcByte and words.Crc: what each call answers, whatever it is handed. -/
namespace Go.Proofs.YtdancpcnjklifaaDoor
set_option maxRecDepth 100000
open Go.RowKit

theorem ret_int {k : IntKind} {a b : Int} (h : a = b) : Ending.returned (.int k a) = .returned (.int k b) := by rw [h]

set_option maxHeartbeats 400000 in
set_option maxRecDepth 100000 in
theorem rotl_any (x : BitVec 32) (n : Int) (w : World) :
    Calls Tryd.prog 101 #[.int .u32 (x.toNat : Int), .int .i64 n] w fun e w' => e = .returned (.int .u32 ((rotl x n).toNat : Int)) ∧ w' = w := by
  have h1 := and31 n
  have h2 : 0 ≤ n % 32 := by omega
  have h3 : n % 32 ≤ 31 := by omega
  have H := rotl_val x n
  have HH : Hid (bits .or .u32 ((x.toNat : Int) * 2 ^ (n % 32).toNat % 4294967296) ((x.toNat : Int) / 2 ^ (32 - n % 32).toNat) = ((rotl x n).toNat : Int)) := H
  clear H
  go_enter Tryd.func101, Tryd.ntmps101
  go_wp2
  go_ret
  exact ⟨ret_int HH.out, rfl⟩

set_option maxHeartbeats 400000 in
set_option maxRecDepth 100000 in
theorem rot_any (x : BitVec 32) (n : Int) (w : World) :
    Calls Tryd.prog 99 #[.int .u32 (x.toNat : Int), .int .i64 n] w fun e w' => e = .returned (.int .u32 ((rotl x n).toNat : Int)) ∧ w' = w := by
  go_enter Tryd.func99, Tryd.ntmps99
  go_wp2_with (go_at_call 101; refine (rotl_any _ _ _).mono ?_; rintro e w' ⟨rfl, rfl⟩)
  go_ret
  exact ⟨rfl, rfl⟩

theorem crc_step (x : BitVec 32) (c : UInt8) : bits .xor .u32 (x.toNat : Int) (c.toNat : Int) = ((x ^^^ wide c).toNat : Int) := by
  have hc := c.toNat_lt
  have e : (c.toNat : Int) = ((wide c).toNat : Int) := by
    unfold wide; rw [BitVec.toNat_ofNat]; omega
  rw [e, xor_val]
theorem not_val (y : BitVec 32) : bits .xor .u32 IntKind.u32.max (y.toNat : Int) = ((~~~ y).toNat : Int) := by
  have e : IntKind.u32.max = ((BitVec.allOnes 32).toNat : Int) := by decide
  rw [e, xor_val, BitVec.not_def, BitVec.xor_comm]
theorem crcAll_snoc (s : BitVec 32) (l : List UInt8) (k : Nat) (h : k < l.length) : crcAll s (l.take (k + 1)) = crcBits 8 (crcAll s (l.take k) ^^^ wide (at8 l k)) := by
  rw [List.take_succ_eq_append_getElem h, crcAll_append]
  simp [crcAll, crcNext, at8_get l k h]

end Go.Proofs.YtdancpcnjklifaaDoor

/- The walks over words.shift and words.Get: what each call answers. -/
namespace Go.Proofs.YtdancpcnjklifaaDoor
set_option maxRecDepth 100000
open Go.RowKit

theorem ret_two {k : IntKind} {a b : Int} {v : Value} (h : a = b) : Ending.returned (.tuple #[.int k a, v]) = .returned (.tuple #[.int k b, v]) := by rw [h]
set_option maxHeartbeats 400000 in
set_option maxRecDepth 100000 in
theorem shift_any (i size : Int) (big : Bool) (w : World) (h0 : 0 ≤ i) (h1 : i < size) (h2 : size ≤ 8) :
    Calls Tryd.prog 60 #[.int .i64 i, .int .i64 size, .bool big] w fun e w' => e = .returned (.int .i64 (8 * posI big size i)) ∧ w' = w := by
  cases big
  all_goals
    go_enter Tryd.func60, Tryd.ntmps60
    go_wp2
    go_ret
    exact ⟨rfl, rfl⟩

set_option maxHeartbeats 400000 in
set_option maxRecDepth 100000 in
theorem get_no (a : Option Addr) (len cap : Nat) (at_ size : Int) (big : Bool) (w : World) (hm : len ≤ maxLen) (ha : -9223372036854775808 ≤ at_ ∧ at_ ≤ 9223372036854775807)
    (h : ¬ (1 ≤ size ∧ size ≤ 8 ∧ 0 ≤ at_ ∧ at_ + size ≤ len)) :
    Calls Tryd.prog 83 #[.slice a len cap, .int .i64 at_, .int .i64 size, .bool big] w fun e w' => e = .returned (.tuple #[.int .u64 0, .bool false]) ∧ w' = w := by
  unfold maxLen at hm
  by_cases h1 : size < 1
  · go_enter Tryd.func83, Tryd.ntmps83
    go_wp2
    go_ret2
    exact ⟨rfl, rfl⟩
  by_cases h2 : 8 < size
  · go_enter Tryd.func83, Tryd.ntmps83
    go_wp2
    go_ret2
    exact ⟨rfl, rfl⟩
  by_cases h3 : at_ < 0
  · go_enter Tryd.func83, Tryd.ntmps83
    go_wp2
    go_ret2
    exact ⟨rfl, rfl⟩
  · have h4 : (len : Int) - size < at_ := by omega
    go_enter Tryd.func83, Tryd.ntmps83
    go_wp2
    go_ret2
    exact ⟨rfl, rfl⟩

set_option maxHeartbeats 400000 in
set_option maxRecDepth 100000 in
theorem get_yes (b off len cap : Nat) (at_ size : Nat) (big : Bool) (l : List UInt8) (w : World) (hm : cap ≤ maxLen) (hlc : len ≤ cap)
    (hB : Byt w (some ⟨b, off, none⟩) len l) (h1 : 1 ≤ size) (h8 : size ≤ 8) (h : at_ + size ≤ len) :
    Calls Tryd.prog 83 #[.slice (some ⟨b, off, none⟩) len cap, .int .i64 at_, .int .i64 size, .bool big] w fun e w' => e = .returned (.tuple #[.int .u64 (getV l big at_ size : Int), .bool true]) ∧ w' = w := by
  unfold maxLen at hm
  obtain ⟨hl, hB⟩ := hB
  have g1 : ¬ (size : Int) < 1 := by omega
  have g2 : ¬ (8 : Int) < size := by omega
  have g3 : ¬ (at_ : Int) < 0 := by omega
  have g4 : ¬ (len : Int) - size < at_ := by omega
  go_enter Tryd.func83, Tryd.ntmps83
  go_wp2
  go_loop [10, 38] (fun n i => ∃ k : Nat, k ≤ size ∧ i = .int .i64 k ∧ n = .int .u64 (accV (cutB l at_ size) big k : Int)) (fun _ i => size - (intOf i).toNat)
  case atStart => exact ⟨0, Nat.zero_le _, rfl, by rw [accV_zero]; rfl⟩
  case round =>
    obtain ⟨k, hk, rfl, rfl⟩ := hrel
    by_cases hlt : k < size
    · rcases hB with h0 | ⟨b', off', e, hc⟩
      · omega
      · cases e
        have hck := hc (at_ + k) (by omega)
        rw [← Nat.add_assoc] at hck
        have hb := at8_lt l (at_ + k)
        have hp := posI_bound big size k (by omega) (by omega)
        obtain ⟨hp0, hp1⟩ := hp
        have HS : Hid (bits .or .u64 (accV (cutB l at_ size) big k : Int) (IntKind.u64.wrap (((at8 l (at_ + k)).toNat : Int) * 2 ^ (8 * posI big size k).toNat)) = (accV (cutB l at_ size) big (k + 1) : Int)) := by
          have e1 := cutB_length l at_ size (by omega)
          have e := get_step (cutB l at_ size) big k (by omega) (by omega)
          rw [e1, cutB_at l at_ size k hlt] at e
          show _ = _
          rw [IntKind.wrap_u64]; exact e
        go_wp2_with fail
        refine (shift_any _ _ _ _ (by omega) (by omega) (by omega)).mono ?_
        rintro e w' ⟨rfl, rfl⟩
        go_wp2
        exact ⟨⟨k + 1, by omega, by go_num, by rw [HS.out]⟩, by simp [intOf]; omega⟩
    · have HE : Hid (accV (cutB l at_ size) big k = getV l big at_ size) := by
        have e1 := cutB_length l at_ size (by omega)
        have e2 : k = (cutB l at_ size).length := by omega
        show _ = _
        rw [e2, accV_all]; rfl
      go_wp2
      go_ret2
      exact ⟨ret_two (by rw [HE.out]), rfl⟩
end Go.Proofs.YtdancpcnjklifaaDoor

/- The walk over words.Put: the bytes that it answers, in new memory. -/
namespace Go.Proofs.YtdancpcnjklifaaDoor
set_option maxRecDepth 100000
open Go.RowKit

theorem Tryd.infoU8 : (Tryd.prog.info? 5).map (fun i => (i.zero, i.size, i.bytes)) = some (some (.int .u8 0), 1, 1) := by kernel_rfl
theorem Tryd.info1U8 : (Tryd.prog.info? 5).map (·.size) = some 1 := by kernel_rfl

/-- What stands in the row when k bytes of the number have been put. -/
def putTo (l : List UInt8) (sz n : Nat) (big : Bool) (k : Nat) : List Value := (l ++ (putB sz n big).take k).map bv
theorem putTo_succ (l : List UInt8) (sz n : Nat) (big : Bool) (k : Nat) (h : k < sz) : putTo l sz n big (k + 1) = putTo l sz n big k ++ [bv (at8 (putB sz n big) k)] := by
  unfold putTo
  rw [take_at _ _ (by rw [putB_length]; exact h)]; simp
/-- 'make([]byte, n, n + m)'. -/
theorem make_bytes (w : World) (n m : Nat) (h : n + m ≤ 2000000) :
    ∃ Z : List Value, Z.length = n + m ∧ (Instr.makeSlice 29 (.int .i64 (n : Int)) (.int .i64 ((n : Int) + (m : Int)))).run Tryd.prog w = .ok (.slice (some ⟨w.heap.size, 0, none⟩) n (n + m)) (w.alloc (.cells Z.toArray 5)) := by
  obtain ⟨i0, hi, hz0, hz1, hz2⟩ := info_parts Tryd.infoU8
  have hr := run_make (P := Tryd.prog) w 29 5 i0 (.int .u8 0) Tryd.underlying29 hi hz0 .i64 .i64 (n : Int) ((n : Int) + (m : Int)) (by omega) (by omega) (by rw [hz2]; omega) (by omega)
  have e1 : ((n : Int)).toNat = n := by omega
  have e2 : ((n : Int) + (m : Int)).toNat = n + m := by omega
  rw [e1, e2, hz1, Nat.mul_one] at hr
  exact ⟨(madeCells (Value.int .u8 0).cells (n + m)).toList, by simp [size_madeCells], by simpa using hr⟩

/-- 'copy' of bytes to the head of a new row: what is owned behind it. -/
theorem copy_bytes (w : World) (a : Option Addr) (len cap m : Nat) (l : List UInt8) (hB : Byt w a len l) (Z : List Value) (hZ : Z.length = len + m) (hm : len + m ≤ maxLen) :
    ∃ w2, (Builtin.copy_ #[29, 29] 3 #[.slice (some ⟨w.heap.size, 0, none⟩) len (len + m), .slice a len cap]).run Tryd.prog (w.alloc (.cells Z.toArray 5)) = .ok (.int .i64 (len : Int)) w2 ∧
      w2.ownsRow w.heap.size 5 1 (.slice (some ⟨w.heap.size, 0, none⟩) len (len + m)) len (l.map bv) ∧ Below w.heap.size w w2 := by
  have hl := hB.1
  have hbel : Below w.heap.size w (w.alloc (.cells Z.toArray 5)) := (Below.refl _ _).alloc (Nat.le_refl _) _
  have hg : (w.alloc (.cells Z.toArray 5)).heap[w.heap.size]? = some (.cells Z.toArray 5 (0, 0)) := heap_alloc_new w _
  by_cases h0 : len = 0
  · have hr := run_copy_none (P := Tryd.prog) (w.alloc (.cells Z.toArray 5)) 29 29 3 5 (some ⟨w.heap.size, 0, none⟩) a len (len + m) len cap Tryd.underlying29 Tryd.info1U8 (by rw [h0]; rfl)
    subst h0
    obtain rfl : l = [] := List.eq_nil_of_length_eq_zero hl
    exact ⟨_, hr, ⟨by simp, .inr ⟨w.heap.size, 0 + m, Z.toArray, rfl, Nat.le_refl _, hg, by omega, hm, by simpa using hZ, by simp⟩⟩, hbel⟩
  · rcases hB.2 with h | ⟨b, off, rfl, hc⟩
    · exact absurd h h0
    · have hr := run_copy_row Tryd.prog (w.alloc (.cells Z.toArray 5)) 29 29 3 5 w.heap.size 0 len (len + m) ⟨b, off, none⟩ len cap Z.toArray 5 (l.map bv) Tryd.underlying29 Tryd.info1U8 hg
        (by rw [List.length_map, hl]; exact (Nat.min_self len).symm) ((hB.later hbel).cells _ rfl) (by simp; omega) (bv_oneCell l)
      have hr' := hr
      rw [List.length_map, hl] at hr'
      refine ⟨_, hr', ?_, below_setRow hbel (Nat.le_refl _) _⟩
      · refine ⟨by simp [hl], .inr ⟨w.heap.size, len + m, _, rfl, Nat.le_refl _, setRow_heap _ _ _ _ _ _ hg, by omega, hm, ?_, ?_⟩⟩
        · simp; omega
        · simp [hl]

set_option maxHeartbeats 400000 in
set_option maxRecDepth 100000 in
theorem put_any (a : Option Addr) (len cap : Nat) (size : Int) (n : Nat) (big : Bool) (l : List UInt8) (w : World) (hm : len ≤ 1000000)
    (hB : Byt w a len l) (sz : Nat) (hsz : (sz : Int) = min (max size 0) 8) :
    Calls Tryd.prog 44 #[.slice a len cap, .int .i64 size, .int .u64 (n : Int), .bool big] w fun e w' => ∃ g, e = .returned (.slice (some ⟨g, 0, none⟩) (len + sz) (len + sz)) ∧ w.heap.size ≤ g ∧ Below w.heap.size w w' ∧ Byt w' (some ⟨g, 0, none⟩) (len + sz) (l ++ putB sz n big) := by
  have hB' := hB
  obtain ⟨hl, hB⟩ := hB
  obtain ⟨mx, e1⟩ : ∃ mx : Int, (if size < 0 then (0 : Int) else size) = mx := ⟨_, rfl⟩
  have e2 : (if 8 < mx then (8 : Int) else mx) = (sz : Int) := by rw [hsz, ← e1]; split <;> split <;> omega
  have hs8 : sz ≤ 8 := by omega
  clear hsz
  go_enter Tryd.func44, Tryd.ntmps44
  obtain ⟨Z, hZl, hmk⟩ := make_bytes w len sz (by omega)
  obtain ⟨w2, hcp, hown2, hb2⟩ := copy_bytes w a len cap sz l hB' Z hZl (by unfold maxLen; omega)
  obtain ⟨i0, hi, hz0, hz1, hz2⟩ := info_parts Tryd.infoU8
  have hbd2 := hb2.size
  go_wp2
  go_loopw [9, 25] (fun v i wr => ∃ k : Nat, k ≤ sz ∧ i = .int .i64 k ∧ v = .slice (some ⟨w.heap.size, 0, none⟩) (len + k) (len + sz) ∧
      wr.ownsRow w.heap.size 5 1 (.slice (some ⟨w.heap.size, 0, none⟩) (len + k) (len + sz)) (len + k) (putTo l sz n big k) ∧ Below w.heap.size w wr) (fun _ i _ => sz - (intOf i).toNat)
  case atStart => exact ⟨0, Nat.zero_le _, rfl, rfl, by simpa [putTo] using hown2, hb2⟩
  case round =>
    obtain ⟨k, hk, rfl, rfl, hown, hbel⟩ := hrel
    by_cases hlt : k < sz
    · obtain ⟨hp0, hp1⟩ := posI_bound big sz k (by omega) (by omega)
      go_wp2_with fail
      refine (shift_any _ _ _ _ (by omega) (by omega) (by omega)).mono ?_
      rintro e w' ⟨rfl, rfl⟩
      go_wp2_with (first
        | (at_builtin; refine wpList_append_fits _ rfl (.tmp 28) (.tmp 36) 29 rfl w.heap.size 5 i0 1 Tryd.underlying29 hi hz1 w.heap.size (len + k) (len + sz) (putTo l sz n big k) rfl ?c0 ⟨w'.heap.size, 0, none⟩ 1 1 [bv (at8 (putB sz n big) k)] rfl rfl ?c1 ?c2 ?c3 ?_))
      case c0 => exact hown.alloc _
      case c1 =>
        have hv : bv (at8 (putB sz n big) k) = .int .u8 ((n : Int) / 2 ^ (8 * posI big sz k).toNat % 256) := by unfold bv; rw [putB_at sz n big k hlt]
        rw [hv]
        exact cell_one_new _ _ _
      case c2 => exact bv_oneCell [at8 (putB sz n big) k]
      case c3 => omega
      intro w1 hown1 hgrow1
      have hb1 : Below w.heap.size w w1 := ((hbel.alloc hbel.size _).grown hgrow1 (by have := hbel.size; simp; omega) (by intro j hj; cases hj; exact Nat.le_refl _))
      have H1 : Hid (w1.ownsRow w.heap.size 5 1 (.slice (some ⟨w.heap.size, 0, none⟩) (len + (k + 1)) (len + sz)) (len + (k + 1)) (putTo l sz n big (k + 1))) := by
        show World.ownsRow _ _ _ _ _ _ _
        rw [putTo_succ l sz n big k hlt]; exact hown1
      clear hown1
      go_wp2
      exact ⟨⟨k + 1, by omega, by go_num, rfl, H1.out, hb1⟩, by simp [intOf]; omega⟩
    · go_wp2
      go_ret
      have ek : k = sz := by omega
      subst ek
      refine ⟨w.heap.size, rfl, Nat.le_refl _, hbel, ?_⟩
      have hf := Byt.ofOwn (l := l ++ (putB k n big).take k) hown
      rwa [List.take_of_length_le (by rw [putB_length]; exact Nat.le_refl _)] at hf
end Go.Proofs.YtdancpcnjklifaaDoor

/- The walks over words.Same and words.Xor. -/
namespace Go.Proofs.YtdancpcnjklifaaDoor
set_option maxRecDepth 100000
open Go.RowKit

/-- Bytes as a text. -/
def S (l : List UInt8) : ByteArray := ⟨l.toArray⟩
theorem S_inj {l m : List UInt8} : S l = S m ↔ l = m := by
  unfold S
  constructor
  · intro h
    have := congrArg (fun b : ByteArray => b.data.toList) h
    simpa using this
  · intro h; rw [h]
theorem S_toList (l : List UInt8) : (S l).toList = l := by rw [ByteArray.toList_eq]; rfl
theorem S_beq (l m : List UInt8) : ((S l).toList == (S m).toList) = decide (l = m) := by
  rw [S_toList, S_toList]
  by_cases h : l = m
  · rw [h]; simp
  · simp [h]
theorem conv_bytes (w : World) (a : Option Addr) (len cap : Nat) (l : List UInt8) (hB : Byt w a len l) :
    (convert 29 9 (.slice a len cap)).run Tryd.prog w = .ok (.string (S l)) w := by
  have hl := hB.1
  rcases hB.2 with h0 | ⟨b, off, rfl, hc⟩
  · have e : l = [] := List.eq_nil_of_length_eq_zero (by omega)
    subst e
    cases a with
    | none => exact run_convert_bytes_nil (P := Tryd.prog) w 29 5 Tryd.underlying29 Tryd.underlying5 len cap 9 Tryd.underlying9
    | some x =>
      rw [run_convert_bytes_string w 29 9 5 _ len cap Tryd.underlying29 Tryd.underlying5 Tryd.underlying9]
      rw [run_bytesToString w x len cap [] (by rw [h0]; rfl)]
      rfl
  · have h := run_convert_bytes_arg (P := Tryd.prog) w 29 5 Tryd.underlying29 Tryd.underlying5 b off len cap (l.map fun c => (c.toNat : Int)) (by simpa using hl)
      (fun i hi => by
        rw [hc i hi, at8_get l i (by omega)]
        simp [show i < l.length by omega]) 9 Tryd.underlying9
    rw [h]
    have e : strOfNums (l.map fun c => (c.toNat : Int)) = S l := by
      unfold strOfNums S
      rw [List.map_map]
      congr 2
      have hid : ((fun n : Int => UInt8.ofNat n.toNat) ∘ fun c : UInt8 => (c.toNat : Int)) = id := by
        funext c
        simp
      rw [hid, List.map_id]
    rw [e]

theorem ret_bool {a b : Bool} (h : a = b) : Ending.returned (.bool a) = .returned (.bool b) := by rw [h]
set_option maxHeartbeats 400000 in
set_option maxRecDepth 100000 in
theorem equal_any (a b : Option Addr) (len cap lenb capb : Nat) (l m : List UInt8) (w : World) (hA : Byt w a len l) (hB : Byt w b lenb m) :
    Calls Tryd.prog 59 #[.slice a len cap, .slice b lenb capb] w fun e w' => e = .returned (.bool (decide (l = m))) ∧ w' = w := by
  have h1 := conv_bytes w a len cap l hA
  have h2 := conv_bytes w b lenb capb m hB
  go_enter Tryd.func59, Tryd.ntmps59
  go_wp2
  go_ret
  exact ⟨ret_bool (S_beq l m), rfl⟩

set_option maxHeartbeats 400000 in
set_option maxRecDepth 100000 in
theorem same_any (a b : Option Addr) (len cap lenb capb : Nat) (l m : List UInt8) (w : World) (hA : Byt w a len l) (hB : Byt w b lenb m) :
    Calls Tryd.prog 43 #[.slice a len cap, .slice b lenb capb] w fun e w' => e = .returned (.bool (decide (l = m))) ∧ w' = w := by
  go_enter Tryd.func43, Tryd.ntmps43
  go_wp2_with (go_at_call 59; refine (equal_any _ _ _ _ _ _ l m _ hA hB).mono ?_; rintro e w' ⟨rfl, rfl⟩)
  go_ret
  exact ⟨rfl, rfl⟩

/-- The bits in which bytes differ, as far as both go. -/
def xorB (l m : List UInt8) : List UInt8 := List.zipWith (· ^^^ ·) l m
theorem xor_val8 (a b : UInt8) : bits .xor .u8 (a.toNat : Int) (b.toNat : Int) = ((a ^^^ b).toNat : Int) := by
  rw [u8_xor_nat _ _ (a.toNat_lt) (b.toNat_lt), UInt8.toNat_xor]
theorem xorB_length (l m : List UInt8) : (xorB l m).length = min l.length m.length := by simp [xorB]
theorem xorB_at (l m : List UInt8) (k : Nat) (h1 : k < l.length) (h2 : k < m.length) : at8 (xorB l m) k = at8 l k ^^^ at8 m k := by
  rw [at8_get _ _ (by rw [xorB_length]; omega), at8_get _ _ h1, at8_get _ _ h2]
  simp [xorB]
/-- What stands in the new row when k places are done. -/
def xorTo (l m : List UInt8) (n k : Nat) : List Value := ((xorB l m).take k).map bv ++ List.replicate (n - k) (.int .u8 0)
theorem xorTo_succ (l m : List UInt8) (n k : Nat) (hn : n = min l.length m.length) (h : k < n) : (xorTo l m n k).set k (bv (at8 l k ^^^ at8 m k)) = xorTo l m n (k + 1) := by
  unfold xorTo
  have hk : (((xorB l m).take k).map bv).length = k := by simp [xorB_length]; omega
  rw [List.set_append_right _ _ (by rw [hk]; exact Nat.le_refl _), hk, Nat.sub_self, take_at _ _ (by rw [xorB_length]; omega), xorB_at _ _ _ (by omega) (by omega)]
  rw [show n - k = (n - (k + 1)) + 1 by omega, List.replicate_succ]
  simp

theorem make_full (w : World) (n : Nat) (h : n ≤ 2000000) :
    ∃ w1, (Instr.makeSlice 29 (.int .i64 (n : Int)) (.int .i64 (n : Int))).run Tryd.prog w = .ok (.slice (some ⟨w.heap.size, 0, none⟩) n n) w1 ∧
      w1.ownsRow w.heap.size 5 1 (.slice (some ⟨w.heap.size, 0, none⟩) n n) n (List.replicate n (.int .u8 0)) ∧ Below w.heap.size w w1 := by
  obtain ⟨i0, hi, hz0, hz1, hz2⟩ := info_parts Tryd.infoU8
  obtain ⟨w1, h1, h2, h3⟩ := run_make_full (P := Tryd.prog) w w.heap.size 29 5 i0 (.int .u8 0) 1 Tryd.underlying29 hi hz0 hz1 .i64 .i64 n (by rw [hz2]; omega) (by unfold maxLen; omega) (Nat.le_refl _)
  refine ⟨w1, h1, ?_, (Below.refl _ _).grown h3 (Nat.le_refl _) (by intro k hk; cases hk)⟩
  have e : (madeCells (Value.int .u8 0).cells (n * 1)).toList = List.replicate n (.int .u8 0) := by
    rw [Nat.mul_one]; exact toList_madeCells_one _ _
  rwa [e] at h2

set_option maxHeartbeats 400000 in
set_option maxRecDepth 100000 in
theorem xor_any (a b : Option Addr) (len cap lenb capb : Nat) (l m : List UInt8) (w : World) (hA : Byt w a len l) (hB : Byt w b lenb m) (hla : len ≤ 1000000) (hlb : lenb ≤ 1000000) :
    Calls Tryd.prog 62 #[.slice a len cap, .slice b lenb capb] w fun e w' => ∃ g, e = .returned (.slice (some ⟨g, 0, none⟩) (min len lenb) (min len lenb)) ∧ w.heap.size ≤ g ∧ Below w.heap.size w w' ∧ Byt w' (some ⟨g, 0, none⟩) (min len lenb) (xorB l m) := by
  obtain ⟨n, hn⟩ : ∃ n, n = min len lenb := ⟨_, rfl⟩
  rw [← hn]
  obtain ⟨w1, hmk, hown1, hb1⟩ := make_full w n (by omega)
  have e1 : (if lenb < len then (lenb : Int) else (len : Int)) = (n : Int) := by split <;> omega
  have Hn : Hid (n = min len lenb) := hn
  have hn1 : n ≤ len := by omega
  have hn2 : n ≤ lenb := by omega
  clear hn
  go_enter Tryd.func62, Tryd.ntmps62
  go_wp2
  go_loopw [15] (fun i wr => ∃ k : Nat, k ≤ n ∧ i = .int .i64 k ∧ wr.ownsRow w.heap.size 5 1 (.slice (some ⟨w.heap.size, 0, none⟩) n n) n (xorTo l m n k) ∧ Below w.heap.size w wr) (fun i _ => n - (intOf i).toNat)
  case atStart => exact ⟨0, Nat.zero_le _, rfl, by simpa [xorTo] using hown1, hb1⟩
  case round =>
    obtain ⟨k, hk, rfl, hown, hbel⟩ := hrel
    have hlA := hA.1
    have hlB := hB.1
    by_cases hlt : k < n
    · rcases hA.2 with h0 | ⟨ba, offa, rfl, hca⟩
      · omega
      rcases hB.2 with h0 | ⟨bb, offb, rfl, hcb⟩
      · omega
      have hca' := hca k (by omega)
      have hcb' := hcb k (by omega)
      have hba := World.block_lt_of_cell? w _ hca'
      have hbb := World.block_lt_of_cell? w _ hcb'
      have ha1 : wr.cell? ⟨ba, offa + k, none⟩ = some (.int .u8 ((at8 l k).toNat : Int)) := by rw [hbel.cell (p := ⟨ba, offa + k, none⟩) hba]; exact hca'
      have hb2 : wr.cell? ⟨bb, offb + k, none⟩ = some (.int .u8 ((at8 m k).toNat : Int)) := by rw [hbel.cell (p := ⟨bb, offb + k, none⟩) hbb]; exact hcb'
      have hc0 := hown.cellAt k (by omega)
      have hfr := hown.frozenAt k
      obtain ⟨v0, hv0⟩ : ∃ v0, wr.cell? ⟨w.heap.size, k, none⟩ = some v0 := by
        rw [hc0]
        have : k < (xorTo l m n k).length := by have := hown.1; omega
        exact ⟨_, List.getElem?_eq_getElem this⟩
      have i1 : (k : Int) < (len : Int) := by omega
      have i2 : (k : Int) < (lenb : Int) := by omega
      have i3 : (k : Int) < (n : Int) := by omega
      have xv := xor_val8 (at8 l k) (at8 m k)
      clear hc0 hca hcb hown1 hb1 hmk
      have H1 : Hid ((wr.setCell ⟨w.heap.size, k, none⟩ (.int .u8 ((at8 l k ^^^ at8 m k).toNat : Int))).ownsRow w.heap.size 5 1 (.slice (some ⟨w.heap.size, 0, none⟩) n n) n (xorTo l m n (k + 1))) := by
        show World.ownsRow _ _ _ _ _ _ _
        rw [← xorTo_succ l m n k (by rw [hlA, hlB]; exact Hn.out) hlt]
        exact (hown.stored k _).1
      go_wp2
      go_region
      go_wp2
      exact ⟨⟨k + 1, by omega, by go_num, H1.out.drew, (hbel.setCell (Nat.le_refl _) _).drew⟩, by simp [intOf]; omega⟩
    · have ek : k = n := by omega
      subst ek
      go_wp2
      go_ret
      refine ⟨w.heap.size, rfl, Nat.le_refl _, hbel, ?_⟩
      have hf : wr.ownsRow w.heap.size 5 1 (.slice (some ⟨w.heap.size, 0, none⟩) k k) k ((xorB l m).map bv) := by
        have e : xorTo l m k k = (xorB l m).map bv := by
          unfold xorTo
          rw [List.take_of_length_le (by rw [xorB_length, hlA, hlB, ← Hn.out]; exact Nat.le_refl _)]
          simp
        rw [← e]; exact hown
      exact Byt.ofOwn hf
end Go.Proofs.YtdancpcnjklifaaDoor

/- A region that leaves its order open, where every operation lets what was there stand (a relation G on worlds, of which a growing memory is the use): an operation whose value is settled from now on may be taken first, so that one order serves for all. No program is named here. -/
namespace Go.Proofs.YtdancpcnjklifaaDoor
set_option maxRecDepth 100000
open Go.RowKit

section
variable {P : Program} {ops : Array Oper} {Q : Exit → Act → World → Prop} {md : Region.Mode} {G : World → World → Prop}

/-- Does it wait for all the others? Then nothing comes behind it. -/
def endsB (md : Region.Mode) (ops : Array Oper) (i : Nat) : Bool :=
  match ops[i]? with
  | none => false
  | some o => (List.range ops.size).all fun k => k == i || o.after.any fun e => Region.binds md e && e.on == k
theorem ends_spec {listed : Array Bool} {i j : Nat} (h : endsB md ops j = true) (hj : j ∈ Region.ready md ops listed) (hi : i ∈ Region.ready md ops listed) (hij : j ≠ i) : False := by
  obtain ⟨_, oj, hoj, hall⟩ := mem_ready.1 hj
  obtain ⟨hiun, oi, hoi, _⟩ := mem_ready.1 hi
  simp only [endsB, hoj, List.all_eq_true, List.mem_range] at h
  have hlt : i < ops.size := (Array.getElem?_eq_some_iff.1 hoi).1
  have h1 := h i hlt
  simp only [Bool.or_eq_true, beq_iff_eq] at h1
  rcases h1 with h1 | h1
  · exact hij h1.symm
  · obtain ⟨q, hq, hb, hon⟩ : ∃ (q : Nat) (hq : q < oj.after.size), Region.binds md oj.after[q] = true ∧ oj.after[q].on = i := by simpa using h1
    have h2 := hall _ (Array.getElem_mem hq) hb
    rw [hon] at h2
    rcases Nat.lt_or_ge i listed.size with h' | h'
    · simp [h'] at hiun h2; rw [hiun] at h2; cases h2
    · simp [Array.getElem?_eq_none h'] at h2

/-- Whatever order is picked from here on, each step being one of G. -/
def wpAnyG (P : Program) (md : Region.Mode) (ops : Array Oper) (Q : Exit → Act → World → Prop) (G : World → World → Prop) : Nat → Array Bool → Act → World → Prop
  | 0, listed, a, w => Region.ready md ops listed = [] ∧ Q .normal a w
  | fuel + 1, listed, a, w =>
    (Region.ready md ops listed = [] → Q .normal a w) ∧
    ∀ i ∈ Region.ready md ops listed, wpOp P ops Q i (fun a' w' => (G w w' ∨ endsB md ops i = true) ∧ wpAnyG P md ops Q G fuel (listed.setIfInBounds i true) a' w') a w
theorem wpAny_of_G : ∀ (fuel : Nat) (listed : Array Bool) (a : Act) (w : World), wpAnyG P md ops Q G fuel listed a w → wpAny P md ops Q fuel listed a w
  | 0, _, _, _, h => h
  | fuel + 1, _, _, _, h => ⟨h.1, fun i hi => wpOp_mono (fun a' w' h' => wpAny_of_G fuel _ a' w' h'.2) (h.2 i hi)⟩
theorem yieldsIf_weaken {S S' : World → Prop} {o : Oper} {v : Value} {a : Act} (h : YieldsIf P ops S o v a) (hs : ∀ w, S' w → S w) : YieldsIf P ops S' o v a := by
  rcases h with ⟨h1, h2⟩ | h
  · exact .inl ⟨h1, fun w hw => h2 w (hs w hw)⟩
  · exact .inr h
theorem wpAnyG_first (hrefl : ∀ w, G w w) (htrans : ∀ a b c, G a b → G b c → G a c) {i : Nat} {oi : Oper} {v : Value} (hi : ops[i]? = some oi) (hsel : ∀ (j : Nat) (o : Oper) cs b, ops[j]? = some o → o.op ≠ .select cs b)
    (hQ : ∀ c a w, Q (.panic c) (a.put oi.dst v) w → Q (.panic c) a w) :
    ∀ (fuel : Nat) (listed : Array Bool) (a : Act) (w : World),
      (∀ j oj, ops[j]? = some oj → j ≠ i → listed.getD j true = false → (∀ e ∈ oj.after, Region.binds md e = true → e.on ≠ i) → oi.apart ops oj = true) →
      i ∈ Region.ready md ops listed → YieldsIf P ops (G w) oi v a →
      wpAnyG P md ops Q G fuel (listed.setIfInBounds i true) (a.put oi.dst v) w → wpAnyG P md ops Q G (fuel + 1) listed a w := by
  intro fuel
  induction fuel with
  | zero =>
    intro listed a w _ hr hy H
    refine ⟨fun h => (by rw [h] at hr; cases hr), fun j hj => ?_⟩
    by_cases hji : j = i
    · subst hji; exact hy.wpOp hi (hrefl w) ⟨.inl (hrefl w), H⟩
    · have := ready_mono hj hji
      rw [H.1] at this
      cases this
  | succ fuel ih =>
    intro listed a w hfree hr hy H
    refine ⟨fun h => (by rw [h] at hr; cases hr), fun j hj => ?_⟩
    by_cases hji : j = i
    · subst hji; exact hy.wpOp hi (hrefl w) ⟨.inl (hrefl w), H⟩
    · have h1 := H.2 j (ready_mono hj hji)
      obtain ⟨hjun, oj, hoj, hall⟩ := mem_ready.1 hj
      have hnot : ∀ e ∈ oj.after, Region.binds md e = true → e.on ≠ i := fun e he hb heq => by
        have h1 := hall e he hb
        have h0 := (mem_ready.1 hr).1
        rw [heq] at h1
        rcases Nat.lt_or_ge i listed.size with h' | h'
        · simp [h'] at h0 h1; rw [h0] at h1; cases h1
        · simp [Array.getElem?_eq_none h'] at h1
      have h2 := wpOp_putIf hoj (hfree j oj hoj hji hjun hnot) (fun cs b => hsel i oi cs b hi) (fun cs b => hsel j oj cs b hoj) hQ hy h1
      have hfree' : ∀ k ok, ops[k]? = some ok → k ≠ i → (listed.setIfInBounds j true).getD k true = false →
          (∀ e ∈ ok.after, Region.binds md e = true → e.on ≠ i) → oi.apart ops ok = true := fun k ok hk hki hun hno => by
        refine hfree k ok hk hki ?_ hno
        by_cases hjk : j = k
        · subst hjk; exact hjun
        · rw [getD_set_ne true hjk] at hun; exact hun
      refine wpOp_mono (fun a' w' h3 => ?_) h2
      have hG : G w w' := h3.2.1.resolve_right (fun he => ends_spec he hj hr hji)
      refine ⟨.inl hG, ih (listed.setIfInBounds j true) a' w' hfree' (ready_mono hr (Ne.symm hji)) (yieldsIf_weaken h3.1 (fun w2 hw2 => htrans _ _ _ hG hw2)) ?_⟩
      rw [Array.setIfInBounds_comm _ _ hji]
      exact h3.2.2

/-- One order for all: number i, taken first (true), or the only one that may come up (false). -/
def wpSched (P : Program) (ops : Array Oper) (Q : Exit → Act → World → Prop) (G : World → World → Prop) (K : Act → World → Prop) : List (Nat × Bool) → Act → World → Prop
  | [], a, w => K a w
  | (i, b) :: r, a, w => ∃ o, ops[i]? = some o ∧
    ((Region.wanted o (yielded ops a.tmps) = false ∧ wpSched P ops Q G K r (a.put o.dst undef) w) ∨
     (Region.wanted o (yielded ops a.tmps) = true ∧
       ((∃ v, (∀ w', G w w' → (execOp a.eval o).run P w' = .ok (.value v) w') ∧ wpSched P ops Q G K r (a.put o.dst v) w) ∨
        (b = false ∧ o.wp P a w (fun a' w' => (G w w' ∨ endsB .any ops i = true) ∧ wpSched P ops Q G K r a' w') Q))))
/-- Which have come up behind such an order, if it is one. -/
def schedTo (md : Region.Mode) (ops : Array Oper) : List (Nat × Bool) → Array Bool → Option (Array Bool)
  | [], listed => some listed
  | (i, b) :: r, listed => if (bif b then (Region.ready md ops listed).contains i && Region.free md ops listed i else Region.ready md ops listed == [i] && Region.free md ops listed i) then schedTo md ops r (listed.setIfInBounds i true) else none

theorem sched_sound {md : Region.Mode} (hmd : md = .any) (hrefl : ∀ w, G w w) (htrans : ∀ a b c, G a b → G b c → G a c) (hs : Region.noSelect ops = true) (hQ : ∀ c a w d v, Q (.panic c) (a.put d v) w → Q (.panic c) a w) (fuel : Nat) (listed' : Array Bool) :
    ∀ (s : List (Nat × Bool)) (listed : Array Bool) (a : Act) (w : World), schedTo md ops s listed = some listed' →
      wpSched P ops Q G (fun a w => wpAnyG P md ops Q G fuel listed' a w) s a w → wpAnyG P md ops Q G (fuel + s.length) listed a w
  | [], listed, a, w, h, H => by
    simp only [schedTo, Option.some.injEq] at h
    subst h
    exact H
  | (i, b) :: r, listed, a, w, h, H => by
    obtain ⟨o, ho, H⟩ := H
    unfold schedTo at h
    split at h
    case isFalse => cases h
    rename_i hc
    have hfr : i ∈ Region.ready md ops listed ∧ Region.free md ops listed i = true ∧ (b = false → Region.ready md ops listed = [i]) := by
      cases b
      · simp only [cond_false, Bool.and_eq_true, beq_iff_eq] at hc
        exact ⟨by rw [hc.1]; simp, hc.2, fun _ => hc.1⟩
      · simp only [cond_true, Bool.and_eq_true] at hc
        exact ⟨by simpa using hc.1, hc.2, fun e => by cases e⟩
    obtain ⟨hr, hf, honly⟩ := hfr
    have ih := fun a w H => sched_sound hmd hrefl htrans hs hQ fuel listed' r (listed.setIfInBounds i true) a w h H
    show wpAnyG P md ops Q G ((fuel + r.length) + 1) listed a w
    rcases H with ⟨hw, H⟩ | ⟨hw, ⟨v, hv, H⟩ | ⟨hb, H⟩⟩
    · exact wpAnyG_first hrefl htrans ho (Region.noSelect_spec hs) (fun c a w => hQ c a w _ _) _ listed a w (Region.free_spec ho hf) hr (.inr ⟨hw, rfl⟩) (ih _ _ H)
    · exact wpAnyG_first hrefl htrans ho (Region.noSelect_spec hs) (fun c a w => hQ c a w _ _) _ listed a w (Region.free_spec ho hf) hr (.inl ⟨hw, hv⟩) (ih _ _ H)
    · refine ⟨fun h0 => absurd h0 (by rw [honly hb]; simp), fun j hj => ?_⟩
      rw [honly hb] at hj
      simp only [List.mem_singleton] at hj
      subst hj
      unfold wpOp
      simp only [ho, hw, if_true]
      exact .inl (Oper.wp_mono (fun a' w' h' => ⟨by rw [hmd]; exact h'.1, ih a' w' h'.2⟩) H)

/-- The beginning: one order for the whole region. -/
theorem wp_region_sched {id : Nat} {a : Act} {w : World} (hm : P.follows .mixedOrders = true) (hrefl : ∀ w, G w w) (htrans : ∀ a b c, G a b → G b c → G a c) (hs : Region.noSelect ops = true)
    (hQ : ∀ c a w d v, Q (.panic c) (a.put d v) w → Q (.panic c) a w) (s : List (Nat × Bool)) (hsz : s.length = ops.size)
    (hto : ((schedTo .any ops s (Array.replicate ops.size false)).map fun l => (Region.ready .any ops l).isEmpty) = some true)
    (h : wpSched P ops Q G (fun a w => Q .normal a w) s a { w with drawn := w.drawn + 1 }) : (Code.region id ops true).wp P Q a w := by
  cases hx : schedTo .any ops s (Array.replicate ops.size false) with
  | none => rw [hx] at hto; cases hto
  | some l =>
    rw [hx] at hto
    have hready : Region.ready .any ops l = [] := by simpa using hto
    have hK : ∀ a w, Q .normal a w → wpAnyG P .any ops Q G 0 l a w := fun a w hq => ⟨hready, hq⟩
    have hmono : ∀ (s : List (Nat × Bool)) a w, wpSched P ops Q G (fun a w => Q .normal a w) s a w → wpSched P ops Q G (fun a w => wpAnyG P .any ops Q G 0 l a w) s a w := by
      intro s
      induction s with
      | nil => intro a w h; exact hK a w h
      | cons x r ih =>
        intro a w ⟨o, ho, H⟩
        refine ⟨o, ho, ?_⟩
        rcases H with ⟨hw, H⟩ | ⟨hw, ⟨v, hv, H⟩ | ⟨hb, H⟩⟩
        · exact .inl ⟨hw, ih _ _ H⟩
        · exact .inr ⟨hw, .inl ⟨v, hv, ih _ _ H⟩⟩
        · exact .inr ⟨hw, .inr ⟨hb, Oper.wp_mono (fun a' w' h' => ⟨h'.1, ih _ _ h'.2⟩) H⟩⟩
    have := sched_sound rfl hrefl htrans hs hQ 0 l s (Array.replicate ops.size false) a _ hx (hmono s a _ h)
    rw [Nat.zero_add, hsz] at this
    exact wp_region_any hm (wpAny_of_G _ _ _ _ this)

/-- The same, where nothing of it panics. -/
theorem wp_region_sched' {id : Nat} {a : Act} {w : World} (hm : P.follows .mixedOrders = true) (hrefl : ∀ w, G w w) (htrans : ∀ a b c, G a b → G b c → G a c) (hs : Region.noSelect ops = true)
    (s : List (Nat × Bool)) (hsz : s.length = ops.size)
    (hto : ((schedTo .any ops s (Array.replicate ops.size false)).map fun l => (Region.ready .any ops l).isEmpty) = some true)
    (h : ∀ K : Act → World → Prop, Hid (∀ a w, Q .normal a w → K a w) → wpSched P ops (NoPanic Q) G K s a w.drew) : (Code.region id ops true).wp P Q a w :=
  wp_region_noPanic (wp_region_sched hm hrefl htrans hs (fun _ _ _ _ _ h => h) s hsz hto (h _ (fun _ _ h => h)))

theorem wpSched_mono {K K' : Act → World → Prop} (h : ∀ a w, K a w → K' a w) : ∀ (s : List (Nat × Bool)) a w, wpSched P ops Q G K s a w → wpSched P ops Q G K' s a w := by
  intro s
  induction s with
  | nil => intro a w H; exact h a w H
  | cons x r ih =>
    intro a w ⟨o, ho, H⟩
    refine ⟨o, ho, ?_⟩
    rcases H with ⟨hw, H⟩ | ⟨hw, ⟨v, hv, H⟩ | ⟨hb, H⟩⟩
    · exact .inl ⟨hw, ih _ _ H⟩
    · exact .inr ⟨hw, .inl ⟨v, hv, ih _ _ H⟩⟩
    · exact .inr ⟨hw, .inr ⟨hb, Oper.wp_mono (fun a' w' h' => ⟨h'.1, ih _ _ h'.2⟩) H⟩⟩
/-- The beginning of an order, up to where two may come up. -/
theorem sched_begin {id : Nat} {a : Act} {w : World} (hm : P.follows .mixedOrders = true) (hrefl : ∀ w, G w w) (htrans : ∀ a b c, G a b → G b c → G a c) (hs : Region.noSelect ops = true)
    (s : List (Nat × Bool)) (fuel : Nat) (listed' : Array Bool) (hsz : fuel + s.length = ops.size) (hto : schedTo .any ops s (Array.replicate ops.size false) = some listed')
    (h : ∀ K : Act → World → Prop, Hid (∀ a w, wpAnyG P .any ops (NoPanic Q) G fuel listed' a w → K a w) → wpSched P ops (NoPanic Q) G K s a w.drew) : (Code.region id ops true).wp P Q a w := by
  refine wp_region_noPanic (wp_region_any hm (wpAny_of_G (G := G) _ _ _ _ ?_))
  have := sched_sound (Q := NoPanic Q) rfl hrefl htrans hs (fun _ _ _ _ _ h => h) fuel listed' s (Array.replicate ops.size false) a w.drew hto (h _ (fun _ _ h => h))
  rw [hsz] at this
  exact this
/-- The rest of an order. -/
theorem sched_end {fuel : Nat} {listed : Array Bool} {a : Act} {w : World} (hrefl : ∀ w, G w w) (htrans : ∀ a b c, G a b → G b c → G a c) (hs : Region.noSelect ops = true)
    (s : List (Nat × Bool)) (hsz : s.length = fuel) (hto : ((schedTo .any ops s listed).map fun l => (Region.ready .any ops l).isEmpty) = some true)
    (h : ∀ K : Act → World → Prop, Hid (∀ a w, Q .normal a w → K a w) → wpSched P ops (NoPanic Q) G K s a w) : wpAnyG P .any ops (NoPanic Q) G fuel listed a w := by
  cases hx : schedTo .any ops s listed with
  | none => rw [hx] at hto; cases hto
  | some l =>
    rw [hx] at hto
    have hready : Region.ready .any ops l = [] := by simpa using hto
    have := sched_sound (Q := NoPanic Q) rfl hrefl htrans hs (fun _ _ _ _ _ h => h) 0 l s listed a w hx (wpSched_mono (fun a w hq => ⟨hready, hq⟩) s a w (h (fun a w => Q .normal a w) (fun _ _ h => h)))
    rw [Nat.zero_add, hsz] at this
    exact this
/-- Two may come up. -/
theorem sched_two {md : Region.Mode} {fuel i j : Nat} {listed : Array Bool} {oi oj : Oper} {a : Act} {w : World} (hr : Region.ready md ops listed = [i, j]) (hi : ops[i]? = some oi) (hwi : Region.wanted oi (yielded ops a.tmps) = true)
    (hj : ops[j]? = some oj) (hwj : Region.wanted oj (yielded ops a.tmps) = true)
    (hI : oi.wp P a w (fun a' w' => G w w' ∧ wpAnyG P md ops Q G fuel (listed.setIfInBounds i true) a' w') Q) (hJ : oj.wp P a w (fun a' w' => G w w' ∧ wpAnyG P md ops Q G fuel (listed.setIfInBounds j true) a' w') Q) :
    wpAnyG P md ops Q G (fuel + 1) listed a w := by
  refine ⟨fun h => (by rw [hr] at h; cases h), fun k hk => ?_⟩
  rw [hr] at hk
  simp only [List.mem_cons, List.not_mem_nil, or_false] at hk
  rcases hk with rfl | rfl
  · unfold wpOp
    simp only [hi, hwi, if_true]
    exact .inl (Oper.wp_mono (fun a' w' h => ⟨.inl h.1, h.2⟩) hI)
  · unfold wpOp
    simp only [hj, hwj, if_true]
    exact .inl (Oper.wp_mono (fun a' w' h => ⟨.inl h.1, h.2⟩) hJ)
theorem oper_call {o : Oper} {a : Act} {w : World} {K : Act → World → Prop} {f : FuncId} {args : Array Value} (hrun : (execOp a.eval o).run P w = .ok (.enter f args) w)
    (hc : Calls P f args w fun e w' => ∃ v, e = .returned v ∧ K (a.put o.dst v) w') : o.wp P a w K Q := by
  unfold Oper.wp
  rw [hrun]
  simp only [Oper.upon]
  refine hc.mono ?_
  rintro e w' ⟨v, rfl, h⟩
  exact h
theorem oper_val {o : Oper} {a : Act} {w w' : World} {K : Act → World → Prop} {v : Value} (hrun : (execOp a.eval o).run P w = .ok (.value v) w') (h : K (a.put o.dst v) w') : o.wp P a w K Q := by
  unfold Oper.wp
  rw [hrun]
  exact h

/-! The steps. -/
variable {K : Act → World → Prop} {r : List (Nat × Bool)} {i : Nat} {b : Bool} {o : Oper} {a : Act} {w : World}
theorem sched_skip (ho : ops[i]? = some o) (hw : Region.wanted o (yielded ops a.tmps) = false) (h : wpSched P ops Q G K r (a.put o.dst undef) w) : wpSched P ops Q G K ((i, b) :: r) a w := ⟨o, ho, .inl ⟨hw, h⟩⟩
theorem sched_take {v : Value} (ho : ops[i]? = some o) (hw : Region.wanted o (yielded ops a.tmps) = true) (hv : ∀ w', G w w' → (execOp a.eval o).run P w' = .ok (.value v) w') (h : wpSched P ops Q G K r (a.put o.dst v) w) :
    wpSched P ops Q G K ((i, b) :: r) a w := ⟨o, ho, .inr ⟨hw, .inl ⟨v, hv, h⟩⟩⟩
theorem sched_call {f : FuncId} {args : Array Value} (ho : ops[i]? = some o) (hw : Region.wanted o (yielded ops a.tmps) = true) (hrun : (execOp a.eval o).run P w = .ok (.enter f args) w)
    (hc : Calls P f args w fun e w' => ∃ v, e = .returned v ∧ G w w' ∧ wpSched P ops Q G K r (a.put o.dst v) w') : wpSched P ops Q G K ((i, false) :: r) a w := by
  refine ⟨o, ho, .inr ⟨hw, .inr ⟨rfl, ?_⟩⟩⟩
  unfold Oper.wp
  rw [hrun]
  simp only [Oper.upon]
  refine hc.mono ?_
  rintro e w' ⟨v, rfl, hG, h⟩
  exact ⟨.inl hG, h⟩
theorem sched_val {v : Value} {w' : World} (ho : ops[i]? = some o) (hw : Region.wanted o (yielded ops a.tmps) = true) (hrun : (execOp a.eval o).run P w = .ok (.value v) w') (hG : G w w') (h : wpSched P ops Q G K r (a.put o.dst v) w') :
    wpSched P ops Q G K ((i, false) :: r) a w := by
  refine ⟨o, ho, .inr ⟨hw, .inr ⟨rfl, ?_⟩⟩⟩
  unfold Oper.wp
  rw [hrun]
  exact ⟨.inl hG, h⟩
/-- A store that waits for all the others. -/
theorem sched_store {w' : World} (ho : ops[i]? = some o) (hw : Region.wanted o (yielded ops a.tmps) = true) (hrun : (execOp a.eval o).run P w = .ok .skip w') (he : endsB .any ops i = true) (h : wpSched P ops Q G K r (a.put o.dst undef) w') :
    wpSched P ops Q G K ((i, false) :: r) a w := by
  refine ⟨o, ho, .inr ⟨hw, .inr ⟨rfl, ?_⟩⟩⟩
  unfold Oper.wp
  rw [hrun]
  exact ⟨.inr he, h⟩
theorem sched_append {s x : Operand} {t : TypeId} {vs vx v : Value} {w2 : World} (ho : ops[i]? = some o) (hw : Region.wanted o (yielded ops a.tmps) = true)
    (hop : o.op = .call { callee := .builtin .append, args := #[s, x], argTypes := #[t, t] }) (hs : a.eval s = vs) (hx : a.eval x = vx)
    (hr : (Builtin.append_ #[t, t] o.type #[vs, vx]).run P w = .ok v w2) (hG : G w w2) (h : wpSched P ops Q G K r (a.put o.dst v) w2) :
    wpSched P ops Q G K ((i, false) :: r) a w := by
  refine sched_val ho hw ?_ hG h
  unfold execOp
  simp only [hop, resolve, invoke, builtin, Sem.run_bind, Sem.run_pure, Result.andThen_ok, List.map_toArray, List.map_cons, List.map_nil, hs, hx, hr]
theorem sched_done {Q' : Exit → Act → World → Prop} (hK : Hid (∀ a w, Q' .normal a w → K a w)) (h : Q' .normal a w) : wpSched P ops Q G K [] a w := hK.out a w h
end
end Go.Proofs.YtdancpcnjklifaaDoor

/- What the walks over rows of bytes share: what stays when memory grows, or but for one block; whole rows; appends. -/
namespace Go.Proofs.YtdancpcnjklifaaDoor
set_option linter.unusedVariables false
set_option maxRecDepth 100000
open Go.RowKit


/-- Memory only grows. -/
def Grows (w w' : World) : Prop := Below w.heap.size w w'
theorem Grows.refl (w : World) : Grows w w := Below.refl _ _
theorem Grows.trans (a b c : World) (h : Grows a b) (k : Grows b c) : Grows a c := Below.trans h (Below.mono k h.size)
theorem Byt.on {w w' : World} {a : Option Addr} {len : Nat} {l : List UInt8} (h : Byt w a len l) (hb : Grows w w') : Byt w' a len l := h.later hb
theorem Byt.ofSeg {w : World} {e : TypeId} {a : Option Addr} {n cap : Nat} {l : List UInt8} (h : Seg w e a n cap (l.map bv)) : Byt w a n l := by
  have hl : l.length = n := by have := h.1; simpa using this
  refine ⟨hl, ?_⟩
  by_cases h0 : n = 0
  · exact .inl h0
  · obtain ⟨g, off, rfl, _, _⟩ := h.cell 0 (by omega)
    refine .inr ⟨g, off, rfl, fun i hi => ?_⟩
    obtain ⟨g', off', e, hc, _⟩ := h.cell i hi
    cases e
    rw [hc, List.getElem?_map, at8_get l i (by omega)]
    simp [bv, show i < l.length by omega]
theorem Seg.ofOwn' {w : World} {base : Nat} {e : TypeId} {v : Value} {n : Nat} {xs : List Value} (h : w.ownsRow base e 1 v n xs) :
    ∃ a cap, v = .slice a n cap ∧ Seg w e a n cap xs ∧ ∀ j, blockOf a = some j → base ≤ j := by
  rcases h.2 with ⟨rfl, rfl⟩ | ⟨g, cap, cur, rfl, hb, hg, hnc, hcm, hcs, htake⟩
  · exact ⟨none, 0, rfl, ⟨by have := h.1; simpa using this, .inl ⟨rfl, rfl, rfl⟩⟩, by intro j hj; simp [blockOf] at hj⟩
  · refine ⟨some ⟨g, 0, none⟩, cap, rfl, ⟨by have := h.1; omega, .inr ⟨g, 0, cur, rfl, hg, by omega, hnc, fun i hi => ?_⟩⟩, by intro j hj; simp [blockOf] at hj; omega⟩
    rw [← htake, List.getElem?_take, if_pos (by omega)]
    simp
/-- 'append([]byte{}, b...)'. -/
theorem append_all (w : World) (a : Option Addr) (len cap : Nat) (l : List UInt8) (hB : Byt w a len l) (hnil : a = none → cap = 0) (hm : len ≤ 1000000) :
    ∃ a' cap' w2, (Builtin.append_ #[29, 29] 29 #[.slice (some ⟨w.heap.size, 0, none⟩) 0 0, .slice a len cap]).run Tryd.prog (w.alloc (.cells #[] 5)) = .ok (.slice a' len cap') w2 ∧
      Seg w2 5 a' len cap' (l.map bv) ∧ Below w.heap.size w w2 ∧ ∀ j, blockOf a' = some j → w.heap.size ≤ j := by
  obtain ⟨i0, hi, hz0, hz1, hz2⟩ := info_parts Tryd.infoU8
  have hbel : Below w.heap.size w (w.alloc (.cells #[] 5)) := (Below.refl _ _).alloc (Nat.le_refl _) _
  have hown : (w.alloc (.cells #[] 5)).ownsRow w.heap.size 5 1 (.slice (some ⟨w.heap.size, 0, none⟩) 0 0) 0 [] := World.ownsRow_made w #[] 0 (Nat.le_refl _) (Nat.zero_le _) rfl
  have hl := hB.1
  cases a with
  | none =>
    have h0 : len = 0 := by
      rcases hB.2 with h | ⟨_, _, e, _⟩
      · exact h
      · cases e
    have hc0 := hnil rfl
    subst h0
    subst hc0
    obtain rfl : l = [] := List.eq_nil_of_length_eq_zero hl
    have hr := run_append_owned_none (P := Tryd.prog) (w.alloc (.cells #[] 5)) w.heap.size 29 29 5 i0 1 Tryd.underlying29 hi _ 0 [] hown
    obtain ⟨a', cap', e, hseg, hb⟩ := Seg.ofOwn' hown
    exact ⟨a', cap', _, by rw [hr, e], hseg, hbel, hb⟩
  | some x =>
    obtain ⟨v', w2, hr, hown2, hgr, _⟩ := run_append_own (P := Tryd.prog) (w.alloc (.cells #[] 5)) w.heap.size 29 29 5 i0 (.int .u8 0) 1 1 Tryd.underlying29 hi hz0 hz1 hz2 rfl (by decide) _ 0 [] hown x len cap (l.map bv) (by simpa using hl) ((hB.later hbel).cells x rfl) (bv_oneCell l) (by unfold maxLen; omega) (by omega) (by simp)
    rw [Nat.zero_add, List.nil_append] at hown2
    obtain ⟨a', cap', rfl, hseg, hb⟩ := Seg.ofOwn' hown2
    exact ⟨a', cap', w2, hr, hseg, hbel.grown hgr (by simp) (by intro k hk; simp [Value.ownBlock] at hk; omega), hb⟩

theorem byt_lit (w : World) (l : List UInt8) (b : Nat) (cs : Array Value) (e : TypeId) (fr : Nat × Nat) (h : w.heap[b]? = some (.cells cs e fr)) (hc : cs = (l.map bv).toArray) : Byt w (some ⟨b, 0, none⟩) l.length l := by
  refine ⟨rfl, .inr ⟨b, 0, rfl, fun i hi => ?_⟩⟩
  rw [cell_of_row w b (0 + i) cs e fr h, Nat.zero_add, hc, at8_get l i hi]
  simp [bv, hi]
theorem u64_of (a : Int) (h : (Lit.int .u64 a).wf = true) : ∃ n : Nat, a = (n : Int) ∧ n < 18446744073709551616 := by
  have hb : 0 ≤ a ∧ a ≤ 18446744073709551615 := by simpa [Lit.wf, IntKind.min, IntKind.max, IntKind.signed, IntKind.bits] using h
  exact ⟨a.toNat, by omega, by omega⟩
theorem i64_of (a : Int) (h : (Lit.int .i64 a).wf = true) : -9223372036854775808 ≤ a ∧ a ≤ 9223372036854775807 := by
  simpa [Lit.wf, IntKind.min, IntKind.max, IntKind.signed, IntKind.bits] using h
theorem valB_putB (sz n : Nat) (big : Bool) : valB (putB sz n big) big = n % 256 ^ sz := by
  cases big <;> simp [valB, putB, leN_leB]
theorem getV_putB (l : List UInt8) (sz n : Nat) (big : Bool) : getV (l ++ putB sz n big) big l.length sz = n % 256 ^ sz := by
  have e : cutB (l ++ putB sz n big) l.length sz = putB sz n big := by
    unfold cutB
    rw [List.drop_left]
    exact List.take_of_length_le (by rw [putB_length]; exact Nat.le_refl _)
  rw [getV, e, valB_putB]
theorem Seg.cellsW {w : World} {e : TypeId} {x : Addr} {n cap : Nat} {vs : List Value} (h : Seg w e (some x) n cap vs) : ∀ j v, vs[j]? = some v → w.cell? (x.add j) = some v := by
  intro j v hj
  have hl := h.1
  have hjn : j < n := by
    rcases Nat.lt_or_ge j vs.length with hh | hh
    · omega
    · rw [List.getElem?_eq_none hh] at hj; cases hj
  obtain ⟨g, off, e, hc, _⟩ := h.cell j hjn
  cases e
  rw [addr_add, hc, hj]
theorem grown_below {w w' : World} (h : Below w.heap.size w w') : w.grownBy w' none := ⟨h.os, h.tape, h.output, h.size, fun k hk _ => h.block k hk⟩
theorem own_slice {w : World} {base : Nat} {e : TypeId} {v : Value} {n : Nat} {xs : List Value} (h : w.ownsRow base e 1 v n xs) (hn : 0 < n) :
    ∃ g cap, v = .slice (some ⟨g, 0, none⟩) n cap ∧ base ≤ g ∧ Seg w e (some ⟨g, 0, none⟩) n cap xs := Seg.ofOwn h hn
theorem Byt.below {w w' : World} {B : Nat} {b off n : Nat} {l : List UInt8} (h : Byt w (some ⟨b, off, none⟩) n l) (hbB : b < B) (hb : Below B w w') : Byt w' (some ⟨b, off, none⟩) n l := by
  refine ⟨h.1, ?_⟩
  rcases h.2 with h0 | ⟨b', off', e, hc⟩
  · exact .inl h0
  · cases e
    refine .inr ⟨b, off, rfl, fun i hi => ?_⟩
    rw [hb.cell (p := ⟨b, off + i, none⟩) hbB]
    exact hc i hi
theorem Byt.lt {w : World} {b off n : Nat} {l : List UInt8} (h : Byt w (some ⟨b, off, none⟩) n l) (hn : 0 < n) : b < w.heap.size := by
  rcases h.2 with h0 | ⟨b', off', e, hc⟩
  · omega
  · cases e
    exact World.block_lt_of_cell? w _ (hc 0 hn)

/-- 'append(out, s...)' of bytes. -/
theorem append_bytes (w : World) (base : Nat) (v : Value) (n : Nat) (xs : List UInt8) (hown : w.ownsRow base 5 1 v n (xs.map bv)) (x : Addr) (m c : Nat) (ys : List UInt8) (hs : Byt w (some x) m ys) (hb : base ≤ w.heap.size) (hsm : n + m ≤ 1000000) :
    ∃ v' w', (Builtin.append_ #[29, 29] 29 #[v, .slice (some x) m c]).run Tryd.prog w = .ok v' w' ∧ w'.ownsRow base 5 1 v' (n + m) ((xs ++ ys).map bv) ∧ w.grownBy w' v.ownBlock := by
  obtain ⟨i0, hi, hz0, hz1, hz2⟩ := info_parts Tryd.infoU8
  have hl := hs.1
  obtain ⟨v', w', hr, ho, hg, _⟩ := run_append_own (P := Tryd.prog) w base 29 29 5 i0 (.int .u8 0) 1 1 Tryd.underlying29 hi hz0 hz1 hz2 rfl (by decide) v n _ hown x m c (ys.map bv) (by rw [List.length_map]; omega) (hs.cells x rfl) (bv_oneCell ys) (by unfold maxLen; omega) (by omega) hb
  exact ⟨v', w', hr, by rw [List.map_append]; exact ho, hg⟩
theorem Byt.sub {w : World} {b off len n q : Nat} {l : List UInt8} (h : Byt w (some ⟨b, off, none⟩) len l) (h1 : n ≤ q) (h2 : q ≤ len) : Byt w (some ⟨b, off + n, none⟩) (q - n) ((l.drop n).take (q - n)) := by
  have hl := h.1
  refine ⟨by simp; omega, ?_⟩
  rcases h.2 with h0 | ⟨b', off', e, hc⟩
  · exact .inl (by omega)
  · cases e
    refine .inr ⟨b, off + n, rfl, fun i hi => ?_⟩
    rw [Nat.add_assoc, hc (n + i) (by omega)]
    simp [at8, hi]
theorem Seg.set {w : World} {e : TypeId} {g off n cap : Nat} {vs : List Value} (h : Seg w e (some ⟨g, off, none⟩) n cap vs) (i : Nat) (hi : i < n) (v : Value) :
    Seg (w.setCell ⟨g, off + i, none⟩ v) e (some ⟨g, off, none⟩) n cap (vs.set i v) := by
  refine ⟨by rw [List.length_set]; exact h.1, ?_⟩
  have hl := h.1
  rcases h.2 with ⟨e0, _⟩ | ⟨g', off', cur, e0, hg, h1, h2, h3⟩
  · cases e0
  · cases e0
    refine .inr ⟨g, off, cur.setIfInBounds (off + i) v, rfl, heap_setCell_same w g (off + i) cur e v hg, by simpa using h1, h2, fun j hj => ?_⟩
    rw [Array.getElem?_setIfInBounds, List.getElem?_set]
    by_cases hij : i = j
    · subst hij
      rw [if_pos rfl, if_pos (by omega), if_pos rfl, if_pos (by omega)]
    · rw [if_neg (by omega), if_neg hij, h3 j hj]
theorem Seg.drew {w : World} {e : TypeId} {a : Option Addr} {n cap : Nat} {vs : List Value} (h : Seg w e a n cap vs) : Seg w.drew e a n cap vs := h.kept fun g _ => rfl
/-- One world alone. -/
def Stays (w w' : World) : Prop := w' = w
theorem Stays.refl (w : World) : Stays w w := rfl
theorem Stays.trans (a b c : World) (h : Stays a b) (k : Stays b c) : Stays a c := by unfold Stays at *; rw [k, h]

/-- What lay outside one block stays. -/
def But (g : Nat) (w w' : World) : Prop := w.grownBy w' (some g)
theorem grownBy_drew (w : World) (b : Option Nat) : w.grownBy w.drew b := ⟨rfl, rfl, rfl, Nat.le_refl _, fun _ _ _ => rfl⟩
theorem grownBy_refl (w : World) (b : Option Nat) : w.grownBy w b := ⟨rfl, rfl, rfl, Nat.le_refl _, fun _ _ _ => rfl⟩
theorem But.refl (g : Nat) (w : World) : But g w w := grownBy_refl w _
theorem But.trans (g : Nat) (a b c : World) (h : But g a b) (k : But g b c) : But g a c := World.grownBy.trans h k
theorem Byt.but {w w' : World} {b off n g : Nat} {l : List UInt8} (h : Byt w (some ⟨b, off, none⟩) n l) (hg : w.grownBy w' (some g)) (hb : b ≠ g) : Byt w' (some ⟨b, off, none⟩) n l := by
  refine ⟨h.1, ?_⟩
  rcases h.2 with h0 | ⟨b', off', e, hc⟩
  · exact .inl h0
  · cases e
    exact .inr ⟨b, off, rfl, fun i hi => hg.cell (hc i hi) (fun e => hb (by cases e; rfl))⟩
theorem byt_row {W : World} {b t : Nat} {l : List UInt8} (n : Nat) (hn : l.length = n) (h : W.heap[b]? = some (.cells (l.map bv).toArray t (0, 0))) : Byt W (some ⟨b, 0, none⟩) n l := by
  refine ⟨hn, .inr ⟨b, 0, rfl, fun i hi => ?_⟩⟩
  rw [cell_of_row W b (0 + i) _ t (0, 0) h, at8_get l i (by omega)]
  simp [show i < l.length by omega, bv]
/-- A whole row into a block, and out of it. -/
theorem store_row (W : World) (g : Nat) (t : TypeId) (old : Array Value) (vs : List Value) (h : W.heap[g]? = some (.cells old t (0, 0))) (hl : vs.length = old.size) (h1 : ∀ v ∈ vs, v.oneCell' = true) :
    (storeCells ⟨g, 0, none⟩ vs).run Tryd.prog W = .ok () (W.setRow g vs.toArray) := by
  have := run_storeCells_from (P := Tryd.prog) g t vs 0 old W h (by omega) h1
  simpa using this
theorem load_row (W : World) (g : Nat) (t : TypeId) (vs : List Value) (n : Nat) (hn : vs.length = n) (h : W.heap[g]? = some (.cells vs.toArray t (0, 0))) :
    (loadCellsFrom ⟨g, 0, none⟩ 0 n #[]).run Tryd.prog W = .ok vs.toArray W := by
  subst hn
  have := run_loadCells_list (P := Tryd.prog) W ⟨g, 0, none⟩ vs (fun j v hv => by
    rw [addr_add, cell_of_row _ _ _ _ t (0, 0) h]
    simpa using hv)
  simpa [loadCells] using this
theorem from_world {P R : World → Prop} (W : World) (h : R W) (H : ∀ W0, R W0 → P W0) : P W := H W h
theorem But.below {w w' : World} (g : Nat) (hb : Below w.heap.size w w') : But g w w' := ⟨hb.os, hb.tape, hb.output, hb.size, fun k hk _ => hb.block k hk⟩
theorem But.setRow (w : World) (g : Nat) (cs : Array Value) : But g w (w.setRow g cs) := ⟨rfl, rfl, rfl, by simp [World.setRow], fun k hk hne => setRow_other w g k cs (fun e => hne (by rw [e]))⟩
theorem make_room (w : World) (n : Nat) (h : n ≤ 2000000) :
    ∃ Z : List Value, Z.length = n ∧ (Instr.makeSlice 29 (.int .i64 0) (.int .i64 (n : Int))).run Tryd.prog w = .ok (.slice (some ⟨w.heap.size, 0, none⟩) 0 n) (w.alloc (.cells Z.toArray 5)) := by
  have := make_bytes w 0 n (by omega)
  simpa using this
def Rest (v : Value) (w w' : World) : Prop := w.grownBy w' v.ownBlock
theorem Rest.refl (v : Value) (w : World) : Rest v w w := grownBy_refl w _
theorem Rest.trans (v : Value) (a b c : World) (h : Rest v a b) (k : Rest v b c) : Rest v a c := World.grownBy.trans h k
theorem Rest.below (v : Value) {w w' : World} (hb : Below w.heap.size w w') : Rest v w w' := ⟨hb.os, hb.tape, hb.output, hb.size, fun k hk _ => hb.block k hk⟩
theorem own_out {w : World} {base : Nat} {v : Value} {n : Nat} {l : List UInt8} (h : w.ownsRow base 5 1 v n (l.map bv)) :
    ∃ a cap, v = .slice a n cap ∧ Byt w a n l ∧ n ≤ cap ∧ cap ≤ maxLen := by
  have hl := h.1
  rw [List.length_map, Nat.mul_one] at hl
  rcases h.2 with ⟨e, h0⟩ | ⟨g, cap, cur, rfl, hb, hg, hnc, hcm, hcs, htake⟩
  · refine ⟨none, 0, ?_, ⟨hl, .inl h0⟩, by omega, by omega⟩
    rw [e, h0]
  · exact ⟨_, cap, rfl, Byt.ofOwn h, hnc, hcm⟩
theorem run_store_arr (w : World) (t : TypeId) (B : List UInt8) (n : Nat) (hn : B.length = n) (hi : (Tryd.prog.info? t).map (·.size) = some n) (c : Array Value) (hc : c.size = n) :
    (storeCells ⟨w.heap.size, 0, none⟩ (B.map bv)).run Tryd.prog (w.alloc (.cells c t)) = .ok () (w.alloc (.cells (B.map bv).toArray t)) := by
  have := run_storeCells_new (P := Tryd.prog) w t c (B.map bv).toArray (by rw [hi]; simp [hn]) (by simp [hc, hn]) (by
    rw [Array.all_eq_true_iff_forall_mem]
    intro u hu
    simp only [List.mem_toArray] at hu
    exact bv_oneCell B u hu)
  exact this
theorem u32_word (a : Int) (h : (Lit.int .u32 a).wf = true) : ∃ X : BitVec 32, a = (X.toNat : Int) := by
  have hb : 0 ≤ a ∧ a ≤ 4294967295 := by simpa [Lit.wf, IntKind.min, IntKind.max, IntKind.signed, IntKind.bits] using h
  exact ⟨BitVec.ofNat 32 a.toNat, by rw [BitVec.toNat_ofNat]; omega⟩
theorem load_arr (W : World) (b : Nat) (t : TypeId) (B : List UInt8) (n : Nat) (hn : B.length = n) (h : W.heap[b]? = some (.cells (B.map bv).toArray t (0, 0))) :
    (loadCellsFrom ⟨b, 0, none⟩ 0 n #[]).run Tryd.prog W = .ok (B.map bv).toArray W := by
  subst hn
  have := run_loadCells_list (P := Tryd.prog) W ⟨b, 0, none⟩ (B.map bv) (fun j v hv => by
    have hadd : (⟨b, 0, none⟩ : Addr).add j = ⟨b, j, none⟩ := by unfold Addr.add; split <;> simp_all
    rw [hadd, cell_of_row _ _ j _ t (0, 0) h]
    simpa using hv)
  simpa [loadCells] using this
theorem exec_load_row {P : Program} {o : Oper} {a : Act} {w : World} (ty : TypeId) (x : Operand) (ho : o.op = .load ty x) (g : Nat) (hx : a.eval x = .pointer (some ⟨g, 0, none⟩)) (t : TypeId) (cs : Array Value) (fr : Nat × Nat) (d : TypeDesc) (hg : w.heap[g]? = some (.cells cs t fr))
    (hu : P.underlying ty = some d) (hd : (match d with | .struct _ | .array _ _ => true | _ => false) = true) (hi : (P.info? ty).map (·.size) = some cs.size) : (execOp a.eval o).run P w = .ok (.value (.agg cs)) w := by
  unfold execOp
  simp only [ho, hx, Instr.loadAt, Instr.sureAddr, Sem.run_bind, Sem.run_pure, Result.andThen_ok, run_loadVar_row w g t ty cs fr d hg hu hd hi]
theorem Byt.cut {w : World} {a : Option Addr} {len q : Nat} {l : List UInt8} (h : Byt w a len l) (hq : q ≤ len) : Byt w a q (l.take q) := by
  have hl := h.1
  refine ⟨by simp; omega, ?_⟩
  rcases h.2 with h0 | ⟨b, off, e, hc⟩
  · exact .inl (by omega)
  · refine .inr ⟨b, off, e, fun i hi => ?_⟩
    rw [hc i (by omega)]
    simp [at8, hi]
theorem Byt.at_ {w : World} {a : Option Addr} {len : Nat} {l : List UInt8} (h : Byt w a len l) (k : Nat) (hk : k < len) : ∃ b off, a = some ⟨b, off, none⟩ ∧ w.cell? ⟨b, off + k, none⟩ = some (.int .u8 ((at8 l k).toNat : Int)) := by
  rcases h.2 with h0 | ⟨b, off, e, hc⟩
  · omega
  · exact ⟨b, off, e, hc k hk⟩
theorem and16 (x : Int) : bits .and .i64 x 65535 = x % 65536 := by
  have e : (BitVec.ofInt 64 x &&& BitVec.ofInt 64 65535).toNat = (x % 65536).toNat := by
    rw [BitVec.toNat_and, BitVec.toNat_ofInt]
    have h7 : (BitVec.ofInt 64 65535).toNat = 2 ^ 16 - 1 := by decide
    rw [h7, Nat.and_two_pow_sub_one_eq_mod]
    omega
  show IntKind.i64.wrap ((BitVec.ofInt 64 x &&& BitVec.ofInt 64 65535).toNat : Int) = _
  rw [e, IntKind.wrap_i64]
  omega
theorem cut16 (x : Int) (n : Nat) : ∃ q : Nat, (bits .and .i64 x 65535).tmod ((n : Int) + 1) = (q : Int) ∧ q ≤ n := by
  refine ⟨((x % 65536).toNat % (n + 1)), ?_, by have := Nat.mod_lt (x % 65536).toNat (show 0 < n + 1 by omega); omega⟩
  have h0 : (((x % 65536).toNat : Nat) : Int) = x % 65536 := by omega
  rw [and16, Int.tmod_eq_emod_of_nonneg (by omega), ← h0]
  simp
theorem own_lower {w : World} {base base' : Nat} {e : TypeId} {v : Value} {n : Nat} {xs : List Value} (h : w.ownsRow base e 1 v n xs) (hb : base' ≤ base) : w.ownsRow base' e 1 v n xs := by
  refine ⟨h.1, ?_⟩
  rcases h.2 with h0 | ⟨g, cap, cur, e1, hbg, h2⟩
  · exact .inl h0
  · exact .inr ⟨g, cap, cur, e1, Nat.le_trans hb hbg, h2⟩
/-- What one owns, as bytes: where it lies, and how much room there is. -/
theorem own_parts {w : World} {base : Nat} {v : Value} {n : Nat} {l : List UInt8} (h : w.ownsRow base 5 1 v n (l.map bv)) :
    ∃ a cap, v = .slice a n cap ∧ Byt w a n l ∧ n ≤ cap ∧ cap ≤ maxLen ∧ (a = none → cap = 0) := by
  have hl := h.1
  rw [List.length_map, Nat.mul_one] at hl
  rcases h.2 with ⟨e, h0⟩ | ⟨g, cap, cur, rfl, hb, hg, hnc, hcm, hcs, htake⟩
  · refine ⟨none, 0, ?_, ⟨hl, .inl h0⟩, by omega, by omega, fun _ => rfl⟩
    rw [e, h0]
  · exact ⟨_, cap, rfl, Byt.ofOwn h, hnc, hcm, fun e => by cases e⟩
/-- 'append(v, b...)' of bytes that lie anywhere. -/
theorem append_own_any (w : World) (base : Nat) (v : Value) (n : Nat) (xs : List UInt8) (hown : w.ownsRow base 5 1 v n (xs.map bv)) (a : Option Addr) (len cap : Nat) (l : List UInt8) (hB : Byt w a len l) (hnil : a = none → cap = 0) (hb : base ≤ w.heap.size) (hsm : n + len ≤ 1000000) :
    ∃ v' w', (Builtin.append_ #[29, 29] 29 #[v, .slice a len cap]).run Tryd.prog w = .ok v' w' ∧ w'.ownsRow base 5 1 v' (n + len) ((xs ++ l).map bv) ∧ w.grownBy w' v.ownBlock := by
  cases a with
  | some x => exact append_bytes w base v n xs hown x len cap l hB hb hsm
  | none =>
    have h0 : len = 0 := by
      rcases hB.2 with h0 | ⟨b', off', e, _⟩
      · exact h0
      · cases e
    subst h0
    have hl : l = [] := List.eq_nil_of_length_eq_zero hB.1
    subst hl
    rw [hnil rfl]
    obtain ⟨i0, hi, hz0, hz1, hz2⟩ := info_parts Tryd.infoU8
    refine ⟨v, w, run_append_owned_none (P := Tryd.prog) w base 29 29 5 i0 1 Tryd.underlying29 hi v n _ hown, by rw [List.append_nil]; exact hown, grownBy_refl w _⟩
end Go.Proofs.YtdancpcnjklifaaDoor

/- What every law's row shares: how a slice of integers that came in is read. -/
namespace Go.Proofs.YtdancpcnjklifaaDoor
set_option maxRecDepth 100000
open Go.ChangeShapes Go.WideShapes Go.ChangeAt Go.RowKit
open Go.ChangeMaps (open_string shut_string)

theorem own : ownKnob Tryd.prog.godebug = none := by kernel_rfl
theorem laidOut : laidOutB Tryd.prog = true := by kernel_rfl

/-- A slice of integers that came in: nil, or a row of 'cap' cells, of which the first 'len' are its elements. -/
def IsRow (k : IntKind) (w : World) (a : Option Addr) (len cap : Nat) (zs : List Int) : Prop :=
  (a = none ∧ len = 0 ∧ cap = 0 ∧ zs = []) ∨
  ∃ x, a = some x ∧ len ≤ cap ∧ cap ≤ maxLen ∧ zs.length = cap ∧ (∀ i, i < zs.length → w.cell? (x.add i) = some (.int k (zs.getD i 0))) ∧ ∀ n ∈ zs, (Lit.int k n).wf = true

theorem isRow_of {H : Type} {enc : TypeId × Value → H} {P : Program} {W : World} {t e : TypeId} {k : IntKind} {a : Option Addr} {len cap : Nat} {d : DataW H} {p : List MemPlace}
    (ht : P.underlying t = some (.slice e)) (he : P.underlying e = some (.int k)) (hc : P.cellsOf e = 1) (h : DataW.Trod enc P W 0 (fun _ => true) true t (.slice a len cap) d p) : ∃ zs, IsRow k W a len cap zs := by
  obtain ⟨fuel, hf⟩ := h
  rcases open_ints ht he hc hf with ⟨hcs, _⟩ | ⟨x, l, c, zs, hcs, _, hl, hm, hz, _, hcell, hwz⟩
  · simp [Value.cells] at hcs
    obtain ⟨rfl, rfl, rfl⟩ := hcs
    exact ⟨[], .inl ⟨rfl, rfl, rfl, rfl⟩⟩
  · simp [Value.cells] at hcs
    obtain ⟨rfl, rfl, rfl⟩ := hcs
    exact ⟨zs, .inr ⟨_, rfl, hl, hm, by simpa using hz, hcell, hwz⟩⟩

/-- A row of bytes that came in, cut to at most c of them. -/
theorem cut_row {w : World} {a : Option Addr} {len cap : Nat} {zs : List Int} (h : IsRow .u8 w a len cap zs) (c : Nat) :
    ∃ (l : List UInt8) (m : Nat), (if (c : Int) < (len : Int) then (c : Int) else (len : Int)) = (m : Int) ∧ m ≤ c ∧ m ≤ len ∧ len ≤ cap ∧ cap ≤ maxLen ∧ Byt w a m l := by
  rcases h with ⟨rfl, rfl, rfl, rfl⟩ | ⟨x, rfl, hlc, hcm, hz, hcell, hwf⟩
  · exact ⟨[], 0, by split <;> omega, by omega, by omega, by omega, by unfold maxLen; omega, rfl, .inl rfl⟩
  · refine ⟨(zs.take (min c len)).map fun z => UInt8.ofNat z.toNat, min c len, by split <;> omega, by omega, by omega, hlc, hcm, by simp; omega, ?_⟩
    by_cases h0 : min c len = 0
    · exact .inl h0
    · right
      obtain ⟨b, off, spot⟩ := x
      have hc0 := hcell 0 (by omega)
      have hspot : spot = none := by simpa [Addr.add] using World.cell?_spot hc0
      subst hspot
      refine ⟨b, off, rfl, fun i hi => ?_⟩
      have hc := hcell i (by omega)
      rw [addr_add] at hc
      rw [hc, at8_get _ _ (by simp; omega)]
      have hw := hwf (zs[i]'(by omega)) (List.getElem_mem _)
      have hb : 0 ≤ zs[i]'(by omega) ∧ zs[i]'(by omega) ≤ 255 := by simpa [Lit.wf, IntKind.min, IntKind.max, IntKind.signed, IntKind.bits] using hw
      simp [show i < zs.length by omega]
      omega
end Go.Proofs.YtdancpcnjklifaaDoor

/- How an array of bytes that came in is opened. No program is named here. -/
namespace Go.Proofs.YtdancpcnjklifaaDoor
set_option maxRecDepth 100000
open Go.ChangeShapes Go.WideShapes

section
variable {H : Type} {enc : TypeId × Value → H} {P : Program} {k e : TypeId} {n : Nat} {q : IntKind} {W : World} {base : Nat} {sp : Nat → Bool} {held : Bool}
theorem arr_elems (he : P.underlying e = some (.int q)) {m : Nat} {cs : List Value} {c : Nat} : ∀ (L : List Nat) (xs : List (DataW H × List MemPlace)),
    L.mapM (fun i => DataW.trod enc P W base sp held m e ((cs.drop (i * c)).take c)) = some xs → ∀ i ∈ L, ∃ z, (cs.drop (i * c)).take c = [.int q z] ∧ (Lit.int q z).wf = true
  | [], _, _ => by simp
  | j :: L, xs, h => by
    rw [List.mapM_cons] at h
    simp only [bind, Option.bind_eq_some_iff, pure, Option.some.injEq] at h
    obtain ⟨y, hy, ys, hys, rfl⟩ := h
    intro i hi
    rcases List.mem_cons.1 hi with rfl | hi
    · obtain ⟨a, ea, _, wa⟩ := DataW.trod_int he hy
      exact ⟨a, ea, wa⟩
    · exact arr_elems he L ys hys i hi
theorem open_barr (hu : P.underlying k = some (.array n e)) (he : P.underlying e = some (.int .u8)) (hone : P.cellsOf e = 1) (hsize : P.cellsOf k = n) {r : Reach} {b0 : Nat} {v : Value} (hval : Value.okWide P W r b0 k v)
    {d : DataW H} {ps : List MemPlace} (hd : DataW.Trod enc P W base sp held k v d ps) : ∃ l : List UInt8, l.length = n ∧ v = .agg (l.map bv).toArray := by
  obtain ⟨xs, rfl, hn⟩ : ∃ xs : Array Value, v = .agg xs ∧ xs.size = n := by
    simp only [Value.okWide, hu] at hval
    obtain ⟨cs, h1, h2, _⟩ := hval
    exact ⟨cs, h1, by rw [h2, hsize]⟩
  obtain ⟨fuel, hf⟩ := hd
  cases fuel with
  | zero => simp [DataW.trod] at hf
  | succ m =>
    rw [DataW.trod_step] at hf
    unfold DataW.trodStep at hf
    simp only [hu, Value.cells] at hf
    rw [if_pos (by rw [hsize]; simpa using hn)] at hf
    simp only [Option.map_eq_some_iff] at hf
    obtain ⟨ys, hy, _⟩ := hf
    have hel := arr_elems he _ ys hy
    rw [hone] at hel
    have hc : ∀ i (hi : i < n), ∃ c : UInt8, xs[i]'(by omega) = bv c := by
      intro i hi
      obtain ⟨z, hz, hw⟩ := hel i (by simpa using hi)
      have hb : 0 ≤ z ∧ z ≤ 255 := by simpa [Lit.wf, IntKind.min, IntKind.max, IntKind.signed, IntKind.bits] using hw
      refine ⟨UInt8.ofNat z.toNat, ?_⟩
      have hg : xs.toList[i]'(by simp; omega) = .int .u8 z := by
        have := congrArg (·[0]?) hz
        simp at this
        have h2 : i < xs.size := by omega
        simpa [List.getElem?_take, h2] using this
      rw [Array.getElem_toList] at hg
      rw [hg, bv]
      congr 1
      simp
      omega
    refine ⟨(List.range n).map fun i => if h : i < n then (hc i h).choose else 0, by simp, ?_⟩
    congr 1
    apply Array.ext
    · simp [hn]
    · intro i h1 h2
      have hi : i < n := by omega
      simp [hi]
      exact (hc i hi).choose_spec
end
end Go.Proofs.YtdancpcnjklifaaDoor
