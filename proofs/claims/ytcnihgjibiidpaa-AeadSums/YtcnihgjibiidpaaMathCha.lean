/- Plain facts on the stream of a key: words of 32 bits, quarters, blocks, and what a stream is at each place. No program is named here. -/
import Derived.Test.YtcnihgjibiidpaaMath1
import Derived.Test.YtcnihgjibiidpaaMath2
namespace Go.Proofs.Ytcnihgjibiidpaa
set_option linter.unusedVariables false
open Go.RowKit

/-- The word at a place (0 where there is none). -/
def at32 (l : List (BitVec 32)) (i : Nat) : BitVec 32 := l.getD i 0#32
theorem at32_get (l : List (BitVec 32)) (i : Nat) (h : i < l.length) : at32 l i = l[i] := by simp [at32, h]
theorem at32_set_same (l : List (BitVec 32)) (i : Nat) (v : BitVec 32) (h : i < l.length) : at32 (l.set i v) i = v := by simp [at32, h]
theorem at32_set_other (l : List (BitVec 32)) (i j : Nat) (v : BitVec 32) (h : i ≠ j) : at32 (l.set i v) j = at32 l j := by simp [at32, List.getElem?_set_ne h]

/-- A sum, and what differs from it, turned. -/
def qhalf (l : List (BitVec 32)) (a b d : Nat) (n : Int) : List (BitVec 32) := (l.set a (at32 l a + at32 l b)).set d (rotl (at32 l d ^^^ (at32 l a + at32 l b)) n)
def qtr (l : List (BitVec 32)) (a b c d : Nat) : List (BitVec 32) := qhalf (qhalf (qhalf (qhalf l a b d 16) c d b 12) a b d 8) c d b 7
theorem qhalf_length (l : List (BitVec 32)) (a b d : Nat) (n : Int) : (qhalf l a b d n).length = l.length := by simp [qhalf]
theorem qtr_length (l : List (BitVec 32)) (a b c d : Nat) : (qtr l a b c d).length = l.length := by simp [qtr, qhalf_length]
/-- The first k quarters of the columns, then of the slants. -/
def cols : Nat → List (BitVec 32) → List (BitVec 32)
  | 0, l => l
  | k + 1, l => qtr (cols k l) k (4 + k) (8 + k) (12 + k)
def slants : Nat → List (BitVec 32) → List (BitVec 32)
  | 0, l => l
  | k + 1, l => qtr (slants k l) k (4 + (k + 1) % 4) (8 + (k + 2) % 4) (12 + (k + 3) % 4)
def turned : Nat → List (BitVec 32) → List (BitVec 32)
  | 0, l => l
  | k + 1, l => slants 4 (cols 4 (turned k l))
theorem cols_length (l : List (BitVec 32)) : ∀ k, (cols k l).length = l.length
  | 0 => rfl
  | k + 1 => by rw [cols, qtr_length, cols_length l k]
theorem slants_length (l : List (BitVec 32)) : ∀ k, (slants k l).length = l.length
  | 0 => rfl
  | k + 1 => by rw [slants, qtr_length, slants_length l k]
theorem turned_length (l : List (BitVec 32)) : ∀ k, (turned k l).length = l.length
  | 0 => rfl
  | k + 1 => by rw [turned, slants_length, cols_length, turned_length l k]

/-- The word of four bytes from a place on, the lowest first. -/
def wordAt (b : List UInt8) (i : Nat) : BitVec 32 := BitVec.ofNat 32 (getV b false (4 * i) 4)
theorem getV4_lt (b : List UInt8) (i : Nat) : getV b false i 4 < 4294967296 := by
  have h := leN_lt (cutB b i 4)
  have h2 : (cutB b i 4).length ≤ 4 := by simp [cutB]; omega
  have h3 : (256 : Nat) ^ (cutB b i 4).length ≤ 256 ^ 4 := Nat.pow_le_pow_right (by decide) h2
  show leN _ < _
  omega
theorem wordAt_val (b : List UInt8) (i : Nat) : ((wordAt b i).toNat : Int) = (getV b false (4 * i) 4 : Int) := by
  have := getV4_lt b (4 * i)
  rw [wordAt, BitVec.toNat_ofNat, Nat.mod_eq_of_lt (by omega)]
/-- The first k words. -/
def wordsTo (b : List UInt8) (k : Nat) : List (BitVec 32) := (List.range k).map (wordAt b)
theorem wordsTo_length (b : List UInt8) (k : Nat) : (wordsTo b k).length = k := by simp [wordsTo]
theorem wordsTo_succ (b : List UInt8) (k : Nat) : wordsTo b (k + 1) = wordsTo b k ++ [wordAt b k] := by simp [wordsTo, List.range_succ]
def chaHead : List (BitVec 32) := [0x61707865#32, 0x3320646e#32, 0x79622d32#32, 0x6b206574#32]
def chaAt (key : List UInt8) (ctr : BitVec 32) (nonce : List UInt8) : List (BitVec 32) := chaHead ++ wordsTo key 8 ++ [ctr] ++ wordsTo nonce 3
theorem chaAt_length (key : List UInt8) (ctr : BitVec 32) (nonce : List UInt8) : (chaAt key ctr nonce).length = 16 := by simp [chaAt, chaHead, wordsTo_length]
def chaWord (key : List UInt8) (ctr : BitVec 32) (nonce : List UInt8) (i : Nat) : BitVec 32 := at32 (turned 10 (chaAt key ctr nonce)) i + at32 (chaAt key ctr nonce) i
/-- The bytes of the first k words. -/
def blkTo (key : List UInt8) (ctr : BitVec 32) (nonce : List UInt8) : Nat → List UInt8
  | 0 => []
  | k + 1 => blkTo key ctr nonce k ++ leB 4 (chaWord key ctr nonce k).toNat
def blk (key : List UInt8) (ctr : BitVec 32) (nonce : List UInt8) : List UInt8 := blkTo key ctr nonce 16
theorem blkTo_length (key : List UInt8) (ctr : BitVec 32) (nonce : List UInt8) : ∀ k, (blkTo key ctr nonce k).length = 4 * k
  | 0 => rfl
  | k + 1 => by rw [blkTo, List.length_append, leB_length, blkTo_length key ctr nonce k]; omega
theorem blk_length (key : List UInt8) (ctr : BitVec 32) (nonce : List UInt8) : (blk key ctr nonce).length = 64 := blkTo_length key ctr nonce 16
/-- Four bytes of a number are those of what is left of it by 2^32. -/
theorem leB4_mod (n : Nat) : leB 4 n = leB 4 (n % 4294967296) := by
  simp only [leB]
  have e0 : n % 4294967296 % 256 = n % 256 := by omega
  have e1 : n % 4294967296 / 256 % 256 = n / 256 % 256 := by omega
  have e2 : n % 4294967296 / 256 / 256 % 256 = n / 256 / 256 % 256 := by omega
  have e3 : n % 4294967296 / 256 / 256 / 256 % 256 = n / 256 / 256 / 256 % 256 := by omega
  rw [e0, e1, e2, e3]
theorem leB4_add (x y : BitVec 32) : leB 4 (x.toNat + y.toNat) = leB 4 (x + y).toNat := by
  rw [leB4_mod, BitVec.toNat_add]

/-- The byte of the stream at a place. -/
def stmAt (key : List UInt8) (ctr : BitVec 32) (nonce : List UInt8) (i : Nat) : UInt8 := at8 (blk key (ctr + BitVec.ofNat 32 (i / 64)) nonce) (i % 64)
/-- b against the stream from place i on. -/
def stmFrom (key : List UInt8) (ctr : BitVec 32) (nonce : List UInt8) : Nat → List UInt8 → List UInt8
  | _, [] => []
  | i, c :: r => (c ^^^ stmAt key ctr nonce i) :: stmFrom key ctr nonce (i + 1) r
def stm (key : List UInt8) (ctr : BitVec 32) (nonce : List UInt8) (b : List UInt8) : List UInt8 := stmFrom key ctr nonce 0 b
section
variable (key : List UInt8) (ctr : BitVec 32) (nonce : List UInt8)
theorem stmFrom_length : ∀ i b, (stmFrom key ctr nonce i b).length = b.length
  | _, [] => rfl
  | i, c :: r => by simp [stmFrom, stmFrom_length (i + 1) r]
theorem stm_length (b : List UInt8) : (stm key ctr nonce b).length = b.length := stmFrom_length key ctr nonce 0 b
theorem stmFrom_append : ∀ i b c, stmFrom key ctr nonce i (b ++ c) = stmFrom key ctr nonce i b ++ stmFrom key ctr nonce (i + b.length) c
  | i, [], c => by simp [stmFrom]
  | i, x :: r, c => by
    simp only [List.cons_append, stmFrom, List.length_cons]
    rw [stmFrom_append (i + 1) r c, show i + 1 + r.length = i + (r.length + 1) by omega]
theorem stmFrom_twice : ∀ i b, stmFrom key ctr nonce i (stmFrom key ctr nonce i b) = b
  | _, [] => rfl
  | i, c :: r => by rw [stmFrom, stmFrom, stmFrom_twice (i + 1) r, UInt8.xor_assoc, UInt8.xor_self, UInt8.xor_zero]
theorem stm_twice (b : List UInt8) : stm key ctr nonce (stm key ctr nonce b) = b := stmFrom_twice key ctr nonce 0 b
theorem stmFrom_at : ∀ i b k, k < b.length → at8 (stmFrom key ctr nonce i b) k = at8 b k ^^^ stmAt key ctr nonce (i + k)
  | i, [], k, h => by simp at h
  | i, c :: r, 0, _ => by simp [stmFrom, at8]
  | i, c :: r, k + 1, h => by
    have := stmFrom_at (i + 1) r k (by simpa using h)
    rw [show i + 1 + k = i + (k + 1) by omega] at this
    simpa [stmFrom, at8] using this
theorem stm_at (b : List UInt8) (k : Nat) (h : k < b.length) : at8 (stm key ctr nonce b) k = at8 b k ^^^ stmAt key ctr nonce k := by
  have := stmFrom_at key ctr nonce 0 b k h
  rwa [Nat.zero_add] at this
/-- So many blocks on it is the stream from that counter on. -/
theorem stmAt_shift (n i : Nat) : stmAt key ctr nonce (64 * n + i) = stmAt key (ctr + BitVec.ofNat 32 n) nonce i := by
  unfold stmAt
  rw [show (64 * n + i) / 64 = n + i / 64 by omega, show (64 * n + i) % 64 = i % 64 by omega]
  congr 2
  apply BitVec.eq_of_toNat_eq
  simp only [BitVec.toNat_add, BitVec.toNat_ofNat]
  omega
theorem stmFrom_shift (n : Nat) : ∀ i b, stmFrom key ctr nonce (64 * n + i) b = stmFrom key (ctr + BitVec.ofNat 32 n) nonce i b
  | _, [] => rfl
  | i, c :: r => by
    rw [stmFrom, stmFrom, stmAt_shift, ← stmFrom_shift n (i + 1) r, Nat.add_assoc]
theorem stm_parts (b : List UInt8) (n : Nat) : stm key ctr nonce b = stm key ctr nonce (b.take (min (64 * n) b.length)) ++ stm key (ctr + BitVec.ofNat 32 n) nonce (b.drop (min (64 * n) b.length)) := by
  unfold stm
  by_cases h : 64 * n ≤ b.length
  · rw [Nat.min_eq_left h]
    have e := stmFrom_append key ctr nonce 0 (b.take (64 * n)) (b.drop (64 * n))
    rw [List.take_append_drop, List.length_take, Nat.min_eq_left h, Nat.zero_add] at e
    rw [e, ← stmFrom_shift, Nat.add_zero]
  · rw [Nat.min_eq_right (by omega)]
    simp [stmFrom]
theorem stm_take (b : List UInt8) (n : Nat) (h : n ≤ b.length) : (stm key ctr nonce b).take n = stm key ctr nonce (b.take n) := by
  unfold stm
  have e := stmFrom_append key ctr nonce 0 (b.take n) (b.drop n)
  rw [List.take_append_drop] at e
  rw [e, List.take_append_of_le_length (by rw [stmFrom_length, List.length_take]; omega), List.take_of_length_le (by rw [stmFrom_length, List.length_take]; omega)]
/-- One block (or what is left), and what comes behind it. -/
theorem stm_step (b : List UInt8) (i : Nat) (h : 64 * i < b.length) :
    stm key ctr nonce (b.take (min (64 * i + 64) b.length)) = stm key ctr nonce (b.take (64 * i)) ++ stm key (ctr + BitVec.ofNat 32 i) nonce ((b.drop (64 * i)).take (min 64 (b.length - 64 * i))) := by
  obtain ⟨m, hm⟩ : ∃ m, m = min (64 * i + 64) b.length := ⟨_, rfl⟩
  rw [← hm]
  have e := stm_parts key ctr nonce (b.take m) i
  have h1 : (b.take m).length = m := by rw [List.length_take]; omega
  rw [h1, Nat.min_eq_left (show 64 * i ≤ m by omega), List.take_take, Nat.min_eq_left (show 64 * i ≤ m by omega), List.drop_take, show m - 64 * i = min 64 (b.length - 64 * i) by omega] at e
  exact e
theorem stm_one (b : List UInt8) (h : b.length ≤ 64) : stm key ctr nonce b = List.zipWith (· ^^^ ·) b (blk key ctr nonce) := by
  have hl := blk_length key ctr nonce
  apply List.ext_getElem
  · rw [stm_length, List.length_zipWith, hl]; omega
  · intro k h1 h2
    rw [stm_length] at h1
    have e := stm_at key ctr nonce b k h1
    rw [at8_get _ _ (by rw [stm_length]; exact h1), at8_get _ _ h1] at e
    rw [e, List.getElem_zipWith]
    unfold stmAt
    rw [Nat.div_eq_of_lt (by omega), Nat.mod_eq_of_lt (by omega), show ctr + BitVec.ofNat 32 0 = ctr from BitVec.add_zero ctr, at8_get _ _ (by omega)]
end
end Go.Proofs.Ytcnihgjibiidpaa
