/- Several texts laid together. -/
import Derived.Test.YtdancpcnjklifaaDoorBase
import Derived.WalkKit
/- Plain facts on the stream of a key: words of 32 bits, quarters, blocks, and what a stream is at each place. No program is named here. -/
namespace Go.Proofs.YtdancpcnjklifaaDoor
set_option linter.unusedVariables false
set_option maxRecDepth 100000
open Go.RowKit

/-- The word at a place (0 where there is none). -/
def at32 (l : List (BitVec 32)) (i : Nat) : BitVec 32 := l.getD i 0#32
theorem at32_get (l : List (BitVec 32)) (i : Nat) (h : i < l.length) : at32 l i = l[i] := by simp [at32, h]
theorem at32_set_same (l : List (BitVec 32)) (i : Nat) (v : BitVec 32) (h : i < l.length) : at32 (l.set i v) i = v := by simp [at32, h]
theorem at32_set_other (l : List (BitVec 32)) (i j : Nat) (v : BitVec 32) (h : i ≠ j) : at32 (l.set i v) j = at32 l j := by simp [at32, List.getElem?_set_ne h]

/-- A sum, and what differs from it, turned. -/
def qhalf (l : List (BitVec 32)) (a b d : Nat) (n : Int) : List (BitVec 32) := (l.set a (at32 l a + at32 l b)).set d (rotl (at32 l d ^^^ (at32 l a + at32 l b)) n)
def qtr (l : List (BitVec 32)) (a b c d : Nat) : List (BitVec 32) := qhalf (qhalf (qhalf (qhalf l a b d 16) c d b 12) a b d 8) c d b 7
theorem qhalf_length (l : List (BitVec 32)) (a b d : Nat) (n : Int) : (qhalf l a b d n).length = l.length := by simp [qhalf]
theorem qtr_length (l : List (BitVec 32)) (a b c d : Nat) : (qtr l a b c d).length = l.length := by simp [qtr, qhalf_length]
/-- The first k quarters of the columns, then of the slants. -/
def cols : Nat → List (BitVec 32) → List (BitVec 32)
  | 0, l => l
  | k + 1, l => qtr (cols k l) k (4 + k) (8 + k) (12 + k)
def slants : Nat → List (BitVec 32) → List (BitVec 32)
  | 0, l => l
  | k + 1, l => qtr (slants k l) k (4 + (k + 1) % 4) (8 + (k + 2) % 4) (12 + (k + 3) % 4)
def turned : Nat → List (BitVec 32) → List (BitVec 32)
  | 0, l => l
  | k + 1, l => slants 4 (cols 4 (turned k l))
theorem cols_length (l : List (BitVec 32)) : ∀ k, (cols k l).length = l.length
  | 0 => rfl
  | k + 1 => by rw [cols, qtr_length, cols_length l k]
theorem slants_length (l : List (BitVec 32)) : ∀ k, (slants k l).length = l.length
  | 0 => rfl
  | k + 1 => by rw [slants, qtr_length, slants_length l k]
theorem turned_length (l : List (BitVec 32)) : ∀ k, (turned k l).length = l.length
  | 0 => rfl
  | k + 1 => by rw [turned, slants_length, cols_length, turned_length l k]

/-- The word of four bytes from a place on, the lowest first. -/
def wordAt (b : List UInt8) (i : Nat) : BitVec 32 := BitVec.ofNat 32 (getV b false (4 * i) 4)
theorem getV4_lt (b : List UInt8) (i : Nat) : getV b false i 4 < 4294967296 := by
  have h := leN_lt (cutB b i 4)
  have h2 : (cutB b i 4).length ≤ 4 := by simp [cutB]; omega
  have h3 : (256 : Nat) ^ (cutB b i 4).length ≤ 256 ^ 4 := Nat.pow_le_pow_right (by decide) h2
  show leN _ < _
  omega
theorem wordAt_val (b : List UInt8) (i : Nat) : ((wordAt b i).toNat : Int) = (getV b false (4 * i) 4 : Int) := by
  have := getV4_lt b (4 * i)
  rw [wordAt, BitVec.toNat_ofNat, Nat.mod_eq_of_lt (by omega)]
/-- The first k words. -/
def wordsTo (b : List UInt8) (k : Nat) : List (BitVec 32) := (List.range k).map (wordAt b)
theorem wordsTo_length (b : List UInt8) (k : Nat) : (wordsTo b k).length = k := by simp [wordsTo]
theorem wordsTo_succ (b : List UInt8) (k : Nat) : wordsTo b (k + 1) = wordsTo b k ++ [wordAt b k] := by simp [wordsTo, List.range_succ]
def chaHead : List (BitVec 32) := [0x61707865#32, 0x3320646e#32, 0x79622d32#32, 0x6b206574#32]
def chaAt (key : List UInt8) (ctr : BitVec 32) (nonce : List UInt8) : List (BitVec 32) := chaHead ++ wordsTo key 8 ++ [ctr] ++ wordsTo nonce 3
theorem chaAt_length (key : List UInt8) (ctr : BitVec 32) (nonce : List UInt8) : (chaAt key ctr nonce).length = 16 := by simp [chaAt, chaHead, wordsTo_length]
def chaWord (key : List UInt8) (ctr : BitVec 32) (nonce : List UInt8) (i : Nat) : BitVec 32 := at32 (turned 10 (chaAt key ctr nonce)) i + at32 (chaAt key ctr nonce) i
/-- The bytes of the first k words. -/
def blkTo (key : List UInt8) (ctr : BitVec 32) (nonce : List UInt8) : Nat → List UInt8
  | 0 => []
  | k + 1 => blkTo key ctr nonce k ++ leB 4 (chaWord key ctr nonce k).toNat
def blk (key : List UInt8) (ctr : BitVec 32) (nonce : List UInt8) : List UInt8 := blkTo key ctr nonce 16
theorem blkTo_length (key : List UInt8) (ctr : BitVec 32) (nonce : List UInt8) : ∀ k, (blkTo key ctr nonce k).length = 4 * k
  | 0 => rfl
  | k + 1 => by rw [blkTo, List.length_append, leB_length, blkTo_length key ctr nonce k]; omega
theorem blk_length (key : List UInt8) (ctr : BitVec 32) (nonce : List UInt8) : (blk key ctr nonce).length = 64 := blkTo_length key ctr nonce 16
/-- Four bytes of a number are those of what is left of it by 2^32. -/
theorem leB4_mod (n : Nat) : leB 4 n = leB 4 (n % 4294967296) := by
  simp only [leB]
  have e0 : n % 4294967296 % 256 = n % 256 := by omega
  have e1 : n % 4294967296 / 256 % 256 = n / 256 % 256 := by omega
  have e2 : n % 4294967296 / 256 / 256 % 256 = n / 256 / 256 % 256 := by omega
  have e3 : n % 4294967296 / 256 / 256 / 256 % 256 = n / 256 / 256 / 256 % 256 := by omega
  rw [e0, e1, e2, e3]
theorem leB4_add (x y : BitVec 32) : leB 4 (x.toNat + y.toNat) = leB 4 (x + y).toNat := by
  rw [leB4_mod, BitVec.toNat_add]

/-- The byte of the stream at a place. -/
def stmAt (key : List UInt8) (ctr : BitVec 32) (nonce : List UInt8) (i : Nat) : UInt8 := at8 (blk key (ctr + BitVec.ofNat 32 (i / 64)) nonce) (i % 64)
/-- b against the stream from place i on. -/
def stmFrom (key : List UInt8) (ctr : BitVec 32) (nonce : List UInt8) : Nat → List UInt8 → List UInt8
  | _, [] => []
  | i, c :: r => (c ^^^ stmAt key ctr nonce i) :: stmFrom key ctr nonce (i + 1) r
def stm (key : List UInt8) (ctr : BitVec 32) (nonce : List UInt8) (b : List UInt8) : List UInt8 := stmFrom key ctr nonce 0 b
section
variable (key : List UInt8) (ctr : BitVec 32) (nonce : List UInt8)
theorem stmFrom_length : ∀ i b, (stmFrom key ctr nonce i b).length = b.length
  | _, [] => rfl
  | i, c :: r => by simp [stmFrom, stmFrom_length (i + 1) r]
theorem stm_length (b : List UInt8) : (stm key ctr nonce b).length = b.length := stmFrom_length key ctr nonce 0 b
theorem stmFrom_append : ∀ i b c, stmFrom key ctr nonce i (b ++ c) = stmFrom key ctr nonce i b ++ stmFrom key ctr nonce (i + b.length) c
  | i, [], c => by simp [stmFrom]
  | i, x :: r, c => by
    simp only [List.cons_append, stmFrom, List.length_cons]
    rw [stmFrom_append (i + 1) r c, show i + 1 + r.length = i + (r.length + 1) by omega]
theorem stmFrom_twice : ∀ i b, stmFrom key ctr nonce i (stmFrom key ctr nonce i b) = b
  | _, [] => rfl
  | i, c :: r => by rw [stmFrom, stmFrom, stmFrom_twice (i + 1) r, UInt8.xor_assoc, UInt8.xor_self, UInt8.xor_zero]
theorem stm_twice (b : List UInt8) : stm key ctr nonce (stm key ctr nonce b) = b := stmFrom_twice key ctr nonce 0 b
theorem stmFrom_at : ∀ i b k, k < b.length → at8 (stmFrom key ctr nonce i b) k = at8 b k ^^^ stmAt key ctr nonce (i + k)
  | i, [], k, h => by simp at h
  | i, c :: r, 0, _ => by simp [stmFrom, at8]
  | i, c :: r, k + 1, h => by
    have := stmFrom_at (i + 1) r k (by simpa using h)
    rw [show i + 1 + k = i + (k + 1) by omega] at this
    simpa [stmFrom, at8] using this
theorem stm_at (b : List UInt8) (k : Nat) (h : k < b.length) : at8 (stm key ctr nonce b) k = at8 b k ^^^ stmAt key ctr nonce k := by
  have := stmFrom_at key ctr nonce 0 b k h
  rwa [Nat.zero_add] at this
/-- So many blocks on it is the stream from that counter on. -/
theorem stmAt_shift (n i : Nat) : stmAt key ctr nonce (64 * n + i) = stmAt key (ctr + BitVec.ofNat 32 n) nonce i := by
  unfold stmAt
  rw [show (64 * n + i) / 64 = n + i / 64 by omega, show (64 * n + i) % 64 = i % 64 by omega]
  congr 2
  apply BitVec.eq_of_toNat_eq
  simp only [BitVec.toNat_add, BitVec.toNat_ofNat]
  omega
theorem stmFrom_shift (n : Nat) : ∀ i b, stmFrom key ctr nonce (64 * n + i) b = stmFrom key (ctr + BitVec.ofNat 32 n) nonce i b
  | _, [] => rfl
  | i, c :: r => by
    rw [stmFrom, stmFrom, stmAt_shift, ← stmFrom_shift n (i + 1) r, Nat.add_assoc]
theorem stm_parts (b : List UInt8) (n : Nat) : stm key ctr nonce b = stm key ctr nonce (b.take (min (64 * n) b.length)) ++ stm key (ctr + BitVec.ofNat 32 n) nonce (b.drop (min (64 * n) b.length)) := by
  unfold stm
  by_cases h : 64 * n ≤ b.length
  · rw [Nat.min_eq_left h]
    have e := stmFrom_append key ctr nonce 0 (b.take (64 * n)) (b.drop (64 * n))
    rw [List.take_append_drop, List.length_take, Nat.min_eq_left h, Nat.zero_add] at e
    rw [e, ← stmFrom_shift, Nat.add_zero]
  · rw [Nat.min_eq_right (by omega)]
    simp [stmFrom]
theorem stm_take (b : List UInt8) (n : Nat) (h : n ≤ b.length) : (stm key ctr nonce b).take n = stm key ctr nonce (b.take n) := by
  unfold stm
  have e := stmFrom_append key ctr nonce 0 (b.take n) (b.drop n)
  rw [List.take_append_drop] at e
  rw [e, List.take_append_of_le_length (by rw [stmFrom_length, List.length_take]; omega), List.take_of_length_le (by rw [stmFrom_length, List.length_take]; omega)]
/-- One block (or what is left), and what comes behind it. -/
theorem stm_step (b : List UInt8) (i : Nat) (h : 64 * i < b.length) :
    stm key ctr nonce (b.take (min (64 * i + 64) b.length)) = stm key ctr nonce (b.take (64 * i)) ++ stm key (ctr + BitVec.ofNat 32 i) nonce ((b.drop (64 * i)).take (min 64 (b.length - 64 * i))) := by
  obtain ⟨m, hm⟩ : ∃ m, m = min (64 * i + 64) b.length := ⟨_, rfl⟩
  rw [← hm]
  have e := stm_parts key ctr nonce (b.take m) i
  have h1 : (b.take m).length = m := by rw [List.length_take]; omega
  rw [h1, Nat.min_eq_left (show 64 * i ≤ m by omega), List.take_take, Nat.min_eq_left (show 64 * i ≤ m by omega), List.drop_take, show m - 64 * i = min 64 (b.length - 64 * i) by omega] at e
  exact e
theorem stm_one (b : List UInt8) (h : b.length ≤ 64) : stm key ctr nonce b = List.zipWith (· ^^^ ·) b (blk key ctr nonce) := by
  have hl := blk_length key ctr nonce
  apply List.ext_getElem
  · rw [stm_length, List.length_zipWith, hl]; omega
  · intro k h1 h2
    rw [stm_length] at h1
    have e := stm_at key ctr nonce b k h1
    rw [at8_get _ _ (by rw [stm_length]; exact h1), at8_get _ _ h1] at e
    rw [e, List.getElem_zipWith]
    unfold stmAt
    rw [Nat.div_eq_of_lt (by omega), Nat.mod_eq_of_lt (by omega), show ctr + BitVec.ofNat 32 0 = ctr from BitVec.add_zero ctr, at8_get _ _ (by omega)]
end
end Go.Proofs.YtdancpcnjklifaaDoor

/- Plain facts on numbers as rows of digits to base 256, the lowest first. No program is named here. -/
namespace Go.Proofs.YtdancpcnjklifaaDoor
set_option linter.unusedVariables false
set_option maxRecDepth 100000

/-- What a row of digits is as a number (the digits may be greater than they should be). -/
def valD : List Nat → Nat
  | [] => 0
  | c :: r => c + 256 * valD r
/-- The least row of digits of a number. -/
def dig (n : Nat) : List Nat := if h : n = 0 then [] else n % 256 :: dig (n / 256)
theorem dig_zero : dig 0 = [] := by unfold dig; simp
theorem dig_pos (n : Nat) (h : n ≠ 0) : dig n = n % 256 :: dig (n / 256) := by rw [dig]; simp [h]
theorem valD_dig : ∀ n, valD (dig n) = n := by
  intro n
  induction n using Nat.strongRecOn with
  | _ n ih =>
    by_cases h : n = 0
    · rw [h, dig_zero]; rfl
    · rw [dig_pos n h, valD, ih (n / 256) (by omega)]; omega
theorem dig_lt : ∀ n, ∀ x ∈ dig n, x < 256 := by
  intro n
  induction n using Nat.strongRecOn with
  | _ n ih =>
    intro x hx
    by_cases h : n = 0
    · rw [h, dig_zero] at hx; cases hx
    · rw [dig_pos n h] at hx
      rcases List.mem_cons.1 hx with rfl | hx
      · omega
      · exact ih (n / 256) (by omega) x hx
theorem valD_append : ∀ a b, valD (a ++ b) = valD a + 256 ^ a.length * valD b
  | [], b => by simp [valD]
  | c :: r, b => by simp only [List.cons_append, valD, valD_append r b, List.length_cons, Nat.pow_succ]; rw [Nat.mul_add, ← Nat.mul_assoc, Nat.mul_comm (256 ^ r.length) 256, Nat.add_assoc]
theorem valD_snoc (a : List Nat) (x : Nat) : valD (a ++ [x]) = valD a + 256 ^ a.length * x := by rw [valD_append]; simp [valD]
theorem valD_lt : ∀ l : List Nat, (∀ x ∈ l, x < 256) → valD l < 256 ^ l.length
  | [], _ => by simp [valD]
  | c :: r, h => by
    have h1 := h c (by simp)
    have h2 := valD_lt r (fun x hx => h x (by simp [hx]))
    simp only [valD, List.length_cons, Nat.pow_succ]
    omega
/-- A row without 0s behind is the least one. -/
theorem dig_valD : ∀ l : List Nat, (∀ x ∈ l, x < 256) → (∀ x, l.getLast? = some x → x ≠ 0) → dig (valD l) = l
  | [], _, _ => dig_zero
  | c :: r, h, hl => by
    have h1 := h c (by simp)
    have hr : ∀ x ∈ r, x < 256 := fun x hx => h x (by simp [hx])
    have ih : dig (valD r) = r := dig_valD r hr (fun x hx => hl x (by
      cases r with
      | nil => simp at hx
      | cons d s => simpa [List.getLast?_cons_cons] using hx))
    have hne : valD (c :: r) ≠ 0 := by
      intro h0
      simp only [valD] at h0
      have hc0 : c = 0 := by omega
      have hr0 : valD r = 0 := by omega
      rw [hr0, dig_zero] at ih
      subst ih
      exact hl c (by simp) hc0
    rw [dig_pos _ hne]
    simp only [valD]
    rw [show (c + 256 * valD r) % 256 = c by omega, show (c + 256 * valD r) / 256 = valD r by omega, ih]
theorem dig_length_le (n k : Nat) (h : n < 256 ^ k) : (dig n).length ≤ k := by
  induction k generalizing n with
  | zero =>
    have : n = 0 := by simpa using h
    rw [this, dig_zero]; simp
  | succ k ih =>
    by_cases h0 : n = 0
    · rw [h0, dig_zero]; simp
    · rw [dig_pos n h0, List.length_cons]
      have := ih (n / 256) (by rw [Nat.pow_succ] at h; omega)
      omega
theorem dig_nil (n : Nat) : dig n = [] ↔ n = 0 := by
  constructor
  · intro h
    have := valD_dig n
    rw [h] at this
    exact this.symm
  · intro h; rw [h, dig_zero]
theorem dig_length_zero (n : Nat) : (dig n).length = 0 ↔ n = 0 := by rw [List.length_eq_zero_iff, dig_nil]
/-- The digit at a place (0 where there is none). -/
def atD (l : List Nat) (i : Nat) : Nat := l.getD i 0
theorem atD_get (l : List Nat) (i : Nat) (h : i < l.length) : atD l i = l[i] := by simp [atD, h]
theorem atD_out (l : List Nat) (i : Nat) (h : l.length ≤ i) : atD l i = 0 := by simp [atD, List.getElem?_eq_none h]
theorem atD_mem (l : List Nat) (i : Nat) (h : i < l.length) : atD l i ∈ l := by rw [atD_get l i h]; exact List.getElem_mem h
theorem atD_lt (l : List Nat) (hl : ∀ x ∈ l, x < 256) (i : Nat) : atD l i < 256 := by
  rcases Nat.lt_or_ge i l.length with h | h
  · exact hl _ (atD_mem l i h)
  · rw [atD_out l i h]; omega
theorem valD_at : ∀ (l : List Nat), (∀ x ∈ l, x < 256) → ∀ i, valD l / 256 ^ i % 256 = atD l i
  | [], _, i => by simp [valD, atD]
  | c :: r, h, 0 => by
    have h1 := h c (by simp)
    simp only [valD, Nat.pow_zero, Nat.div_one]
    simp [atD]; omega
  | c :: r, h, i + 1 => by
    have h1 := h c (by simp)
    have ih := valD_at r (fun x hx => h x (by simp [hx])) i
    rw [Nat.pow_succ, Nat.mul_comm, ← Nat.div_div_eq_div_mul]
    simp only [valD]
    rw [show (c + 256 * valD r) / 256 = valD r by omega, ih]
    simp [atD]
theorem dig_at (n i : Nat) : atD (dig n) i = n / 256 ^ i % 256 := by
  have := valD_at (dig n) (dig_lt n) i
  rw [valD_dig] at this
  exact this.symm
theorem take_snoc (l : List Nat) (k : Nat) (h : k < l.length) : l.take (k + 1) = l.take k ++ [atD l k] := by
  rw [List.take_succ_eq_append_getElem h, atD_get l k h]
theorem valD_take_succ (l : List Nat) (k : Nat) (h : k < l.length) : valD (l.take (k + 1)) = valD (l.take k) + 256 ^ k * atD l k := by
  rw [take_snoc l k h, valD_snoc, List.length_take, Nat.min_eq_left (by omega)]
/-- A 0 at the end does not count. -/
theorem valD_trim (l : List Nat) (k : Nat) (h : k < l.length) (h0 : atD l k = 0) : valD (l.take (k + 1)) = valD (l.take k) := by
  rw [valD_take_succ l k h, h0]; simp
/-- More at one place. -/
theorem valD_set : ∀ (l : List Nat) (i x : Nat), i < l.length → valD (l.set i (atD l i + x)) = valD l + 256 ^ i * x
  | [], i, x, h => by simp at h
  | c :: r, 0, x, h => by simp [valD, atD]; omega
  | c :: r, i + 1, x, h => by
    have ih := valD_set r i x (by simpa using h)
    have e : atD (c :: r) (i + 1) = atD r i := by simp [atD]
    rw [e]
    simp only [List.set_cons_succ, valD, ih]
    rw [Nat.mul_add, Nat.pow_succ, ← Nat.mul_assoc, Nat.mul_comm 256 (256 ^ i), Nat.add_assoc]
theorem atD_set_same (l : List Nat) (i x : Nat) (h : i < l.length) : atD (l.set i x) i = x := by simp [atD, h]
theorem atD_set_other (l : List Nat) (i j x : Nat) (h : i ≠ j) : atD (l.set i x) j = atD l j := by simp [atD, List.getElem?_set_ne h]
theorem valD_replicate (n : Nat) : valD (List.replicate n 0) = 0 := by
  induction n with
  | zero => rfl
  | succ n ih => rw [List.replicate_succ, valD, ih]
theorem atD_replicate (n i : Nat) : atD (List.replicate n 0) i = 0 := by
  rcases Nat.lt_or_ge i n with h | h
  · simp [atD, h]
  · rw [atD_out _ _ (by simpa using h)]
/-- The first m digits of a number. -/
def firstD (y m : Nat) : List Nat := (List.range m).map fun j => y / 256 ^ j % 256
theorem firstD_length (y m : Nat) : (firstD y m).length = m := by simp [firstD]
theorem firstD_succ (y m : Nat) : firstD y (m + 1) = firstD y m ++ [y / 256 ^ m % 256] := by simp [firstD, List.range_succ]
theorem firstD_lt (y m : Nat) : ∀ x ∈ firstD y m, x < 256 := by
  intro x hx
  simp only [firstD, List.mem_map] at hx
  obtain ⟨j, _, rfl⟩ := hx
  omega
theorem valD_firstD (y : Nat) : ∀ m, valD (firstD y m) = y % 256 ^ m
  | 0 => by simp [firstD, valD, Nat.mod_one]
  | m + 1 => by
    rw [firstD_succ, valD_snoc, firstD_length, valD_firstD y m, Nat.pow_succ]
    exact (Nat.mod_mul).symm
theorem valD_firstD_all (y m : Nat) (h : y < 256 ^ m) : valD (firstD y m) = y := by rw [valD_firstD, Nat.mod_eq_of_lt h]
theorem lt_pow_length (n : Nat) : n < 256 ^ (dig n).length := by
  have := valD_lt (dig n) (dig_lt n)
  rwa [valD_dig] at this
theorem dig_eq_firstD (n : Nat) : dig n = firstD n (dig n).length := by
  apply List.ext_getElem
  · rw [firstD_length]
  · intro i h1 h2
    rw [← atD_get _ _ h1, dig_at]
    simp [firstD]

/-! What is below 2 to a power, and above. -/
theorem two_pow_split (q b : Nat) : 2 ^ (8 * q + b) = 256 ^ q * 2 ^ b := by rw [Nat.pow_add, Nat.pow_mul]
/-- A digit below the place of the cut. -/
theorem low_digit (x q b j : Nat) (h : j < q) : x % 2 ^ (8 * q + b) / 256 ^ j % 256 = x / 256 ^ j % 256 := by
  obtain ⟨d, hd⟩ : ∃ d, 8 * q + b = 8 * j + (8 + d) := ⟨8 * q + b - 8 * j - 8, by omega⟩
  rw [hd, two_pow_split, Nat.mod_mul_right_div_self, Nat.pow_add]
  exact Nat.mod_mul_right_mod _ _ _
/-- The digit at the cut. -/
theorem cut_digit (x q b : Nat) (hb : b < 8) : x % 2 ^ (8 * q + b) / 256 ^ q % 256 = x / 256 ^ q % 256 % 2 ^ b := by
  rw [two_pow_split, Nat.mod_mul_right_div_self]
  have h1 : x / 256 ^ q % 2 ^ b < 256 := by
    have := Nat.mod_lt (x / 256 ^ q) (Nat.two_pow_pos b)
    have h2 : 2 ^ b ≤ 2 ^ 8 := Nat.pow_le_pow_right (by decide) (by omega)
    omega
  rw [Nat.mod_eq_of_lt h1]
  have h3 : (256 : Nat) = 2 ^ b * 2 ^ (8 - b) := by rw [← Nat.pow_add, show b + (8 - b) = 8 by omega]
  rw [h3, Nat.mod_mul_right_mod]
theorem shift_digit (y b : Nat) (hb : b < 8) : y / 2 ^ b % 256 = y % 256 / 2 ^ b + (y / 256 % 256 * 2 ^ (8 - b)) % 256 := by
  obtain rfl | rfl | rfl | rfl | rfl | rfl | rfl | rfl : b = 0 ∨ b = 1 ∨ b = 2 ∨ b = 3 ∨ b = 4 ∨ b = 5 ∨ b = 6 ∨ b = 7 := by omega
  all_goals simp only [Nat.reducePow, Nat.reduceSub]; omega
/-- A digit above the cut. -/
theorem high_digit (x q b j : Nat) (hb : b < 8) : x / 2 ^ (8 * q + b) / 256 ^ j % 256 = x / 256 ^ (q + j) % 256 / 2 ^ b + (x / 256 ^ (q + j + 1) % 256 * 2 ^ (8 - b)) % 256 := by
  have e : x / 2 ^ (8 * q + b) / 256 ^ j = x / 256 ^ (q + j) / 2 ^ b := by
    rw [Nat.div_div_eq_div_mul, Nat.div_div_eq_div_mul, two_pow_split, Nat.pow_add]
    congr 1
    rw [Nat.mul_assoc, Nat.mul_comm (2 ^ b), ← Nat.mul_assoc]
  rw [e, shift_digit _ _ hb, Nat.pow_succ, Nat.div_div_eq_div_mul]
end Go.Proofs.YtdancpcnjklifaaDoor

/- Plain facts on tags: parts of sixteen bytes, reckoned modulo 2^130 - 5. No program is named here. -/
namespace Go.Proofs.YtdancpcnjklifaaDoor
set_option linter.unusedVariables false
set_option maxRecDepth 100000
open Go.RowKit

/-- A byte of the key's first half, without the bits that do not count. -/
def clamp1 (i : Nat) (c : UInt8) : UInt8 := if i % 4 = 3 then UInt8.ofNat (c.toNat % 16) else if i % 4 = 0 ∧ i ≠ 0 then UInt8.ofNat (c.toNat / 4 * 4) else c
def clampB (key : List UInt8) : List UInt8 := (List.range 16).map fun i => clamp1 i (at8 key i)
theorem clampB_length (key : List UInt8) : (clampB key).length = 16 := by simp [clampB]
theorem clampB_at (key : List UInt8) (i : Nat) (h : i < 16) : at8 (clampB key) i = clamp1 i (at8 key i) := by
  rw [at8_get _ _ (by rw [clampB_length]; exact h)]
  simp [clampB]
def polyR (key : List UInt8) : Nat := leN (clampB key)
def polyS (key : List UInt8) : Nat := leN (cutB key 16 16)
def P1305 : Nat := 2 ^ 130 - 5
/-- A part, with a byte 1 behind it, as a number. -/
def partN (l : List UInt8) (k : Nat) : Nat := leN (cutB l (16 * k) 16 ++ [1])
def polyTo (r : Nat) (l : List UInt8) : Nat → Nat
  | 0 => 0
  | k + 1 => (polyTo r l k + partN l k) * r % P1305
def polyN (len : Nat) : Nat := (len + 15) / 16
def tag (key l : List UInt8) : List UInt8 := leB 16 (polyTo (polyR key) l (polyN l.length) + polyS key)
theorem tag_length (key l : List UInt8) : (tag key l).length = 16 := leB_length _ _
theorem polyTo_lt (r : Nat) (l : List UInt8) (k : Nat) : polyTo r l k < P1305 := by
  cases k with
  | zero => show 0 < P1305; decide
  | succ k => exact Nat.mod_lt _ (by decide)
theorem partN_lt (l : List UInt8) (k : Nat) : partN l k < 256 ^ 17 := by
  have h := leN_lt (cutB l (16 * k) 16 ++ [1])
  have h2 : (cutB l (16 * k) 16 ++ [1]).length ≤ 17 := by simp [cutB]; omega
  exact Nat.lt_of_lt_of_le h (Nat.pow_le_pow_right (by decide) h2)
theorem polyR_lt (key : List UInt8) : polyR key < 256 ^ 16 := by
  have := leN_lt (clampB key)
  rwa [clampB_length] at this
theorem polyS_lt (key : List UInt8) : polyS key < 256 ^ 16 := by
  have h := leN_lt (cutB key 16 16)
  have h2 : (cutB key 16 16).length ≤ 16 := by simp [cutB]; omega
  exact Nat.lt_of_lt_of_le h (Nat.pow_le_pow_right (by decide) h2)
/-- The digits of bytes, and back. -/
theorem valD_bytes : ∀ l : List UInt8, valD (l.map fun c => c.toNat) = leN l
  | [] => rfl
  | c :: r => by simp only [List.map_cons, valD, valD_bytes r, leN]
theorem leB_at (k n i : Nat) (h : i < k) : (at8 (leB k n) i).toNat = n / 256 ^ i % 256 := by
  rw [at8_get _ _ (by rw [leB_length]; exact h), leB_get k n i h]
  simp
end Go.Proofs.YtdancpcnjklifaaDoor

/- Plain facts on what is sealed. No program is named here. -/
namespace Go.Proofs.YtdancpcnjklifaaDoor
set_option linter.unusedVariables false
set_option maxRecDepth 100000
open Go.RowKit

/-- Bytes, and 0s up to a multiple of sixteen. -/
def padN (n : Nat) : Nat := (16 - n % 16) % 16
def pad16 (l : List UInt8) : List UInt8 := l ++ List.replicate (padN l.length) 0
theorem pad16_length (l : List UInt8) : (pad16 l).length = l.length + padN l.length := by simp [pad16]
theorem pad16_mod (l : List UInt8) : (l.length + padN l.length) % 16 = 0 := by unfold padN; omega
/-- What the tag is of. -/
def tagged (ad ct : List UInt8) : List UInt8 := pad16 ad ++ pad16 ct ++ leB 8 ad.length ++ leB 8 ct.length
def aeadTag (key nonce ad ct : List UInt8) : List UInt8 := tag ((blk key 0#32 nonce).take 32) (tagged ad ct)
theorem aeadTag_length (key nonce ad ct : List UInt8) : (aeadTag key nonce ad ct).length = 16 := tag_length _ _
def sealB (key nonce ad b : List UInt8) : List UInt8 := stm key 1#32 nonce b ++ aeadTag key nonce ad (stm key 1#32 nonce b)
theorem sealB_length (key nonce ad b : List UInt8) : (sealB key nonce ad b).length = b.length + 16 := by rw [sealB, List.length_append, stm_length, aeadTag_length]
/-- Is the tag that of the others? -/
def Sealed (key nonce ad b : List UInt8) : Prop := 16 ≤ b.length ∧ b.drop (b.length - 16) = aeadTag key nonce ad (b.take (b.length - 16))
def openB (key nonce b : List UInt8) : List UInt8 := stm key 1#32 nonce (b.take (b.length - 16))
theorem sealB_take (key nonce ad b : List UInt8) : (sealB key nonce ad b).take b.length = stm key 1#32 nonce b := by
  unfold sealB
  rw [← stm_length key 1#32 nonce b, List.take_left]
theorem sealB_drop (key nonce ad b : List UInt8) : (sealB key nonce ad b).drop b.length = aeadTag key nonce ad (stm key 1#32 nonce b) := by
  unfold sealB
  rw [← stm_length key 1#32 nonce b, List.drop_left]
theorem sealed_seal (key nonce ad b : List UInt8) : Sealed key nonce ad (sealB key nonce ad b) := by
  unfold Sealed
  rw [sealB_length, Nat.add_sub_cancel, sealB_take, sealB_drop]
  exact ⟨by omega, rfl⟩
theorem open_seal (key nonce ad b : List UInt8) : openB key nonce (sealB key nonce ad b) = b := by
  unfold openB
  rw [sealB_length, Nat.add_sub_cancel, sealB_take, stm_twice]
end Go.Proofs.YtdancpcnjklifaaDoor

/- Plain facts on the sum over bytes (blake): words of 32 bits, mixed; parts of 64 bytes. No program is named here. -/
namespace Go.Proofs.YtdancpcnjklifaaDoor
set_option linter.unusedVariables false
set_option maxRecDepth 100000
open Go.RowKit

/-- Turned to the right. -/
def rotr (x : BitVec 32) (n : Int) : BitVec 32 := rotl x (32 - n)
/-- Sums into a place; what differs, turned. -/
def badd3 (v : List (BitVec 32)) (a b : Nat) (x : BitVec 32) : List (BitVec 32) := v.set a (at32 v a + at32 v b + x)
def badd2 (v : List (BitVec 32)) (c d : Nat) : List (BitVec 32) := v.set c (at32 v c + at32 v d)
def brot (v : List (BitVec 32)) (d a : Nat) (n : Int) : List (BitVec 32) := v.set d (rotr (at32 v d ^^^ at32 v a) n)
def bmix (v : List (BitVec 32)) (a b c d : Nat) (x y : BitVec 32) : List (BitVec 32) :=
  brot (badd2 (brot (badd3 (brot (badd2 (brot (badd3 v a b x) d a 16) c d) b c 12) a b y) d a 8) c d) b c 7
theorem bmix_length (v : List (BitVec 32)) (a b c d : Nat) (x y : BitVec 32) : (bmix v a b c d x y).length = v.length := by simp [bmix, brot, badd2, badd3]
def ivB : List (BitVec 32) := [0x6a09e667#32, 0xbb67ae85#32, 0x3c6ef372#32, 0xa54ff53a#32, 0x510e527f#32, 0x9b05688c#32, 0x1f83d9ab#32, 0x5be0cd19#32]
def sigma : List (List Nat) := [
  [0, 1, 2, 3, 4, 5, 6, 7, 8, 9, 10, 11, 12, 13, 14, 15],
  [14, 10, 4, 8, 9, 15, 13, 6, 1, 12, 0, 2, 11, 7, 5, 3],
  [11, 8, 12, 0, 5, 2, 15, 13, 10, 14, 3, 6, 7, 1, 9, 4],
  [7, 9, 3, 1, 13, 12, 11, 14, 2, 6, 5, 10, 4, 0, 15, 8],
  [9, 0, 5, 7, 2, 4, 10, 15, 14, 1, 11, 12, 6, 8, 3, 13],
  [2, 12, 6, 10, 0, 11, 8, 3, 4, 13, 7, 5, 15, 14, 1, 9],
  [12, 5, 1, 15, 14, 13, 4, 10, 0, 7, 6, 3, 9, 2, 8, 11],
  [13, 11, 7, 14, 12, 1, 3, 9, 5, 0, 15, 4, 8, 6, 2, 10],
  [6, 15, 14, 9, 11, 3, 0, 8, 12, 2, 13, 7, 1, 4, 10, 5],
  [10, 2, 8, 4, 7, 6, 1, 5, 15, 11, 9, 14, 3, 12, 13, 0]]
def sig (i k : Nat) : Nat := (sigma.getD i []).getD k 0
theorem sig_lt : ∀ i k : Nat, i < 10 → k < 16 → sig i k < 16 := by
  have h : ∀ i : Fin 10, ∀ k : Fin 16, sig i.val k.val < 16 := by decide
  intro i k hi hk
  exact h ⟨i, hi⟩ ⟨k, hk⟩
/-- The first k mixes of a turn: down the columns, then along the slants. -/
def bcols (i : Nat) (m : List (BitVec 32)) : Nat → List (BitVec 32) → List (BitVec 32)
  | 0, v => v
  | k + 1, v => bmix (bcols i m k v) k (4 + k) (8 + k) (12 + k) (at32 m (sig i (2 * k))) (at32 m (sig i (2 * k + 1)))
def bslants (i : Nat) (m : List (BitVec 32)) : Nat → List (BitVec 32) → List (BitVec 32)
  | 0, v => v
  | k + 1, v => bmix (bslants i m k v) k (4 + (k + 1) % 4) (8 + (k + 2) % 4) (12 + (k + 3) % 4) (at32 m (sig i (8 + 2 * k))) (at32 m (sig i (9 + 2 * k)))
def bturned (m : List (BitVec 32)) : Nat → List (BitVec 32) → List (BitVec 32)
  | 0, v => v
  | i + 1, v => bslants i m 4 (bcols i m 4 (bturned m i v))
theorem bcols_length (i : Nat) (m v : List (BitVec 32)) : ∀ k, (bcols i m k v).length = v.length
  | 0 => rfl
  | k + 1 => by rw [bcols, bmix_length, bcols_length i m v k]
theorem bslants_length (i : Nat) (m v : List (BitVec 32)) : ∀ k, (bslants i m k v).length = v.length
  | 0 => rfl
  | k + 1 => by rw [bslants, bmix_length, bslants_length i m v k]
theorem bturned_length (m v : List (BitVec 32)) : ∀ i, (bturned m i v).length = v.length
  | 0 => rfl
  | i + 1 => by rw [bturned, bslants_length, bcols_length, bturned_length m v i]
/-- V ahead of all turns. -/
def bfirst (h : List (BitVec 32)) (t : Nat) (last : Bool) : List (BitVec 32) :=
  let v := h ++ ivB
  let v1 := v.set 12 (at32 v 12 ^^^ BitVec.ofNat 32 t)
  let v2 := v1.set 13 (at32 v1 13 ^^^ BitVec.ofNat 32 (t / 4294967296))
  if last then v2.set 14 (at32 v2 14 ^^^ 0xffffffff#32) else v2
theorem bfirst_length (h : List (BitVec 32)) (t : Nat) (last : Bool) (hh : h.length = 8) : (bfirst h t last).length = 16 := by
  unfold bfirst
  cases last <;> simp [hh, ivB]
/-- H behind a part of 64 bytes. -/
def bpart (h : List (BitVec 32)) (b : List UInt8) (t : Nat) (last : Bool) : List (BitVec 32) :=
  (List.range 8).map fun i => at32 h i ^^^ at32 (bturned (wordsTo b 16) 10 (bfirst h t last)) i ^^^ at32 (bturned (wordsTo b 16) 10 (bfirst h t last)) (8 + i)
theorem bpart_length (h : List (BitVec 32)) (b : List UInt8) (t : Nat) (last : Bool) : (bpart h b t last).length = 8 := by simp [bpart]
def bstart : List (BitVec 32) := ivB.set 0 0x6b08e647#32
/-- H behind the first k parts, none of them the last. -/
def bparts (b : List UInt8) : Nat → List (BitVec 32)
  | 0 => bstart
  | k + 1 => bpart (bparts b k) (cutB b (64 * k) 64) (64 * (k + 1)) false
theorem bparts_length (b : List UInt8) : ∀ k, (bparts b k).length = 8
  | 0 => rfl
  | k + 1 => bpart_length _ _ _ _
/-- How many parts come ahead of the last one. -/
def bahead (n : Nat) : Nat := (n - 1) / 64
def blast (b : List UInt8) : List UInt8 := b.drop (64 * bahead b.length) ++ List.replicate (64 - (b.length - 64 * bahead b.length)) 0
theorem blast_length (b : List UInt8) : (blast b).length = 64 := by
  unfold blast bahead
  simp
  omega
def wordsB : List (BitVec 32) → List UInt8
  | [] => []
  | x :: r => leB 4 x.toNat ++ wordsB r
theorem wordsB_append : ∀ a b, wordsB (a ++ b) = wordsB a ++ wordsB b
  | [], b => rfl
  | x :: r, b => by rw [List.cons_append, wordsB, wordsB, wordsB_append r b, List.append_assoc]
theorem wordsB_length : ∀ l, (wordsB l).length = 4 * l.length
  | [] => rfl
  | x :: r => by rw [wordsB, List.length_append, leB_length, wordsB_length r, List.length_cons]; omega
def blakeB (b : List UInt8) : List UInt8 := wordsB (bpart (bparts b (bahead b.length)) (blast b) b.length true)
theorem blakeB_length (b : List UInt8) : (blakeB b).length = 32 := by rw [blakeB, wordsB_length, bpart_length]
end Go.Proofs.YtdancpcnjklifaaDoor

/- Plain facts on sums of a key, and keys of a key. No program is named here. -/
namespace Go.Proofs.YtdancpcnjklifaaDoor
set_option linter.unusedVariables false
set_option maxRecDepth 100000
open Go.RowKit

/-- A key, or its sum, with 0s behind it. -/
def kshort (key : List UInt8) : List UInt8 := if 64 < key.length then blakeB key else key
theorem kshort_length (key : List UInt8) : (kshort key).length ≤ 64 := by
  unfold kshort
  split
  · rw [blakeB_length]; omega
  · omega
def kpad (key : List UInt8) : List UInt8 := kshort key ++ List.replicate (64 - (kshort key).length) 0
theorem kpad_length (key : List UInt8) : (kpad key).length = 64 := by
  have := kshort_length key
  simp [kpad]; omega
def allB (c : UInt8) : List UInt8 := List.replicate 64 c
def kin (key b : List UInt8) : List UInt8 := xorB (kpad key) (allB 0x36) ++ b
def kout (key b : List UInt8) : List UInt8 := xorB (kpad key) (allB 0x5c) ++ blakeB (kin key b)
def macB (key b : List UInt8) : List UInt8 := blakeB (kout key b)
theorem macB_length (key b : List UInt8) : (macB key b).length = 32 := blakeB_length _
theorem xor_pad_length (key : List UInt8) (c : UInt8) : (xorB (kpad key) (allB c)).length = 64 := by rw [xorB_length, kpad_length]; simp [allB]
def der1 (key b : List UInt8) : List UInt8 := macB (macB key b) [1]
def der2 (key b : List UInt8) : List UInt8 := macB (macB key b) (der1 key b ++ [2])
def der3 (key b : List UInt8) : List UInt8 := macB (macB key b) (der2 key b ++ [3])
theorem der1_length (key b : List UInt8) : (der1 key b).length = 32 := macB_length _ _
theorem der2_length (key b : List UInt8) : (der2 key b).length = 32 := macB_length _ _
theorem der3_length (key b : List UInt8) : (der3 key b).length = 32 := macB_length _ _
end Go.Proofs.YtdancpcnjklifaaDoor

/- Plain facts on keys that count, and that are mixed (stage 9). No program is named here. -/
namespace Go.Proofs.YtdancpcnjklifaaDoor
set_option linter.unusedVariables false
set_option maxRecDepth 100000
open Go.RowKit

/-- The nonce of a number. -/
def nonceB (n : Nat) : List UInt8 := List.replicate 4 0 ++ putB 8 n false
theorem nonceB_length (n : Nat) : (nonceB n).length = 12 := by rw [nonceB, List.length_append, putB_length, List.length_replicate]
def lastN : Nat := 18446744073709551615
/-- What a cipher seals, and answers beside it, and its number behind that. -/
def sOut (key : List UInt8) (has : Bool) (n : Nat) (ad b : List UInt8) : List UInt8 := if has = false then b else if n = lastN then [] else sealB key (nonceB n) ad b
def sErr (has : Bool) (n : Nat) : Nat := if has = false then 0 else if n = lastN then 5 else 0
def sNum (has : Bool) (n : Nat) : Nat := if has = false then n else if n = lastN then n else n + 1
/-- Is the tag that of the others? -/
def sealedB (key nonce ad b : List UInt8) : Bool := decide (16 ≤ b.length) && decide (b.drop (b.length - 16) = aeadTag key nonce ad (b.take (b.length - 16)))
theorem sealedB_iff (key nonce ad b : List UInt8) : sealedB key nonce ad b = true ↔ Sealed key nonce ad b := by
  unfold sealedB Sealed
  rw [Bool.and_eq_true, decide_eq_true_iff, decide_eq_true_iff]
theorem sealedB_no (key nonce ad b : List UInt8) (h : ¬ Sealed key nonce ad b) : sealedB key nonce ad b = false := by
  cases hs : sealedB key nonce ad b with
  | false => rfl
  | true => exact absurd ((sealedB_iff key nonce ad b).1 hs) h
/-- What a cipher opens, and answers beside it, and its number behind that. -/
def oOut (key : List UInt8) (has : Bool) (n : Nat) (ad b : List UInt8) : List UInt8 := if has = false then b else if n = lastN then [] else if sealedB key (nonceB n) ad b = true then openB key (nonceB n) b else []
def oErr (key : List UInt8) (has : Bool) (n : Nat) (ad b : List UInt8) : Nat := if has = false then 0 else if n = lastN then 5 else if sealedB key (nonceB n) ad b = true then 0 else 3
def oNum (key : List UInt8) (has : Bool) (n : Nat) (ad b : List UInt8) : Nat := if has = false then n else if n = lastN then n else if sealedB key (nonceB n) ad b = true then n + 1 else n
theorem openB_length (key nonce b : List UInt8) : (openB key nonce b).length = b.length - 16 := by rw [openB, stm_length, List.length_take]; omega
theorem sOut_le (key : List UInt8) (has : Bool) (n : Nat) (ad b : List UInt8) : (sOut key has n ad b).length ≤ b.length + 16 := by
  unfold sOut
  split
  · omega
  · split
    · simp
    · rw [sealB_length]; exact Nat.le_refl _
theorem oOut_le (key : List UInt8) (has : Bool) (n : Nat) (ad b : List UInt8) : (oOut key has n ad b).length ≤ b.length := by
  unfold oOut
  split
  · omega
  · split
    · simp
    · split
      · rw [openB_length]; omega
      · simp
theorem sNum_le (has : Bool) (n : Nat) (h : n ≤ lastN) : sNum has n ≤ lastN := by
  unfold sNum
  split
  · exact h
  · split
    · exact h
    · omega
theorem oNum_le (key : List UInt8) (has : Bool) (n : Nat) (ad b : List UInt8) (h : n ≤ lastN) : oNum key has n ad b ≤ lastN := by
  unfold oNum
  split
  · exact h
  · split
    · exact h
    · split <;> omega
/-- The key behind Rekey. -/
def rekB (key : List UInt8) (has : Bool) : List UInt8 := if has = false then key else (sealB key (nonceB lastN) [] (List.replicate 32 0)).take 32
theorem rekB_length (key : List UInt8) (has : Bool) (h : key.length = 32) : (rekB key has).length = 32 := by
  unfold rekB
  split
  · exact h
  · rw [List.length_take, sealB_length, List.length_replicate]; rfl
/-- Of a name. -/
def nameB (s : List UInt8) : List UInt8 := if 32 < s.length then blakeB s else s ++ List.replicate (32 - s.length) 0
theorem nameB_length (s : List UInt8) : (nameB s).length = 32 := by
  unfold nameB
  split
  · exact blakeB_length _
  · rw [List.length_append, List.length_replicate]; omega
/-- What is mixed. -/
def mixH (hash b : List UInt8) : List UInt8 := blakeB (hash ++ b)
theorem mixH_length (hash b : List UInt8) : (mixH hash b).length = 32 := blakeB_length _
/-- The hash behind SealMixed, OpenMixed. -/
def sHash (hash key : List UInt8) (has : Bool) (n : Nat) (b : List UInt8) : List UInt8 := if sErr has n = 0 then mixH hash (sOut key has n hash b) else hash
def oHash (hash key : List UInt8) (has : Bool) (n : Nat) (b : List UInt8) : List UInt8 := if oErr key has n hash b = 0 then mixH hash b else hash
theorem sHash_length (hash key : List UInt8) (has : Bool) (n : Nat) (b : List UInt8) (h : hash.length = 32) : (sHash hash key has n b).length = 32 := by
  unfold sHash
  split
  · exact mixH_length _ _
  · exact h
theorem oHash_length (hash key : List UInt8) (has : Bool) (n : Nat) (b : List UInt8) (h : hash.length = 32) : (oHash hash key has n b).length = 32 := by
  unfold oHash
  split
  · exact mixH_length _ _
  · exact h
/-- What was sealed is opened. -/
theorem oOut_sOut (key : List UInt8) (has : Bool) (n : Nat) (ad b : List UInt8) (h : n ≠ lastN) : oOut key has n ad (sOut key has n ad b) = b ∧ oErr key has n ad (sOut key has n ad b) = 0 ∧ oNum key has n ad (sOut key has n ad b) = sNum has n := by
  cases has with
  | false => simp [oOut, sOut, oErr, oNum, sNum]
  | true =>
    have hs : sealedB key (nonceB n) ad (sealB key (nonceB n) ad b) = true := (sealedB_iff _ _ _ _).2 (sealed_seal _ _ _ _)
    simp [oOut, sOut, oErr, oNum, sNum, h, hs, open_seal]
end Go.Proofs.YtdancpcnjklifaaDoor

/- Plain facts on numbers as five digits to base 2^26, reckoned modulo 2^130 - 5. No program is named here. -/
namespace Go.Proofs.YtdancpcnjklifaaDoor
set_option linter.unusedVariables false
set_option maxRecDepth 100000
open Go.RowKit

/-- What a row of digits to base 2^26 is as a number. -/
def valL : List Nat → Nat
  | [] => 0
  | c :: r => c + 67108864 * valL r
theorem valL_append : ∀ a b, valL (a ++ b) = valL a + 67108864 ^ a.length * valL b
  | [], b => by simp [valL]
  | c :: r, b => by simp only [List.cons_append, valL, valL_append r b, List.length_cons, Nat.pow_succ]; rw [Nat.mul_add, ← Nat.mul_assoc, Nat.mul_comm (67108864 ^ r.length) 67108864, Nat.add_assoc]
theorem valL_snoc (a : List Nat) (x : Nat) : valL (a ++ [x]) = valL a + 67108864 ^ a.length * x := by rw [valL_append]; simp [valL]
theorem valL_take_succ (l : List Nat) (k : Nat) (h : k < l.length) : valL (l.take (k + 1)) = valL (l.take k) + 67108864 ^ k * atD l k := by
  rw [take_snoc l k h, valL_snoc, List.length_take, Nat.min_eq_left (by omega)]
theorem valL_set : ∀ (l : List Nat) (i x : Nat), i < l.length → valL (l.set i (atD l i + x)) = valL l + 67108864 ^ i * x
  | [], i, x, h => by simp at h
  | c :: r, 0, x, h => by simp [valL, atD]; omega
  | c :: r, i + 1, x, h => by
    have ih := valL_set r i x (by simpa using h)
    have e : atD (c :: r) (i + 1) = atD r i := by simp [atD]
    rw [e]
    simp only [List.set_cons_succ, valL, ih]
    rw [Nat.mul_add, Nat.pow_succ, ← Nat.mul_assoc, Nat.mul_comm 67108864 (67108864 ^ i), Nat.add_assoc]
theorem valL_lt : ∀ l : List Nat, (∀ x ∈ l, x < 67108864) → valL l < 67108864 ^ l.length
  | [], _ => by simp [valL]
  | c :: r, h => by
    have h1 := h c (by simp)
    have h2 := valL_lt r (fun x hx => h x (by simp [hx]))
    simp only [valL, List.length_cons, Nat.pow_succ]
    omega
/-- Five digits, one by one. -/
theorem five (l : List Nat) (h : l.length = 5) : ∃ a b c d e, l = [a, b, c, d, e] := by
  match l, h with
  | [a, b, c, d, e], _ => exact ⟨a, b, c, d, e, rfl⟩
theorem atD_bound (l : List Nat) (B : Nat) (hB : 0 < B) (h : ∀ x ∈ l, x < B) (i : Nat) : atD l i < B := by
  rcases Nat.lt_or_ge i l.length with hi | hi
  · exact h _ (atD_mem l i hi)
  · rw [atD_out l i hi]; exact hB

/-- Digit by digit, the first k of them. -/
def addTo (a b : List Nat) : Nat → List Nat
  | 0 => a
  | k + 1 => (addTo a b k).set k (atD (addTo a b k) k + atD b k)
theorem addTo_length (a b : List Nat) : ∀ k, (addTo a b k).length = a.length
  | 0 => rfl
  | k + 1 => by rw [addTo, List.length_set, addTo_length a b k]
theorem addTo_at (a b : List Nat) : ∀ k j, k ≤ j → atD (addTo a b k) j = atD a j
  | 0, j, _ => rfl
  | k + 1, j, h => by rw [addTo, atD_set_other _ _ _ _ (by omega), addTo_at a b k j (by omega)]
theorem addTo_val (a b : List Nat) (ha : a.length = 5) (hb : b.length = 5) : valL (addTo a b 5) = valL a + valL b := by
  obtain ⟨a0, a1, a2, a3, a4, rfl⟩ := five a ha
  obtain ⟨b0, b1, b2, b3, b4, rfl⟩ := five b hb
  show valL [a0 + b0, a1 + b1, a2 + b2, a3 + b3, a4 + b4] = _
  simp only [valL]; omega
theorem addTo_lt (a b : List Nat) (ha : a.length = 5) (hb : b.length = 5) (h1 : ∀ x ∈ a, x < 67108864) (h2 : ∀ x ∈ b, x < 67108864) : ∀ x ∈ addTo a b 5, x < 134217728 := by
  obtain ⟨a0, a1, a2, a3, a4, rfl⟩ := five a ha
  obtain ⟨b0, b1, b2, b3, b4, rfl⟩ := five b hb
  show ∀ x ∈ [a0 + b0, a1 + b1, a2 + b2, a3 + b3, a4 + b4], x < 134217728
  simp at h1 h2 ⊢
  omega

/-- What is too much goes on to the next digit: the first k of them, and what is over. -/
def carTo (l : List Nat) : Nat → List Nat × Nat
  | 0 => (l, 0)
  | k + 1 => ((carTo l k).1.set k ((atD (carTo l k).1 k + (carTo l k).2) % 67108864), (atD (carTo l k).1 k + (carTo l k).2) / 67108864)
def carL (l : List Nat) : List Nat := (carTo l 5).1.set 0 (atD (carTo l 5).1 0 + 5 * (carTo l 5).2)
theorem carTo_length (l : List Nat) : ∀ k, (carTo l k).1.length = l.length
  | 0 => rfl
  | k + 1 => by rw [carTo, List.length_set, carTo_length l k]
theorem carTo_at (l : List Nat) : ∀ k j, k ≤ j → atD (carTo l k).1 j = atD l j
  | 0, j, _ => rfl
  | k + 1, j, h => by rw [carTo, atD_set_other _ _ _ _ (by omega), carTo_at l k j (by omega)]
theorem carTo_over (l : List Nat) (h : ∀ x ∈ l, x < 4611686018427387904) : ∀ k, (carTo l k).2 < 137438953472
  | 0 => by simp [carTo]
  | k + 1 => by
    have h1 := carTo_over l h k
    have h2 : atD (carTo l k).1 k < 4611686018427387904 := by rw [carTo_at l k k (Nat.le_refl _)]; exact atD_bound l _ (by omega) h k
    rw [carTo]; simp only; omega
theorem carTo_lt (l : List Nat) (h : ∀ x ∈ l, x < 4611686018427387904) : ∀ k, ∀ x ∈ (carTo l k).1, x < 4611686018427387904
  | 0 => h
  | k + 1 => by
    intro x hx
    rw [carTo] at hx
    rcases List.mem_or_eq_of_mem_set hx with h1 | h1
    · exact carTo_lt l h k x h1
    · rw [h1]; omega
theorem carL_length (l : List Nat) : (carL l).length = l.length := by rw [carL, List.length_set, carTo_length]
theorem carL_five (a b c d e : Nat) : ∃ o0 o1 o2 o3 o4 : Nat, o0 = a / 67108864 ∧ o1 = (b + o0) / 67108864 ∧ o2 = (c + o1) / 67108864 ∧ o3 = (d + o2) / 67108864 ∧ o4 = (e + o3) / 67108864 ∧
    carL [a, b, c, d, e] = [a % 67108864 + 5 * o4, (b + o0) % 67108864, (c + o1) % 67108864, (d + o2) % 67108864, (e + o3) % 67108864] := by
  refine ⟨_, _, _, _, _, rfl, rfl, rfl, rfl, rfl, ?_⟩
  simp [carL, carTo, atD]
theorem carL_small (l : List Nat) (h : l.length = 5) (hl : ∀ x ∈ l, x < 4611686018427387904) : ∀ x ∈ carL l, x < 4611686018427387904 := by
  obtain ⟨a, b, c, d, e, rfl⟩ := five l h
  obtain ⟨o0, o1, o2, o3, o4, h0, h1, h2, h3, h4, he⟩ := carL_five a b c d e
  rw [he]
  simp at hl ⊢
  omega
def carN (l : List Nat) : Nat → List Nat
  | 0 => l
  | t + 1 => carL (carN l t)
theorem carN_length (l : List Nat) : ∀ t, (carN l t).length = l.length
  | 0 => rfl
  | t + 1 => by rw [carN, carL_length, carN_length l t]
theorem carN_small (l : List Nat) (h : l.length = 5) (hl : ∀ x ∈ l, x < 4611686018427387904) : ∀ t, ∀ x ∈ carN l t, x < 4611686018427387904
  | 0 => hl
  | t + 1 => carL_small _ (by rw [carN_length, h]) (carN_small l h hl t)
theorem carL_val (l : List Nat) (h : l.length = 5) : ∃ q, valL (carL l) + P1305 * q = valL l := by
  obtain ⟨a, b, c, d, e, rfl⟩ := five l h
  obtain ⟨o0, o1, o2, o3, o4, h0, h1, h2, h3, h4, he⟩ := carL_five a b c d e
  refine ⟨o4, ?_⟩
  rw [he]
  simp only [valL, P1305]
  omega
theorem carL_lt (l : List Nat) (h : l.length = 5) (hl : ∀ x ∈ l, x < 4611686018427387904) : ∀ x ∈ carL (carL (carL l)), x < 67108864 := by
  obtain ⟨a, b, c, d, e, rfl⟩ := five l h
  obtain ⟨o0, o1, o2, o3, o4, h0, h1, h2, h3, h4, he⟩ := carL_five a b c d e
  rw [he]
  simp at hl
  obtain ⟨l0, l1, l2, l3, l4⟩ := hl
  have b4 : o4 < 137438953472 := by omega
  have m1 : (b + o0) % 67108864 < 67108864 := Nat.mod_lt _ (by decide)
  have m2 : (c + o1) % 67108864 < 67108864 := Nat.mod_lt _ (by decide)
  have m3 : (d + o2) % 67108864 < 67108864 := Nat.mod_lt _ (by decide)
  have m4 : (e + o3) % 67108864 < 67108864 := Nat.mod_lt _ (by decide)
  have m0 : a % 67108864 + 5 * o4 < 700000000000 := by omega
  generalize (b + o0) % 67108864 = b' at m1 ⊢
  generalize (c + o1) % 67108864 = c' at m2 ⊢
  generalize (d + o2) % 67108864 = d' at m3 ⊢
  generalize (e + o3) % 67108864 = e' at m4 ⊢
  generalize a % 67108864 + 5 * o4 = a' at m0 ⊢
  clear h0 h1 h2 h3 h4 he b4 l0 l1 l2 l3 l4
  obtain ⟨p0, p1, p2, p3, p4, h0, h1, h2, h3, h4, he⟩ := carL_five a' b' c' d' e'
  rw [he]
  have q0 : p0 ≤ 10431 := by omega
  have q1 : p1 ≤ 1 := by omega
  have q2 : p2 ≤ 1 := by omega
  have q3 : p3 ≤ 1 := by omega
  have q4 : p4 ≤ 1 := by omega
  by_cases hp4 : p4 = 0
  · subst hp4
    obtain ⟨r0, r1, r2, r3, r4, g0, g1, g2, g3, g4, ge⟩ := carL_five (a' % 67108864 + 5 * 0) ((b' + p0) % 67108864) ((c' + p1) % 67108864) ((d' + p2) % 67108864) ((e' + p3) % 67108864)
    rw [ge]
    simp
    omega
  · have hp1 : p4 = 1 := by omega
    subst hp1
    have hp3 : p3 = 1 := by omega
    have hp2 : p2 = 1 := by omega
    have hp1 : p1 = 1 := by omega
    obtain ⟨r0, r1, r2, r3, r4, g0, g1, g2, g3, g4, ge⟩ := carL_five (a' % 67108864 + 5 * 1) ((b' + p0) % 67108864) ((c' + p1) % 67108864) ((d' + p2) % 67108864) ((e' + p3) % 67108864)
    rw [ge]
    have s0 : r0 ≤ 1 := by omega
    have s1 : r1 = 0 := by omega
    have s2 : r2 = 0 := by omega
    have s3 : r3 = 0 := by omega
    have s4 : r4 = 0 := by omega
    simp
    omega

/-- The products of one digit with the first j digits of r, added. -/
def mulRow (o : List Nat) (x : Nat) (r : List Nat) (i : Nat) : Nat → List Nat
  | 0 => o
  | j + 1 => if i + j < 5 then (mulRow o x r i j).set (i + j) (atD (mulRow o x r i j) (i + j) + x * atD r j)
      else (mulRow o x r i j).set (i + j - 5) (atD (mulRow o x r i j) (i + j - 5) + 5 * x * atD r j)
def mulTo (n r : List Nat) : Nat → List Nat
  | 0 => [0, 0, 0, 0, 0]
  | i + 1 => mulRow (mulTo n r i) (atD n i) r i 5
theorem mulRow_length (o : List Nat) (x : Nat) (r : List Nat) (i : Nat) : ∀ j, (mulRow o x r i j).length = o.length
  | 0 => rfl
  | j + 1 => by
    rw [mulRow]
    split <;> rw [List.length_set, mulRow_length o x r i j]
theorem mulTo_length (n r : List Nat) : ∀ i, (mulTo n r i).length = 5
  | 0 => rfl
  | i + 1 => by rw [mulTo, mulRow_length, mulTo_length n r i]
theorem set_bound (l : List Nat) (i x B : Nat) (h : ∀ y ∈ l, y ≤ B) (hx : x ≤ B) : ∀ y ∈ l.set i x, y ≤ B := by
  intro y hy
  rcases List.mem_or_eq_of_mem_set hy with h1 | h1
  · exact h y h1
  · rw [h1]; exact hx
theorem atD_le (l : List Nat) (B : Nat) (h : ∀ x ∈ l, x ≤ B) (i : Nat) : atD l i ≤ B := by
  rcases Nat.lt_or_ge i l.length with hi | hi
  · exact h _ (atD_mem l i hi)
  · rw [atD_out l i hi]; omega
theorem mul_small (x y : Nat) (hx : x < 134217728) (hy : y < 67108864) : x * y ≤ 9007199254740992 := by
  have := Nat.mul_le_mul (Nat.le_of_lt hx) (Nat.le_of_lt hy)
  omega
theorem mulRow_le (o : List Nat) (x : Nat) (r : List Nat) (i B : Nat) (hx : x < 134217728) (hr : ∀ y ∈ r, y < 67108864) (ho : ∀ y ∈ o, y ≤ B) : ∀ j, ∀ y ∈ mulRow o x r i j, y ≤ B + j * 45035996273704960
  | 0 => by simpa [mulRow] using ho
  | j + 1 => by
    have ih := mulRow_le o x r i B hx hr ho j
    have ih' : ∀ y ∈ mulRow o x r i j, y ≤ B + (j + 1) * 45035996273704960 := fun y hy => Nat.le_trans (ih y hy) (Nat.add_le_add_left (Nat.mul_le_mul_right _ (Nat.le_succ j)) B)
    have hm := mul_small x (atD r j) hx (atD_bound r _ (by omega) hr j)
    have hm5 : 5 * x * atD r j = 5 * (x * atD r j) := Nat.mul_assoc _ _ _
    rw [mulRow]
    split
    · refine set_bound _ _ _ _ ih' ?_
      have := atD_le _ _ ih (i + j)
      rw [Nat.succ_mul]; omega
    · refine set_bound _ _ _ _ ih' ?_
      have := atD_le _ _ ih (i + j - 5)
      rw [hm5]
      rw [Nat.succ_mul]; omega
theorem mulTo_le (n r : List Nat) (hn : ∀ y ∈ n, y < 134217728) (hr : ∀ y ∈ r, y < 67108864) : ∀ i, ∀ y ∈ mulTo n r i, y ≤ i * 225179981368524800
  | 0 => by simp [mulTo]
  | i + 1 => by
    have ih := mulTo_le n r hn hr i
    have := mulRow_le (mulTo n r i) (atD n i) r i _ (atD_bound n _ (by omega) hn i) hr ih 5
    intro y hy
    rw [mulTo] at hy
    have := this y hy
    omega
theorem pow_wrap (i j : Nat) (h : 5 ≤ i + j) : 67108864 ^ i * 67108864 ^ j = 67108864 ^ (i + j - 5) * (P1305 + 5) := by
  rw [← Nat.pow_add, show i + j = (i + j - 5) + 5 by omega, Nat.pow_add]
  rfl
theorem mulRow_val (o : List Nat) (x : Nat) (r : List Nat) (i : Nat) (ho : o.length = 5) (hi : i < 5) (hr : r.length = 5) : ∀ j, j ≤ 5 → ∃ q, valL (mulRow o x r i j) + P1305 * q = valL o + 67108864 ^ i * x * valL (r.take j)
  | 0, _ => ⟨0, by simp [mulRow, valL]⟩
  | j + 1, hj => by
    obtain ⟨q, hq⟩ := mulRow_val o x r i ho hi hr j (by omega)
    have hlen : (mulRow o x r i j).length = 5 := by rw [mulRow_length, ho]
    rw [valL_take_succ r j (by omega), mulRow, Nat.mul_add, ← Nat.add_assoc, ← hq]
    split
    · rename_i hlt
      refine ⟨q, ?_⟩
      rw [valL_set _ _ _ (by omega), Nat.pow_add]
      have e : 67108864 ^ i * 67108864 ^ j * (x * atD r j) = 67108864 ^ i * x * (67108864 ^ j * atD r j) := by
        rw [Nat.mul_assoc, Nat.mul_assoc, Nat.mul_left_comm (67108864 ^ j) x (atD r j)]
      omega
    · rename_i hge
      refine ⟨q + 67108864 ^ (i + j - 5) * (x * atD r j), ?_⟩
      rw [valL_set _ _ _ (by omega)]
      have e : 67108864 ^ i * x * (67108864 ^ j * atD r j) = 67108864 ^ (i + j - 5) * (x * atD r j) * P1305 + 5 * (67108864 ^ (i + j - 5) * (x * atD r j)) := by
        have e1 : 67108864 ^ i * x * (67108864 ^ j * atD r j) = 67108864 ^ i * 67108864 ^ j * (x * atD r j) := by
          rw [Nat.mul_assoc, Nat.mul_assoc, Nat.mul_left_comm (67108864 ^ j) x (atD r j)]
        rw [e1, pow_wrap i j (by omega)]
        generalize 67108864 ^ (i + j - 5) = A
        generalize x * atD r j = B
        generalize P1305 = C
        rw [Nat.mul_assoc, Nat.mul_comm (C + 5) B, ← Nat.mul_assoc, Nat.mul_add, Nat.mul_comm (A * B) 5]
      have e2 : 67108864 ^ (i + j - 5) * (5 * x * atD r j) = 5 * (67108864 ^ (i + j - 5) * (x * atD r j)) := by
        rw [Nat.mul_assoc 5, Nat.mul_left_comm]
      rw [e, e2, Nat.mul_add, Nat.mul_comm P1305 (67108864 ^ (i + j - 5) * (x * atD r j))]
      omega
theorem mulTo_val (n r : List Nat) (hn : n.length = 5) (hr : r.length = 5) : ∀ i, i ≤ 5 → ∃ q, valL (mulTo n r i) + P1305 * q = valL (n.take i) * valL r
  | 0, _ => ⟨0, by simp [mulTo, valL]⟩
  | i + 1, hi => by
    obtain ⟨q, hq⟩ := mulTo_val n r hn hr i (by omega)
    obtain ⟨q2, hq2⟩ := mulRow_val (mulTo n r i) (atD n i) r i (mulTo_length n r i) (by omega) hr 5 (by omega)
    have e5 : r.take 5 = r := List.take_of_length_le (by omega)
    rw [e5] at hq2
    refine ⟨q + q2, ?_⟩
    rw [mulTo, valL_take_succ n i (by omega), Nat.add_mul, ← hq, Nat.mul_add]
    omega
/-- A product, reckoned back to digits. -/
def timL (n r : List Nat) : List Nat := carL (carL (carL (mulTo n r 5)))
theorem timL_length (n r : List Nat) : (timL n r).length = 5 := by simp only [timL, carL_length, mulTo_length]
theorem timL_lt (n r : List Nat) (hn : ∀ y ∈ n, y < 134217728) (hr : ∀ y ∈ r, y < 67108864) : ∀ x ∈ timL n r, x < 67108864 :=
  carL_lt _ (mulTo_length n r 5) (fun x hx => by have := mulTo_le n r hn hr 5 x hx; omega)
theorem timL_val (n r : List Nat) (hn : n.length = 5) (hr : r.length = 5) : valL (timL n r) % P1305 = valL n * valL r % P1305 := by
  obtain ⟨q, hq⟩ := mulTo_val n r hn hr 5 (by omega)
  obtain ⟨q1, h1⟩ := carL_val (mulTo n r 5) (mulTo_length n r 5)
  obtain ⟨q2, h2⟩ := carL_val (carL (mulTo n r 5)) (by rw [carL_length, mulTo_length])
  obtain ⟨q3, h3⟩ := carL_val (carL (carL (mulTo n r 5))) (by rw [carL_length, carL_length, mulTo_length])
  rw [List.take_of_length_le (by omega)] at hq
  have e : valL n * valL r = valL (timL n r) + P1305 * (q3 + q2 + q1 + q) := by
    rw [← hq, ← h1, ← h2, ← h3]
    simp only [timL, Nat.mul_add]
    omega
  rw [e, Nat.add_mul_mod_self_left]
/-- The five digits of a number. -/
def limbs (N : Nat) : List Nat := (List.range 5).map fun i => N / 67108864 ^ i % 67108864
theorem limbs_length (N : Nat) : (limbs N).length = 5 := by simp [limbs]
theorem limbs_lt (N : Nat) : ∀ x ∈ limbs N, x < 67108864 := by
  intro x hx
  simp only [limbs, List.mem_map] at hx
  obtain ⟨i, _, rfl⟩ := hx
  exact Nat.mod_lt _ (by decide)
theorem limbs_at (N i : Nat) (h : i < 5) : atD (limbs N) i = N / 67108864 ^ i % 67108864 := by
  rw [atD_get _ _ (by rw [limbs_length]; exact h)]; simp [limbs]
theorem limbs_val (N : Nat) (h : N < 2 ^ 130) : valL (limbs N) = N := by
  have e : limbs N = [N % 67108864, N / 67108864 % 67108864, N / 4503599627370496 % 67108864, N / 302231454903657293676544 % 67108864, N / 20282409603651670423947251286016 % 67108864] := by
    simp [limbs, List.range_succ]
  rw [e]
  simp only [valL]
  omega
end Go.Proofs.YtdancpcnjklifaaDoor

/- Plain facts on bytes as five digits to base 2^26, and on two words of 64 bits. No program is named here. -/
namespace Go.Proofs.YtdancpcnjklifaaDoor
set_option linter.unusedVariables false
set_option maxRecDepth 100000
open Go.RowKit

theorem leN_take (l : List UInt8) (n : Nat) : leN (l.take n) = leN l % 256 ^ n := by
  rcases Nat.lt_or_ge n l.length with h | h
  · have e := leN_append (l.take n) (l.drop n)
    rw [List.take_append_drop] at e
    have hl : (l.take n).length = n := by simp; omega
    have hb := leN_lt (l.take n)
    rw [hl] at e hb
    rw [e, Nat.add_mul_mod_self_left, Nat.mod_eq_of_lt hb]
  · rw [List.take_of_length_le h, Nat.mod_eq_of_lt (Nat.lt_of_lt_of_le (leN_lt l) (Nat.pow_le_pow_right (by decide) h))]
theorem leN_drop (l : List UInt8) (n : Nat) : leN (l.drop n) = leN l / 256 ^ n := by
  rcases Nat.lt_or_ge n l.length with h | h
  · have e := leN_append (l.take n) (l.drop n)
    rw [List.take_append_drop] at e
    have hl : (l.take n).length = n := by simp; omega
    have hb := leN_lt (l.take n)
    rw [hl] at e hb
    rw [e, Nat.add_mul_div_left _ _ (Nat.pow_pos (by decide)), Nat.div_eq_of_lt hb, Nat.zero_add]
  · rw [List.drop_eq_nil_of_le h, Nat.div_eq_of_lt (Nat.lt_of_lt_of_le (leN_lt l) (Nat.pow_le_pow_right (by decide) h))]
    rfl
theorem leN_cut (l : List UInt8) (a n : Nat) : leN (cutB l a n) = leN l / 256 ^ a % 256 ^ n := by
  rw [cutB, leN_take, leN_drop]
theorem getV_cut (l : List UInt8) (a n : Nat) : getV l false a n = leN l / 256 ^ a % 256 ^ n := by
  show leN (cutB l a n) = _
  exact leN_cut l a n
theorem limb_cut (l : List UInt8) (k : Nat) (h : k < 5) : getV l false (26 * k / 8) 4 / 2 ^ (26 * k % 8) % 67108864 = leN l / 67108864 ^ k % 67108864 := by
  rw [getV_cut]
  generalize leN l = N
  have hk : k = 0 ∨ k = 1 ∨ k = 2 ∨ k = 3 ∨ k = 4 := by omega
  rcases hk with rfl | rfl | rfl | rfl | rfl <;> simp <;> omega
/-- The first k digits of a number, and 0s behind them. -/
def tellTo (N : Nat) : Nat → List Nat
  | 0 => [0, 0, 0, 0, 0]
  | k + 1 => (tellTo N k).set k (N / 67108864 ^ k % 67108864)
theorem tellTo_length (N : Nat) : ∀ k, (tellTo N k).length = 5
  | 0 => rfl
  | k + 1 => by rw [tellTo, List.length_set, tellTo_length N k]
theorem tellTo_all (N : Nat) : tellTo N 5 = limbs N := by
  simp [tellTo, limbs, List.range_succ]
/-- A part with a 1 behind it, and 0s: as a number. -/
theorem leN_zeros (n : Nat) : leN (List.replicate n 0) = 0 := by
  induction n with
  | zero => rfl
  | succ n ih => rw [List.replicate_succ, leN, ih]; rfl
theorem leN_closed (l : List UInt8) (n : Nat) : leN (l ++ List.replicate n 0) = leN l := by rw [leN_append, leN_zeros]; simp
theorem partN_small (l : List UInt8) (k : Nat) : partN l k < 2 ^ 130 := by
  have hlen : (cutB l (16 * k) 16).length ≤ 16 := by simp [cutB]; omega
  have h := leN_lt (cutB l (16 * k) 16)
  have h2 : 256 ^ (cutB l (16 * k) 16).length ≤ 256 ^ 16 := Nat.pow_le_pow_right (by decide) hlen
  unfold partN
  rw [leN_append]
  have h3 : leN [1] = 1 := rfl
  rw [h3]
  have h4 : (256 : Nat) ^ 16 = 340282366920938463463374607431768211456 := by decide
  omega
theorem polyR_small (key : List UInt8) : polyR key < 2 ^ 130 := Nat.lt_trans (polyR_lt key) (by decide)

/-- The lowest 128 bits of a number of five digits, modulo 2^130 - 5. -/
def leastN (l : List Nat) : Nat := valL l % P1305
theorem least_five (a b c d e : Nat) (ha : a < 67108864) (hb : b < 67108864) (hc : c < 67108864) (hd : d < 67108864) (he : e < 67108864) :
    a + b * 67108864 + c % 4096 * 4503599627370496 = valL [a, b, c, d, e] % 18446744073709551616 ∧
    c / 4096 + d * 16384 + e % 16777216 * 1099511627776 = valL [a, b, c, d, e] / 18446744073709551616 % 18446744073709551616 ∧
    e / 16777216 = valL [a, b, c, d, e] / 340282366920938463463374607431768211456 := by
  simp only [valL]
  refine ⟨?_, ?_, ?_⟩ <;> omega
theorem tag_words (V S : Nat) (hV : V < 2 ^ 130) : ∃ W, W = V % P1305 ∧
    (V + 5 < 2 ^ 130 → W % 18446744073709551616 = V % 18446744073709551616 ∧ W / 18446744073709551616 % 18446744073709551616 = V / 18446744073709551616 % 18446744073709551616) ∧
    (2 ^ 130 ≤ V + 5 → W % 18446744073709551616 = (V + 5) % 18446744073709551616 ∧ W / 18446744073709551616 % 18446744073709551616 = (V + 5) / 18446744073709551616 % 18446744073709551616) := by
  refine ⟨_, rfl, ?_, ?_⟩
  · intro h
    have e : V % P1305 = V := Nat.mod_eq_of_lt (by unfold P1305; omega)
    rw [e]
    exact ⟨rfl, rfl⟩
  · intro h
    have e : V % P1305 = V + 5 - 2 ^ 130 := by
      have : V = P1305 + (V + 5 - 2 ^ 130) := by unfold P1305; omega
      rw [this, Nat.add_mod_left, Nat.mod_eq_of_lt (by unfold P1305; omega)]
      omega
    rw [e]
    omega
end Go.Proofs.YtdancpcnjklifaaDoor
