/- Plain facts on numbers as bytes. No program is named here. -/
import Derived.WalkKit
namespace Go.Proofs.Ytejbhjcopldekaa
set_option maxRecDepth 100000
open Go.RowKit

/-- The byte at a place (0 where there is none): a name of its own, that the walk leaves alone. -/
def at8 (l : List UInt8) (i : Nat) : UInt8 := l.getD i 0
theorem at8_lt (l : List UInt8) (i : Nat) : ((at8 l i).toNat : Int) < 256 := by have := (at8 l i).toNat_lt; omega
theorem at8_get (l : List UInt8) (i : Nat) (h : i < l.length) : at8 l i = l[i] := by simp [at8, h]

/-- The bytes that a slice leads to. -/
def Byt (w : World) (a : Option Addr) (len : Nat) (l : List UInt8) : Prop :=
  l.length = len ∧ (len = 0 ∨ ∃ b off, a = some ⟨b, off, none⟩ ∧ ∀ i, i < len → w.cell? ⟨b, off + i, none⟩ = some (.int .u8 ((at8 l i).toNat : Int)))

/-- The number that bytes tell, the lowest first. -/
def leN : List UInt8 → Nat
  | [] => 0
  | c :: r => c.toNat + 256 * leN r
/-- The lowest k bytes of a number, the lowest first. -/
def leB : Nat → Nat → List UInt8
  | 0, _ => []
  | k + 1, n => UInt8.ofNat (n % 256) :: leB k (n / 256)
def valB (bs : List UInt8) (big : Bool) : Nat := if big then leN bs.reverse else leN bs
def cutB (l : List UInt8) (at_ size : Nat) : List UInt8 := (l.drop at_).take size
def getV (l : List UInt8) (big : Bool) (at_ size : Nat) : Nat := valB (cutB l at_ size) big
theorem cutB_length (l : List UInt8) (at_ size : Nat) (h : at_ + size ≤ l.length) : (cutB l at_ size).length = size := by simp [cutB]; omega
theorem cutB_at (l : List UInt8) (at_ size i : Nat) (h : i < size) : at8 (cutB l at_ size) i = at8 l (at_ + i) := by
  simp [at8, cutB, h]
def putB (size n : Nat) (big : Bool) : List UInt8 := if big then (leB size n).reverse else leB size n
/-- How many bytes ahead of the lowest byte i stands. -/
def posI (big : Bool) (size i : Int) : Int := if big then size - 1 - i else i

theorem leB_length : ∀ k n, (leB k n).length = k
  | 0, _ => rfl
  | k + 1, n => by simp [leB, leB_length k]
theorem putB_length (size n : Nat) (big : Bool) : (putB size n big).length = size := by cases big <;> simp [putB, leB_length]
theorem leN_lt : ∀ l : List UInt8, leN l < 256 ^ l.length
  | [] => by simp [leN]
  | c :: r => by
    have h := leN_lt r
    have hc := c.toNat_lt
    simp only [leN, List.length_cons, Nat.pow_succ]
    omega
theorem leN_append : ∀ l m : List UInt8, leN (l ++ m) = leN l + 256 ^ l.length * leN m
  | [], m => by simp [leN]
  | c :: r, m => by
    simp only [List.cons_append, leN, List.length_cons, Nat.pow_succ, leN_append r m, Nat.mul_add]
    rw [Nat.mul_comm (256 ^ r.length) 256, Nat.mul_assoc]
    omega
theorem leN_leB : ∀ k n, leN (leB k n) = n % 256 ^ k
  | 0, n => by simp [leB, leN, Nat.mod_one]
  | k + 1, n => by
    have e : (256 : Nat) ^ (k + 1) = 256 * 256 ^ k := by rw [Nat.pow_succ, Nat.mul_comm]
    rw [leB, leN, leN_leB k, UInt8.toNat_ofNat', e, Nat.mod_mul]
    omega
theorem leB_get : ∀ k n i (h : i < k), (leB k n)[i]'(by rw [leB_length]; exact h) = UInt8.ofNat (n / 256 ^ i % 256)
  | k + 1, n, 0, _ => by simp [leB]
  | k + 1, n, i + 1, h => by
    simp only [leB, List.getElem_cons_succ]
    rw [leB_get k (n / 256) i (by omega), Nat.div_div_eq_div_mul, Nat.pow_succ, Nat.mul_comm]
theorem leB_snoc (k n : Nat) : leB (k + 1) n = leB k n ++ [UInt8.ofNat (n / 256 ^ k % 256)] := by
  apply List.ext_getElem
  · simp [leB_length]
  · intro i h1 h2
    rw [leB_length] at h1
    rw [leB_get (k + 1) n i h1]
    by_cases hi : i < k
    · rw [List.getElem_append_left (by rw [leB_length]; exact hi), leB_get k n i hi]
    · have e : i = k := by omega
      subst e
      rw [List.getElem_append_right (by rw [leB_length]; exact Nat.le_refl _)]
      simp [leB_length]

/-- One byte more, the lowest first. -/
theorem getV_le_step (bs : List UInt8) (k : Nat) (h : k < bs.length) : leN (bs.take (k + 1)) = leN (bs.take k) + bs[k].toNat * 256 ^ k := by
  rw [List.take_succ_eq_append_getElem h, leN_append]
  simp only [List.length_take, leN]
  rw [Nat.min_eq_left (by omega), Nat.mul_zero, Nat.add_zero, Nat.mul_comm]
/-- One byte more, the highest first. -/
theorem getV_be_step (bs : List UInt8) (k : Nat) (h : k < bs.length) : leN (bs.take (k + 1)).reverse = 256 * leN (bs.take k).reverse + bs[k].toNat := by
  rw [List.take_succ_eq_append_getElem h, List.reverse_append]
  simp only [List.reverse_cons, List.reverse_nil, List.nil_append, List.singleton_append, leN]
  omega

/-- What stands in the number when k of its bytes have been read. -/
def accV (bs : List UInt8) (big : Bool) (k : Nat) : Nat := if big then leN (bs.take k).reverse * 256 ^ (bs.length - k) else leN (bs.take k)
theorem pow256 (k : Nat) : (256 : Nat) ^ k = 2 ^ (8 * k) := by rw [show (256 : Nat) = 2 ^ 8 by decide, ← Nat.pow_mul]
theorem or_far (a b m : Nat) (hb : b < 2 ^ m) : (a * 2 ^ m) ||| b = a * 2 ^ m + b := by
  rw [Nat.mul_comm, Nat.two_pow_add_eq_or_of_lt hb]
theorem accV_step (bs : List UInt8) (big : Bool) (k : Nat) (h : k < bs.length) :
    accV bs big k ||| (bs[k].toNat * 2 ^ (8 * (if big then bs.length - 1 - k else k))) = accV bs big (k + 1) := by
  have hc := (bs[k]).toNat_lt
  cases big
  · simp only [accV, Bool.false_eq_true, if_false]
    rw [getV_le_step bs k h, Nat.or_comm, pow256]
    have hl := leN_lt (bs.take k)
    rw [List.length_take, Nat.min_eq_left (by omega), pow256] at hl
    rw [or_far _ _ _ hl, Nat.add_comm]
  · simp only [accV, if_true]
    rw [getV_be_step bs k h]
    have e : bs.length - k = (bs.length - 1 - k) + 1 := by omega
    have e2 : bs.length - (k + 1) = bs.length - 1 - k := by omega
    rw [e2, e, Nat.pow_succ, ← pow256]
    obtain ⟨m, hm⟩ : ∃ m, m = bs.length - 1 - k := ⟨_, rfl⟩
    rw [← hm, Nat.mul_comm (256 ^ m) 256, ← Nat.mul_assoc, pow256]
    have hlt : bs[k].toNat * 2 ^ (8 * m) < 2 ^ (8 * (m + 1)) := by
      rw [Nat.mul_add, Nat.pow_add, Nat.mul_comm]
      exact Nat.mul_lt_mul_of_pos_left (by simpa using hc) (Nat.two_pow_pos _)
    have e3 : leN (bs.take k).reverse * 256 * 2 ^ (8 * m) = leN (bs.take k).reverse * 2 ^ (8 * (m + 1)) := by
      rw [Nat.mul_add 8 m 1, Nat.pow_add, Nat.mul_assoc, Nat.mul_comm 256]
    rw [e3, or_far _ _ _ hlt, Nat.add_mul, Nat.mul_comm 256, e3]
theorem accV_zero (bs : List UInt8) (big : Bool) : accV bs big 0 = 0 := by cases big <;> simp [accV, leN]
theorem accV_all (bs : List UInt8) (big : Bool) : accV bs big bs.length = valB bs big := by cases big <;> simp [accV, valB]
theorem accV_lt (bs : List UInt8) (big : Bool) (k : Nat) (h : k ≤ bs.length) : accV bs big k < 256 ^ bs.length := by
  cases big
  · simp only [accV, Bool.false_eq_true, if_false]
    have hl := leN_lt (bs.take k)
    rw [List.length_take, Nat.min_eq_left (by omega)] at hl
    exact Nat.lt_of_lt_of_le hl (Nat.pow_le_pow_right (by decide) h)
  · simp only [accV, if_true]
    have hl := leN_lt (bs.take k).reverse
    rw [List.length_reverse, List.length_take, Nat.min_eq_left (by omega)] at hl
    have : 256 ^ bs.length = 256 ^ k * 256 ^ (bs.length - k) := by rw [← Nat.pow_add]; congr 1; omega
    rw [this]
    exact Nat.mul_lt_mul_of_pos_right hl (Nat.pow_pos (by decide))
theorem posI_bound (big : Bool) (size i : Int) (h0 : 0 ≤ i) (h1 : i < size) : 0 ≤ posI big size i ∧ posI big size i < size := by cases big <;> simp [posI] <;> omega
theorem or_val64 (a b : Nat) (ha : a < 18446744073709551616) (hb : b < 18446744073709551616) : bits .or .u64 (a : Int) (b : Int) = ((a ||| b : Nat) : Int) := u64_or_nat a b ha hb
/-- A byte, laid at its place into the number. -/
theorem get_step (bs : List UInt8) (big : Bool) (k : Nat) (h : k < bs.length) (h8 : bs.length ≤ 8) :
    bits .or .u64 (accV bs big k : Int) (((at8 bs k).toNat : Int) * 2 ^ (8 * posI big bs.length k).toNat % 18446744073709551616) = (accV bs big (k + 1) : Int) := by
  obtain ⟨p, hp⟩ : ∃ p : Nat, p = if big then bs.length - 1 - k else k := ⟨_, rfl⟩
  have hp8 : p ≤ 7 := by rw [hp]; cases big <;> simp <;> omega
  have e1 : (8 * posI big bs.length k).toNat = 8 * p := by rw [hp]; cases big <;> simp [posI] <;> omega
  have hc := (at8 bs k).toNat_lt
  have hlt : (at8 bs k).toNat * 2 ^ (8 * p) < 18446744073709551616 := by
    have h1 : (at8 bs k).toNat * 2 ^ (8 * p) < 256 * 2 ^ (8 * p) := Nat.mul_lt_mul_of_pos_right hc (Nat.two_pow_pos _)
    have h2 : 2 ^ (8 * p) ≤ 2 ^ 56 := Nat.pow_le_pow_right (by decide) (by omega)
    omega
  have ha : accV bs big k < 18446744073709551616 := by
    have h1 := accV_lt bs big k (by omega)
    have h2 : 256 ^ bs.length ≤ 256 ^ 8 := Nat.pow_le_pow_right (by decide) h8
    omega
  have e2 : (((at8 bs k).toNat : Int) * 2 ^ (8 * p) % 18446744073709551616) = (((at8 bs k).toNat * 2 ^ (8 * p) : Nat) : Int) := by
    have h1 : (((at8 bs k).toNat : Int) * 2 ^ (8 * p)) = (((at8 bs k).toNat * 2 ^ (8 * p) : Nat) : Int) := by simp
    rw [h1]; omega
  rw [e1, e2, or_val64 _ _ ha hlt, at8_get bs k h, hp, accV_step bs big k h]
/-- A byte as a value. -/
def bv (c : UInt8) : Value := .int .u8 (c.toNat : Int)
theorem putB_at (sz n : Nat) (big : Bool) (k : Nat) (h : k < sz) : ((at8 (putB sz n big) k).toNat : Int) = ((n : Int) / 2 ^ (8 * posI big sz k).toNat) % 256 := by
  obtain ⟨p, hp⟩ : ∃ p : Nat, p = if big then sz - 1 - k else k := ⟨_, rfl⟩
  have hps : p < sz := by rw [hp]; cases big <;> simp <;> omega
  have e1 : (8 * posI big sz k).toNat = 8 * p := by rw [hp]; cases big <;> simp [posI] <;> omega
  have e2 : at8 (putB sz n big) k = UInt8.ofNat (n / 256 ^ p % 256) := by
    rw [at8_get _ _ (by rw [putB_length]; exact h)]
    cases big
    · simp only [putB, Bool.false_eq_true, if_false] at hp ⊢
      rw [leB_get _ _ _ h, hp]
    · simp only [putB, if_true] at hp ⊢
      rw [List.getElem_reverse, leB_get _ _ _ (by rw [leB_length]; omega)]
      simp only [leB_length]
      rw [hp]
  rw [e1, e2, UInt8.toNat_ofNat', pow256]
  have e3 : ((n : Int) / 2 ^ (8 * p)) = ((n / 2 ^ (8 * p) : Nat) : Int) := by simp
  rw [e3]
  omega
theorem take_at (l : List UInt8) (k : Nat) (h : k < l.length) : l.take (k + 1) = l.take k ++ [at8 l k] := by
  rw [List.take_succ_eq_append_getElem h, at8_get l k h]
/-- What is owned, as bytes that a slice leads to. -/
theorem Byt.ofOwn {w : World} {base e g n cap : Nat} {l : List UInt8} (h : w.ownsRow base e 1 (.slice (some ⟨g, 0, none⟩) n cap) n (l.map bv)) : Byt w (some ⟨g, 0, none⟩) n l := by
  have hl : l.length = n := by have := h.1; simpa using this
  refine ⟨hl, .inr ⟨g, 0, rfl, fun i hi => ?_⟩⟩
  have hc := h.cellAt i (by omega)
  rw [Nat.zero_add, hc, List.getElem?_map, at8_get l i (by omega)]
  simp [bv, show i < l.length by omega]
theorem Byt.cells {w : World} {a : Option Addr} {len : Nat} {l : List UInt8} (h : Byt w a len l) : ∀ ad, a = some ad → ∀ j v, (l.map bv)[j]? = some v → w.cell? (ad.add j) = some v := by
  intro ad ha j v hj
  have hjl : j < l.length := by
    rcases Nat.lt_or_ge j l.length with h | h
    · exact h
    · simp [List.getElem?_eq_none (show (l.map bv).length ≤ j by simpa using h)] at hj
  have hl := h.1
  rcases h.2 with h0 | ⟨b, off, e, hc⟩
  · omega
  · rw [ha] at e
    cases e
    have hadd : (⟨b, off, none⟩ : Addr).add j = ⟨b, off + j, none⟩ := by unfold Addr.add; split <;> simp_all
    rw [hadd, hc j (by omega), at8_get l j hjl]
    simpa [hjl, bv] using hj
theorem Byt.later {w w' : World} {a : Option Addr} {len : Nat} {l : List UInt8} (h : Byt w a len l) (hb : Below w.heap.size w w') : Byt w' a len l := by
  refine ⟨h.1, ?_⟩
  rcases h.2 with h0 | ⟨b, off, e, hc⟩
  · exact .inl h0
  · refine .inr ⟨b, off, e, fun i hi => ?_⟩
    have := hc i hi
    rw [hb.cell (p := ⟨b, off + i, none⟩) (World.block_lt_of_cell? w _ this)]
    exact this
theorem bv_oneCell (l : List UInt8) : ∀ u ∈ l.map bv, u.oneCell' = true := by
  intro u hu
  simp only [List.mem_map] at hu
  obtain ⟨c, _, rfl⟩ := hu
  rfl
end Go.Proofs.Ytejbhjcopldekaa
