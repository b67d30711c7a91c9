/- The walks over the document's own answers (Rot, Crc, Xor, Put, Get), and how a row of bytes that came in is cut. -/
import Derived.Test.YtejbhjcopldekaaFrame
namespace Go.Proofs.Ytejbhjcopldekaa
set_option maxRecDepth 100000
open Go.RowKit
theorem bit_val (c : UInt8) (j : Nat) : bits .and .u32 ((c.toNat : Int) / 2 ^ j % 4294967296) 1 = if (wide c).getLsbD j then 1 else 0 := by
  have hc := c.toNat_lt
  have e0 : ((c.toNat : Int) / 2 ^ j % 4294967296) = ((BitVec.ofNat 32 (c.toNat / 2 ^ j)).toNat : Int) := by
    rw [BitVec.toNat_ofNat]; simp
  have hlt : c.toNat / 2 ^ j < 256 := Nat.lt_of_le_of_lt (Nat.div_le_self _ _) hc
  have e1 : (wide c).getLsbD j = decide (c.toNat / 2 ^ j % 2 = 1) := by
    unfold wide
    rw [BitVec.getLsbD, BitVec.toNat_ofNat, Nat.mod_eq_of_lt (by omega), Nat.testBit_eq_decide_div_mod_eq]
  rw [e0, and1, BitVec.toNat_ofNat, Nat.mod_eq_of_lt (show c.toNat / 2 ^ j < 2 ^ 32 by omega), e1]
  by_cases h : c.toNat / 2 ^ j % 2 = 1
  · simp [h]
  · have : c.toNat / 2 ^ j % 2 = 0 := by omega
    simp [this]
theorem low_val (y : BitVec 32) : bits .and .u32 (y.toNat : Int) 1 = if y.getLsbD 0 then 1 else 0 := by
  rw [and1, lsb_mod]
  by_cases h : y.toNat % 2 = 1
  · simp [h]
  · have : y.toNat % 2 = 0 := by omega
    simp [this]
theorem refBit_yes (y : BitVec 32) (c : UInt8) (j : Nat) (h : (bits .and .u32 (y.toNat : Int) 1 != bits .and .u32 ((c.toNat : Int) / 2 ^ j % 4294967296) 1) = true) :
    bits .xor .u32 ((y.toNat : Int) / (2 : Int)) 3988292384 = ((refBit c j y).toNat : Int) := by
  rw [low_val, bit_val] at h
  have hne : ¬ y.getLsbD 0 = (wide c).getLsbD j := by intro e; rw [e] at h; simp at h
  have e : (3988292384 : Int) = (crcPoly.toNat : Int) := by decide
  rw [half_val, e, xor_val, refBit, if_neg hne]
theorem refBit_no (y : BitVec 32) (c : UInt8) (j : Nat) (h : (bits .and .u32 (y.toNat : Int) 1 != bits .and .u32 ((c.toNat : Int) / 2 ^ j % 4294967296) 1) = false) :
    (y.toNat : Int) / (2 : Int) = ((refBit c j y).toNat : Int) := by
  rw [low_val, bit_val] at h
  have heq : y.getLsbD 0 = (wide c).getLsbD j := by
    generalize y.getLsbD 0 = b1 at h ⊢
    generalize (wide c).getLsbD j = b2 at h ⊢
    revert h
    cases b1 <;> cases b2 <;> simp
  rw [half_val, refBit, if_pos heq]
theorem refNot_val (y : BitVec 32) : (4294967295 : Int) - (y.toNat : Int) = ((~~~ y).toNat : Int) := by
  rw [BitVec.toNat_not]; have := y.isLt; omega
theorem refAll_snoc (s : BitVec 32) (l : List UInt8) (k : Nat) (h : k < l.length) : crcAll s (l.take (k + 1)) = refBits (at8 l k) 8 (crcAll s (l.take k)) := by
  rw [crcAll_snoc s l k h, ← refBits_next]; rfl

set_option maxHeartbeats 400000 in
set_option maxRecDepth 100000 in
theorem refCrc_any (a : Option Addr) (len cap : Nat) (l : List UInt8) (w : World) (hB : Byt w a len l) (hm : len ≤ maxLen) :
    Calls Try.prog 31 #[.slice a len cap] w fun e w' => e = .returned (.int .u32 ((crcOf l).toNat : Int)) ∧ w' = w := by
  unfold maxLen at hm
  obtain ⟨hl, hB⟩ := hB
  go_enter Try.func31, Try.ntmps31
  go_wp2
  go_loop [3, 4] (fun c i => ∃ k : Nat, k ≤ len ∧ i = .int .i64 k ∧ c = .int .u32 ((crcAll 0xFFFFFFFF#32 (l.take k)).toNat : Int)) (fun _ i => len - (intOf i).toNat)
  case atStart => exact ⟨0, Nat.zero_le _, rfl, rfl⟩
  case round =>
    obtain ⟨k, hk, rfl, rfl⟩ := hrel
    by_cases hlt : k < len
    · rcases hB with h0 | ⟨b, off, rfl, hc⟩
      · omega
      · have hck := hc k hlt
        have hb := at8_lt l k
        have HS : Hid (crcAll 0xFFFFFFFF#32 (l.take (k + 1)) = refBits (at8 l k) 8 (crcAll 0xFFFFFFFF#32 (l.take k))) := refAll_snoc _ l k (by omega)
        obtain ⟨s, hs⟩ : ∃ s, crcAll 0xFFFFFFFF#32 (l.take k) = s := ⟨_, rfl⟩
        rw [hs] at HS
        rw [hs]
        clear hs
        go_wp2
        go_loop [3, 5] (fun c i => ∃ j : Nat, j ≤ 8 ∧ i = .int .i64 j ∧ c = .int .u32 ((refBits (at8 l k) j s).toNat : Int)) (fun _ i => 8 - (intOf i).toNat)
        case atStart => exact ⟨0, Nat.zero_le _, rfl, rfl⟩
        case round =>
          obtain ⟨j, hj, rfl, rfl⟩ := hrel
          by_cases hjlt : j < 8
          · go_wp2
            · exact ⟨⟨j + 1, by omega, by go_num, by rw [refBit_yes _ _ _ ‹_›]; rfl⟩, by simp [intOf]; omega⟩
            · exact ⟨⟨j + 1, by omega, by go_num, by rw [refBit_no _ _ _ ‹_›]; rfl⟩, by simp [intOf]; omega⟩
          · have e8 : j = 8 := by omega
            subst e8
            rw [← HS.out]
            go_wp2
            exact ⟨⟨k + 1, by omega, by go_num, rfl⟩, by simp [intOf]; omega⟩
    · have HE : Hid ((4294967295 : Int) - ((crcAll 0xFFFFFFFF#32 (l.take k)).toNat : Int) = ((crcOf l).toNat : Int)) := by
        show _ = _
        rw [List.take_of_length_le (by omega), refNot_val]; rfl
      have hlt2 := (crcAll 0xFFFFFFFF#32 (l.take k)).isLt
      go_wp2
      go_ret
      exact ⟨ret_int HE.out, rfl⟩

/-- x turned by one bit, as the document reckons it. -/
theorem rot1_val (x : BitVec 32) : ((x.toNat : Int) * 2 % 4294967296 + (x.toNat : Int) / 2147483648) % 4294967296 = ((rotl x 1).toNat : Int) := by
  have hx := x.isLt
  have h := rotl_val x 1
  have e1 : ((1 : Int) % 32).toNat = 1 := by decide
  have e2 : ((32 : Int) - 1 % 32).toNat = 31 := by decide
  rw [e1, e2] at h
  rw [← h]
  have a1 : ((x.toNat : Int) * 2 ^ 1 % 4294967296) = ((x.toNat * 2 % 4294967296 : Nat) : Int) := by omega
  have a2 : ((x.toNat : Int) / 2 ^ 31) = ((x.toNat / 2147483648 : Nat) : Int) := by omega
  rw [a1, a2, u32_or_nat _ _ (by omega) (by omega)]
  have hor : (x.toNat * 2 % 4294967296) ||| (x.toNat / 2147483648) = x.toNat * 2 % 4294967296 + x.toNat / 2147483648 := by
    have hb : x.toNat / 2147483648 < 2 ^ 1 := by omega
    have := or_far (x.toNat % 2147483648) (x.toNat / 2147483648) 1 hb
    have e : x.toNat % 2147483648 * 2 ^ 1 = x.toNat * 2 % 4294967296 := by omega
    rwa [e] at this
  rw [hor]
  omega

theorem rot1_val' (x : BitVec 32) : (x.toNat : Int) * 2 % 4294967296 + (x.toNat : Int) / 2147483648 = ((rotl x 1).toNat : Int) := by
  have hx := x.isLt
  rw [← rot1_val]; omega
theorem rot_step (x : BitVec 32) (k : Nat) : ((rotl x k).toNat : Int) * 2 % 4294967296 + ((rotl x k).toNat : Int) / 2147483648 = ((rotl x ((k + 1 : Nat) : Int)).toNat : Int) := by
  rw [rot1_val', rotl_rotl]; rfl
theorem rotl_mod (x : BitVec 32) (n m : Int) (h : n % 32 = m % 32) : rotl x n = rotl x m := by unfold rotl; rw [h]

end Go.Proofs.Ytejbhjcopldekaa
