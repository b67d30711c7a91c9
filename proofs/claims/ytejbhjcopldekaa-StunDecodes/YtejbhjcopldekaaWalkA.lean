/- The walks over words.Rot, words.crcByte and words.Crc: what each call answers, whatever it is handed. -/
import Derived.Test.YtejbhjcopldekaaRows
import Derived.Test.YtejbhjcopldekaaMath1
import Derived.Test.YtejbhjcopldekaaMath2
import Derived.WalkKit
import Derived.WalkSpells
import Derived.WalkLawsBesides
namespace Go.Proofs.Ytejbhjcopldekaa
set_option maxRecDepth 100000
open Go.RowKit

theorem ret_int {k : IntKind} {a b : Int} (h : a = b) : Ending.returned (.int k a) = .returned (.int k b) := by rw [h]

set_option maxHeartbeats 400000 in
set_option maxRecDepth 100000 in
theorem crcByte_any (x : BitVec 32) (w : World) :
    Calls Try.prog 38 #[.int .u32 (x.toNat : Int)] w fun e w' => e = .returned (.int .u32 ((crcBits 8 x).toNat : Int)) ∧ w' = w := by
  go_enter Try.func38, Try.ntmps38
  go_wp2
  go_loop [0, 4] (fun c i => ∃ k : Nat, k ≤ 8 ∧ i = .int .i64 k ∧ c = .int .u32 ((crcBits k x).toNat : Int)) (fun _ i => 8 - (intOf i).toNat)
  case atStart => exact ⟨0, Nat.zero_le _, rfl, rfl⟩
  case round =>
    obtain ⟨k, hk, rfl, rfl⟩ := hrel
    by_cases hlt : k < 8
    · go_wp2
      · exact ⟨⟨k + 1, by omega, by go_num, by rw [crcBit_yes _ ‹_›]; rfl⟩, by simp [intOf]; omega⟩
      · exact ⟨⟨k + 1, by omega, by go_num, by rw [crcBit_no _ ‹_›]; rfl⟩, by simp [intOf]; omega⟩
    · go_wp2
      go_ret
      have e8 : k = 8 := by omega
      subst e8
      exact ⟨rfl, rfl⟩

theorem crc_step (x : BitVec 32) (c : UInt8) : bits .xor .u32 (x.toNat : Int) (c.toNat : Int) = ((x ^^^ wide c).toNat : Int) := by
  have hc := c.toNat_lt
  have e : (c.toNat : Int) = ((wide c).toNat : Int) := by
    unfold wide; rw [BitVec.toNat_ofNat]; omega
  rw [e, xor_val]
theorem not_val (y : BitVec 32) : bits .xor .u32 IntKind.u32.max (y.toNat : Int) = ((~~~ y).toNat : Int) := by
  have e : IntKind.u32.max = ((BitVec.allOnes 32).toNat : Int) := by decide
  rw [e, xor_val, BitVec.not_def, BitVec.xor_comm]
theorem crcAll_snoc (s : BitVec 32) (l : List UInt8) (k : Nat) (h : k < l.length) : crcAll s (l.take (k + 1)) = crcBits 8 (crcAll s (l.take k) ^^^ wide (at8 l k)) := by
  rw [List.take_succ_eq_append_getElem h, crcAll_append]
  simp [crcAll, crcNext, at8_get l k h]

set_option maxHeartbeats 400000 in
set_option maxRecDepth 100000 in
theorem crc_any (a : Option Addr) (len cap : Nat) (l : List UInt8) (w : World) (hB : Byt w a len l) (hm : len ≤ maxLen) :
    Calls Try.prog 19 #[.slice a len cap] w fun e w' => e = .returned (.int .u32 ((crcOf l).toNat : Int)) ∧ w' = w := by
  unfold maxLen at hm
  obtain ⟨hl, hB⟩ := hB
  go_enter Try.func19, Try.ntmps19
  go_wp2
  go_loop [3, 8] (fun c i => ∃ k : Nat, k ≤ len ∧ i = .int .i64 k ∧ c = .int .u32 ((crcAll 0xFFFFFFFF#32 (l.take k)).toNat : Int)) (fun _ i => len - (intOf i).toNat)
  case atStart => exact ⟨0, Nat.zero_le _, rfl, rfl⟩
  case round =>
    obtain ⟨k, hk, rfl, rfl⟩ := hrel
    by_cases hlt : k < len
    · rcases hB with h0 | ⟨b, off, rfl, hc⟩
      · omega
      · have hck := hc k hlt
        have hb := at8_lt l k
        have HS : Hid (crcAll 0xFFFFFFFF#32 (l.take (k + 1)) = crcBits 8 (crcAll 0xFFFFFFFF#32 (l.take k) ^^^ wide (at8 l k))) := crcAll_snoc _ l k (by omega)
        go_wp2_with fail
        rw [crc_step]
        refine (crcByte_any _ _).mono ?_
        rintro e w' ⟨rfl, rfl⟩
        go_wp2
        exact ⟨⟨k + 1, by omega, by go_num, by rw [HS.out]⟩, by simp [intOf]; omega⟩
    · have HE : Hid (bits .xor .u32 IntKind.u32.max ((crcAll 0xFFFFFFFF#32 (l.take k)).toNat : Int) = ((crcOf l).toNat : Int)) := by
        show _ = _
        rw [List.take_of_length_le (by omega), not_val]; rfl
      go_wp2
      go_ret
      exact ⟨ret_int HE.out, rfl⟩
end Go.Proofs.Ytejbhjcopldekaa
