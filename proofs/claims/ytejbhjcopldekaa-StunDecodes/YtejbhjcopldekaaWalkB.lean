/- The walks over words.shift and words.Get: what each call answers. -/
import Derived.Test.YtejbhjcopldekaaWalkA
namespace Go.Proofs.Ytejbhjcopldekaa
set_option maxRecDepth 100000
open Go.RowKit

theorem ret_two {k : IntKind} {a b : Int} {v : Value} (h : a = b) : Ending.returned (.tuple #[.int k a, v]) = .returned (.tuple #[.int k b, v]) := by rw [h]
set_option maxHeartbeats 400000 in
set_option maxRecDepth 100000 in
theorem shift_any (i size : Int) (big : Bool) (w : World) (h0 : 0 ≤ i) (h1 : i < size) (h2 : size ≤ 8) :
    Calls Try.prog 58 #[.int .i64 i, .int .i64 size, .bool big] w fun e w' => e = .returned (.int .i64 (8 * posI big size i)) ∧ w' = w := by
  cases big
  all_goals
    go_enter Try.func58, Try.ntmps58
    go_wp2
    go_ret
    exact ⟨rfl, rfl⟩

set_option maxHeartbeats 400000 in
set_option maxRecDepth 100000 in
theorem get_no (a : Option Addr) (len cap : Nat) (at_ size : Int) (big : Bool) (w : World) (hm : len ≤ maxLen) (ha : -9223372036854775808 ≤ at_ ∧ at_ ≤ 9223372036854775807)
    (h : ¬ (1 ≤ size ∧ size ≤ 8 ∧ 0 ≤ at_ ∧ at_ + size ≤ len)) :
    Calls Try.prog 57 #[.slice a len cap, .int .i64 at_, .int .i64 size, .bool big] w fun e w' => e = .returned (.tuple #[.int .u64 0, .bool false]) ∧ w' = w := by
  unfold maxLen at hm
  by_cases h1 : size < 1
  · go_enter Try.func57, Try.ntmps57
    go_wp2
    go_ret2
    exact ⟨rfl, rfl⟩
  by_cases h2 : 8 < size
  · go_enter Try.func57, Try.ntmps57
    go_wp2
    go_ret2
    exact ⟨rfl, rfl⟩
  by_cases h3 : at_ < 0
  · go_enter Try.func57, Try.ntmps57
    go_wp2
    go_ret2
    exact ⟨rfl, rfl⟩
  · have h4 : (len : Int) - size < at_ := by omega
    go_enter Try.func57, Try.ntmps57
    go_wp2
    go_ret2
    exact ⟨rfl, rfl⟩

set_option maxHeartbeats 400000 in
set_option maxRecDepth 100000 in
theorem get_yes (b off len cap : Nat) (at_ size : Nat) (big : Bool) (l : List UInt8) (w : World) (hm : cap ≤ maxLen) (hlc : len ≤ cap)
    (hB : Byt w (some ⟨b, off, none⟩) len l) (h1 : 1 ≤ size) (h8 : size ≤ 8) (h : at_ + size ≤ len) :
    Calls Try.prog 57 #[.slice (some ⟨b, off, none⟩) len cap, .int .i64 at_, .int .i64 size, .bool big] w fun e w' => e = .returned (.tuple #[.int .u64 (getV l big at_ size : Int), .bool true]) ∧ w' = w := by
  unfold maxLen at hm
  obtain ⟨hl, hB⟩ := hB
  have g1 : ¬ (size : Int) < 1 := by omega
  have g2 : ¬ (8 : Int) < size := by omega
  have g3 : ¬ (at_ : Int) < 0 := by omega
  have g4 : ¬ (len : Int) - size < at_ := by omega
  go_enter Try.func57, Try.ntmps57
  go_wp2
  go_loop [10, 38] (fun n i => ∃ k : Nat, k ≤ size ∧ i = .int .i64 k ∧ n = .int .u64 (accV (cutB l at_ size) big k : Int)) (fun _ i => size - (intOf i).toNat)
  case atStart => exact ⟨0, Nat.zero_le _, rfl, by rw [accV_zero]; rfl⟩
  case round =>
    obtain ⟨k, hk, rfl, rfl⟩ := hrel
    by_cases hlt : k < size
    · rcases hB with h0 | ⟨b', off', e, hc⟩
      · omega
      · cases e
        have hck := hc (at_ + k) (by omega)
        rw [← Nat.add_assoc] at hck
        have hb := at8_lt l (at_ + k)
        have hp := posI_bound big size k (by omega) (by omega)
        obtain ⟨hp0, hp1⟩ := hp
        have HS : Hid (bits .or .u64 (accV (cutB l at_ size) big k : Int) (IntKind.u64.wrap (((at8 l (at_ + k)).toNat : Int) * 2 ^ (8 * posI big size k).toNat)) = (accV (cutB l at_ size) big (k + 1) : Int)) := by
          have e1 := cutB_length l at_ size (by omega)
          have e := get_step (cutB l at_ size) big k (by omega) (by omega)
          rw [e1, cutB_at l at_ size k hlt] at e
          show _ = _
          rw [IntKind.wrap_u64]; exact e
        go_wp2_with fail
        refine (shift_any _ _ _ _ (by omega) (by omega) (by omega)).mono ?_
        rintro e w' ⟨rfl, rfl⟩
        go_wp2
        exact ⟨⟨k + 1, by omega, by go_num, by rw [HS.out]⟩, by simp [intOf]; omega⟩
    · have HE : Hid (accV (cutB l at_ size) big k = getV l big at_ size) := by
        have e1 := cutB_length l at_ size (by omega)
        have e2 : k = (cutB l at_ size).length := by omega
        show _ = _
        rw [e2, accV_all]; rfl
      go_wp2
      go_ret2
      exact ⟨ret_two (by rw [HE.out]), rfl⟩
end Go.Proofs.Ytejbhjcopldekaa
