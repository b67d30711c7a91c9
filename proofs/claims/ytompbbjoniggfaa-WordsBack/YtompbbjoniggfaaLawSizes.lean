/- WordsSizes: as many bytes are put as are asked for, from none to eight; as many are got as there are. For every size, number and order, without a condition. -/
import Derived.Test.YtompbbjoniggfaaFrame
namespace Go.Proofs.Ytompbbjoniggfaa
open Go.RowKit
theorem u64_of (a : Int) (h : (Lit.int .u64 a).wf = true) : ∃ n : Nat, a = (n : Int) ∧ n < 18446744073709551616 := by
  have hb : 0 ≤ a ∧ a ≤ 18446744073709551615 := by simpa [Lit.wf, IntKind.min, IntKind.max, IntKind.signed, IntKind.bits] using h
  exact ⟨a.toNat, by omega, by omega⟩
theorem i64_of (a : Int) (h : (Lit.int .i64 a).wf = true) : -9223372036854775808 ≤ a ∧ a ≤ 9223372036854775807 := by
  simpa [Lit.wf, IntKind.min, IntKind.max, IntKind.signed, IntKind.bits] using h
theorem valB_putB (sz n : Nat) (big : Bool) : valB (putB sz n big) big = n % 256 ^ sz := by
  cases big <;> simp [valB, putB, leN_leB]
theorem getV_putB (l : List UInt8) (sz n : Nat) (big : Bool) : getV (l ++ putB sz n big) big l.length sz = n % 256 ^ sz := by
  have e : cutB (l ++ putB sz n big) l.length sz = putB sz n big := by
    unfold cutB
    rw [List.drop_left]
    exact List.take_of_length_le (by rw [putB_length]; exact Nat.le_refl _)
  rw [getV, e, valB_putB]
theorem mask_val (n sz : Nat) (hn : n < 18446744073709551616) (h : sz < 8) : bits .and .u64 (n : Int) (IntKind.u64.wrap (IntKind.u64.wrap (2 ^ (8 * sz)) - 1)) = ((n % 256 ^ sz : Nat) : Int) := by
  have hp : (2 : Nat) ^ (8 * sz) ≤ 2 ^ 56 := Nat.pow_le_pow_right (by decide) (by omega)
  have hp0 : 0 < (2 : Nat) ^ (8 * sz) := Nat.two_pow_pos _
  have e0 : ((2 : Int) ^ (8 * sz)) = ((2 ^ (8 * sz) : Nat) : Int) := by simp
  have e1 : IntKind.u64.wrap (IntKind.u64.wrap (2 ^ (8 * sz)) - 1) = ((2 ^ (8 * sz) - 1 : Nat) : Int) := by
    rw [IntKind.wrap_u64, IntKind.wrap_u64, e0]; omega
  rw [e1, u64_and_nat _ _ hn (by omega), Nat.and_two_pow_sub_one_eq_mod, pow256]
end Go.Proofs.Ytompbbjoniggfaa
namespace Go.Proofs.Ytompbbjoniggfaa.wordsSizes
open Go.ChangeShapes Go.WideShapes Go.ChangeAt Go.RowKit
set_option linter.unusedVariables false

set_option maxHeartbeats 400000 in
theorem walk (a0 : Int) (a1 : Int) (a2 : Bool) (w : World) (w0 : (Lit.int .i64 a0).wf = true) (w1 : (Lit.int .u64 a1).wf = true) :
    Calls Try.prog 10 #[.int .i64 a0, .int .u64 a1, .bool a2] w fun e w' => e = .returned (.bool true) ∧ Below w.heap.size w w' := by
  obtain ⟨n, rfl, hn⟩ := u64_of a1 w1
  obtain ⟨hs0, hs1⟩ := i64_of a0 w0
  by_cases h1 : 1 ≤ a0 ∧ a0 ≤ 8
  · obtain ⟨sz, rfl⟩ : ∃ sz : Nat, a0 = (sz : Int) := ⟨a0.toNat, by omega⟩
    obtain ⟨h1, h8⟩ := h1
    go_enter Try.func10, Try.ntmps10
    go_wp2_with fail
    refine (shown_any _).mono ?_
    rintro e w3 ⟨rfl, hb3⟩
    go_wp2_with fail
    have hB := byt_lit (w3.alloc (.cells #[.int .u8 7] 5)) [7] w3.heap.size _ _ _ (heap_alloc_new w3 _) rfl
    have hb4 : Below w.heap.size w (w3.alloc (.cells #[.int .u8 7] 5)) := hb3.alloc hb3.size _
    refine (put_any (some ⟨w3.heap.size, 0, none⟩) 1 1 sz n a2 [7] _ (by omega) hB sz (by omega)).mono ?_
    rintro e w5 ⟨g5, rfl, hg5, hb5, hB5⟩
    have hb6 : Below w.heap.size w w5 := hb4.trans (hb5.mono hb4.size)
    have hc0 : w5.cell? ⟨g5, 0, none⟩ = some (.int .u8 7) := by
      rcases hB5.2 with h | ⟨b, off, e, hc⟩
      · omega
      · cases e
        exact hc 0 (by omega)
    clear hb4 hb5 hB hb3
    go_wp2_with fail
    refine (get_yes g5 0 (1 + sz) (1 + sz) 1 sz a2 ([7] ++ putB sz n a2) w5 (by unfold maxLen; omega) (Nat.le_refl _) hB5 (by omega) (by omega) (by omega)).mono ?_
    rintro e w7 ⟨rfl, rfl⟩
    rw [show getV ([7] ++ putB sz n a2) a2 1 sz = n % 256 ^ sz from getV_putB [7] sz n a2]
    clear hB5
    obtain ⟨M, hM⟩ : ∃ M, n % 256 ^ sz = M := ⟨_, rfl⟩
    rw [hM]
    by_cases h7 : sz < 8
    · have hk := mask_val n sz hn h7
      rw [hM] at hk
      clear hM
      go_wp2
      go_ret
      exact ⟨rfl, hb6⟩
    · have e8 : sz = 8 := by omega
      subst e8
      have hk : M = n := by rw [← hM]; omega
      subst hk
      clear hM
      go_wp2
      go_ret
      exact ⟨rfl, hb6⟩
  · by_cases h0 : a0 ≤ 0
    · go_enter Try.func10, Try.ntmps10
      go_wp2_with fail
      refine (shown_any _).mono ?_
      rintro e w3 ⟨rfl, hb3⟩
      go_wp2_with fail
      have hB := byt_lit (w3.alloc (.cells #[.int .u8 7] 5)) [7] w3.heap.size _ _ _ (heap_alloc_new w3 _) rfl
      have hb4 : Below w.heap.size w (w3.alloc (.cells #[.int .u8 7] 5)) := hb3.alloc hb3.size _
      refine (put_any (some ⟨w3.heap.size, 0, none⟩) 1 1 a0 n a2 [7] _ (by omega) hB 0 (by omega)).mono ?_
      rintro e w5 ⟨g5, rfl, hg5, hb5, hB5⟩
      have hb6 : Below w.heap.size w w5 := hb4.trans (hb5.mono hb4.size)
      have hc0 : w5.cell? ⟨g5, 0, none⟩ = some (.int .u8 7) := by
        rcases hB5.2 with h | ⟨b, off, e, hc⟩
        · omega
        · cases e
          exact hc 0 (by omega)
      clear hb4 hb5 hB hb3 hB5
      go_wp2_with fail
      refine (get_no _ _ _ 1 a0 a2 w5 (by unfold maxLen; omega) (by omega) (by omega)).mono ?_
      rintro e w7 ⟨rfl, rfl⟩
      have e1 : (if 8 < a0 then (8 : Int) else a0) = a0 := by split <;> omega
      have e2 : (if a0 < 0 then (0 : Int) else a0) = 0 := by split <;> omega
      go_wp2
      go_ret
      exact ⟨rfl, hb6⟩
    · go_enter Try.func10, Try.ntmps10
      go_wp2_with fail
      refine (shown_any _).mono ?_
      rintro e w3 ⟨rfl, hb3⟩
      go_wp2_with fail
      have hB := byt_lit (w3.alloc (.cells #[.int .u8 7] 5)) [7] w3.heap.size _ _ _ (heap_alloc_new w3 _) rfl
      have hb4 : Below w.heap.size w (w3.alloc (.cells #[.int .u8 7] 5)) := hb3.alloc hb3.size _
      refine (put_any (some ⟨w3.heap.size, 0, none⟩) 1 1 a0 n a2 [7] _ (by omega) hB 8 (by omega)).mono ?_
      rintro e w5 ⟨g5, rfl, hg5, hb5, hB5⟩
      have hb6 : Below w.heap.size w w5 := hb4.trans (hb5.mono hb4.size)
      have hc0 : w5.cell? ⟨g5, 0, none⟩ = some (.int .u8 7) := by
        rcases hB5.2 with h | ⟨b, off, e, hc⟩
        · omega
        · cases e
          exact hc 0 (by omega)
      clear hb4 hb5 hB hb3 hB5
      go_wp2_with fail
      refine (get_no _ _ _ 1 a0 a2 w5 (by unfold maxLen; omega) (by omega) (by omega)).mono ?_
      rintro e w7 ⟨rfl, rfl⟩
      have e1 : (if 8 < a0 then (8 : Int) else a0) = 8 := by split <;> omega
      go_wp2
      go_ret
      exact ⟨rfl, hb6⟩
end Go.Proofs.Ytompbbjoniggfaa.wordsSizes
