/- WordsTurns: a word that is turned twice is turned by both; by 32 it is itself. For every word and every two numbers, without a condition. -/
import Derived.Test.YtompbbjoniggfaaFrame
namespace Go.Proofs.Ytompbbjoniggfaa.wordsTurns
open Go.ChangeShapes Go.WideShapes Go.ChangeAt Go.RowKit
set_option linter.unusedVariables false

theorem u32_of (a : Int) (h : (Lit.int .u32 a).wf = true) : ∃ X : BitVec 32, a = (X.toNat : Int) := by
  have hb : 0 ≤ a ∧ a ≤ 4294967295 := by simpa [Lit.wf, IntKind.min, IntKind.max, IntKind.signed, IntKind.bits] using h
  exact ⟨BitVec.ofNat 32 a.toNat, by rw [BitVec.toNat_ofNat]; omega⟩

theorem tmod_bound (a : Int) : -1000000 < a.tmod 1000000 ∧ a.tmod 1000000 < 1000000 := by
  rcases Int.le_total 0 a with h | h
  · rw [Int.tmod_eq_emod_of_nonneg h]; omega
  · have e : a.tmod 1000000 = -((-a).tmod 1000000) := by rw [Int.neg_tmod]; omega
    rw [e, Int.tmod_eq_emod_of_nonneg (by omega)]; omega

set_option maxHeartbeats 400000 in
theorem walk (a0 : Int) (a1 : Int) (a2 : Int) (w : World) (w0 : (Lit.int .u32 a0).wf = true) (w1 : (Lit.int .i64 a1).wf = true) (w2 : (Lit.int .i64 a2).wf = true) :
    Calls Try.prog 8 #[.int .u32 a0, .int .i64 a1, .int .i64 a2] w fun e w' => e = .returned (.bool true) ∧ Below w.heap.size w w' := by
  obtain ⟨X, rfl⟩ := u32_of a0 w0
  go_enter Try.func8, Try.ntmps8
  go_wp2_with fail
  refine (shown_any _).mono ?_
  rintro e w3 ⟨rfl, hb⟩
  have ha := tmod_bound a1
  have hc := tmod_bound a2
  obtain ⟨A, hA⟩ : ∃ A, a1.tmod 1000000 = A := ⟨_, rfl⟩
  obtain ⟨C, hC⟩ : ∃ A, a2.tmod 1000000 = A := ⟨_, rfl⟩
  rw [hA] at ha
  rw [hC] at hc
  obtain ⟨ha1, ha2⟩ := ha
  obtain ⟨hc1, hc2⟩ := hc
  go_wp2_with fail
  refine (rot_any _ _ _).mono ?_
  rintro e w' ⟨rfl, rfl⟩
  go_wp2_with fail
  refine (rot_any _ _ _).mono ?_
  rintro e w' ⟨rfl, rfl⟩
  go_wp2_with fail
  refine (rot_any _ _ _).mono ?_
  rintro e w' ⟨rfl, rfl⟩
  rw [rotl_rotl]
  go_wp2_with fail
  refine (rot_any _ _ _).mono ?_
  rintro e w' ⟨rfl, rfl⟩
  rw [rotl_32]
  go_wp2_with fail
  refine (rot_any _ _ _).mono ?_
  rintro e w' ⟨rfl, rfl⟩
  go_wp2_with fail
  refine (rot_any _ _ _).mono ?_
  rintro e w' ⟨rfl, rfl⟩
  rw [rotl_back]
  go_wp2
  go_ret
  exact ⟨rfl, hb⟩
end Go.Proofs.Ytompbbjoniggfaa.wordsTurns
