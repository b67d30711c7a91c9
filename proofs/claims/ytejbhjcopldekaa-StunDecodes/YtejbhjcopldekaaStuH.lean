/- What the program's caught does: its deferred call, behind an error and behind none (stage 12). -/
import Derived.Test.YtejbhjcopldekaaStuG
namespace Go.Proofs.Ytejbhjcopldekaa
set_option linter.unusedVariables false
set_option maxRecDepth 100000
open Go.RowKit

theorem sassert (er : Nat) (w : World) : (Instr.typeAssert (.iface 33 (.int .i64 (er : Int))) 20 33 true).run Try.prog w = .ok (.tuple #[.int .i64 (er : Int), .bool true]) w := by
  have h : Try.prog.underlying 33 = some (.int .i64) := Try.underlying33
  simp [Instr.typeAssert, run_underlying Try.underlying33]

set_option maxHeartbeats 1000000 in
theorem bcatch_no (p er : Nat) (older : List PanicEntry) (w : World) (h1 : w.cell? ⟨p, 0, none⟩ = some (.int .i64 0)) (f1 : w.frozen? ⟨p, 0, none⟩ = false) :
    CallsD Try.prog 39 #[.pointer (some ⟨p, 0, none⟩)] (.panicking ({ v := .iface 33 (.int .i64 (er : Int)), recovered := false } :: older)) w fun e u' w' =>
      e = .returned (.tuple #[]) ∧ u' = .panicking ({ v := .iface 33 (.int .i64 (er : Int)), recovered := true } :: older) ∧ w' = w.setCell ⟨p, 0, none⟩ (.int .i64 (er : Int)) := by
  have hta := sassert er
  refine callsD_of_wpS Try.func39 rfl fun c₀ cs hu => ?_
  apply wpS_seq
  apply wpS_region
  simp [wpOpsS, go_sem, recoverD, hu, Try.ntmps39, Exit.thenS]
  refine wpS_of_wp ?_
  have ht : (#[Value.pointer (some ⟨p, 0, none⟩)] ++ (Array.replicate 9 undef).setIfInBounds 3 (Value.iface 33 (Value.int IntKind.i64 (er : Int)))) = #[Value.pointer (some ⟨p, 0, none⟩), undef, undef, undef, Value.iface 33 (Value.int IntKind.i64 (er : Int)), undef, undef, undef, undef, undef] := rfl
  rw [ht]
  go_wp2
  simp [bodyPostS, results, Try.results39]
theorem bcatch_ok (p : Nat) (w : World) : CallsD Try.prog 39 #[.pointer (some ⟨p, 0, none⟩)] .returning w fun e u' w' => e = .returned (.tuple #[]) ∧ u' = .returning ∧ w' = w := by
  refine callsD_of_wpS Try.func39 rfl fun c₀ cs hu => ?_
  apply wpS_seq
  apply wpS_region
  simp [wpOpsS, go_sem, recoverD, hu, Try.ntmps39, Exit.thenS]
  refine wpS_of_wp ?_
  have ht : (#[Value.pointer (some ⟨p, 0, none⟩)] ++ (Array.replicate 9 undef).setIfInBounds 3 Value.nilIface) = #[Value.pointer (some ⟨p, 0, none⟩), undef, undef, undef, Value.nilIface, undef, undef, undef, undef, undef] := rfl
  rw [ht]
  go_wp2
  simp [bodyPostS, results, Try.results39]
  cases c₀
  simp_all

set_option maxHeartbeats 1000000 in
theorem mcatch_no (p er : Nat) (older : List PanicEntry) (w : World) (h1 : w.cell? ⟨p, 0, none⟩ = some (.int .i64 0)) (f1 : w.frozen? ⟨p, 0, none⟩ = false) :
    CallsD Try.prog 46 #[.pointer (some ⟨p, 0, none⟩)] (.panicking ({ v := .iface 33 (.int .i64 (er : Int)), recovered := false } :: older)) w fun e u' w' =>
      e = .returned (.tuple #[]) ∧ u' = .panicking ({ v := .iface 33 (.int .i64 (er : Int)), recovered := true } :: older) ∧ w' = w.setCell ⟨p, 0, none⟩ (.int .i64 (er : Int)) := by
  have hta := sassert er
  refine callsD_of_wpS Try.func46 rfl fun c₀ cs hu => ?_
  apply wpS_seq
  apply wpS_region
  simp [wpOpsS, go_sem, recoverD, hu, Try.ntmps46, Exit.thenS]
  refine wpS_of_wp ?_
  have ht : (#[Value.pointer (some ⟨p, 0, none⟩)] ++ (Array.replicate 9 undef).setIfInBounds 3 (Value.iface 33 (Value.int IntKind.i64 (er : Int)))) = #[Value.pointer (some ⟨p, 0, none⟩), undef, undef, undef, Value.iface 33 (Value.int IntKind.i64 (er : Int)), undef, undef, undef, undef, undef] := rfl
  rw [ht]
  go_wp2
  simp [bodyPostS, results, Try.results46]
theorem mcatch_ok (p : Nat) (w : World) : CallsD Try.prog 46 #[.pointer (some ⟨p, 0, none⟩)] .returning w fun e u' w' => e = .returned (.tuple #[]) ∧ u' = .returning ∧ w' = w := by
  refine callsD_of_wpS Try.func46 rfl fun c₀ cs hu => ?_
  apply wpS_seq
  apply wpS_region
  simp [wpOpsS, go_sem, recoverD, hu, Try.ntmps46, Exit.thenS]
  refine wpS_of_wp ?_
  have ht : (#[Value.pointer (some ⟨p, 0, none⟩)] ++ (Array.replicate 9 undef).setIfInBounds 3 Value.nilIface) = #[Value.pointer (some ⟨p, 0, none⟩), undef, undef, undef, Value.nilIface, undef, undef, undef, undef, undef] := rfl
  rw [ht]
  go_wp2
  simp [bodyPostS, results, Try.results46]
  cases c₀
  simp_all
end Go.Proofs.Ytejbhjcopldekaa
