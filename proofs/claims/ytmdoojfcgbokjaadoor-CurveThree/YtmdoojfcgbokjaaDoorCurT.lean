/- What the laws of curve share: keys that are written out, and what Mult, Public and Shared tell of each other. -/
import Derived.Test.YtmdoojfcgbokjaaDoorCurB
import Derived.Test.YtmdoojfcgbokjaaDoorSchedK
namespace Go.Proofs.YtmdoojfcgbokjaaDoor
set_option linter.unusedVariables false
open Go.RowKit

def oneL : List UInt8 := 1 :: List.replicate 31 0
def hunL : List UInt8 := 0 :: 1 :: List.replicate 30 0
def sixL : List UInt8 := 6 :: List.replicate 31 0
def zeroL : List UInt8 := List.replicate 32 0
theorem oneL_val : leN oneL = 1 := by decide
theorem hunL_val : leN hunL = 256 := by decide
theorem sixL_val : leN sixL = 6 := by decide
theorem zeroL_mod : modU zeroL = 0 := by decide +kernel
theorem oneL_mod : modU oneL = 1 := by decide +kernel
/-- What Public tells of a key. -/
def pubN (k : List UInt8) : Nat := mX (clampK (leN k)) 9
theorem pubN_lt (k : List UInt8) : pubN k < P255 := mX_lt _ _
theorem sh_eq (a b : List UInt8) : mK a (leB 32 (pubN b)) = mK b (leB 32 (pubN a)) := by
  rw [mK_told a _ (pubN_lt b), mK_told b _ (pubN_lt a)]
  exact mX_comm _ _ _ (clampK_even _) (clampK_even _)
theorem sh_ne (a b : List UInt8) : mK a (leB 32 (pubN b)) ≠ 0 := by
  rw [mK_told a _ (pubN_lt b)]
  exact mX_two_ne (clampK_even _) (clampK_ell _) (clampK_ell _)
theorem three_eq (a b c : List UInt8) : mK a (leB 32 (mK b (leB 32 (pubN c)))) = mK c (leB 32 (mK a (leB 32 (pubN b)))) := by
  rw [sh_eq b c]
  exact mK_comm a c _
theorem three_ne (a b c : List UInt8) : mK a (leB 32 (mK b (leB 32 (pubN c)))) ≠ 0 := by
  rw [mK_told a _ (mK_lt _ _), mK_told b _ (pubN_lt c)]
  exact mX_three_ne (clampK_even _) (clampK_even _) (clampK_ell _) (clampK_ell _) (clampK_ell _)
theorem mK_zero (k : List UInt8) : mK k zeroL = 0 := by rw [mK, zeroL_mod]; exact mX_zero _
theorem mK_from (k u : List UInt8) : mK k (leB 32 (modU u)) = mK k u := by rw [mK_told k _ (modU_lt u)]; rfl
theorem pub_six : pubN sixL = pubN oneL := by rw [pubN, pubN, sixL_val, oneL_val, clampK_six]
theorem pub_apart : pubN oneL ≠ pubN hunL := by rw [pubN, pubN, oneL_val, hunL_val]; exact mX_apart
theorem mult_nine : mK oneL nineL = pubN oneL := mK_nine oneL
theorem public_told (k : List UInt8) (w : World) (hk : k.length = 32) (htab : FTab w) :
    Calls Tryd.prog 15 #[.agg (k.map bv).toArray] w fun e w' => e = .returned (.agg ((leB 32 (pubN k)).map bv).toArray) ∧ Below w.heap.size w w' := public_any k w hk htab
/-- Bytes of two numbers, held against each other. -/
theorem keys_held (w : World) (n m : Nat) (b : Bool) (hn : n < P255) (hm : m < P255) (h : b = decide (n = m)) : (Op.equalIn 10000 23 (.agg ((leB 32 n).map bv).toArray) (.agg ((leB 32 m).map bv).toArray)).run Tryd.prog w = .ok b w := by
  have := arr_eq w 23 32 (leB 32 n) (leB 32 m) (leB_length _ _) (leB_length _ _) Tryd.underlying23
  have e : decide (leB 32 n = leB 32 m) = b := by
    rw [h]
    by_cases h0 : n = m
    · rw [h0, decide_eq_true rfl, decide_eq_true rfl]
    · rw [decide_eq_false h0, decide_eq_false]
      intro h1
      have h2 := congrArg leN h1
      rw [leN_leB, leN_leB, Nat.mod_eq_of_lt (Nat.lt_trans hn P255_lt), Nat.mod_eq_of_lt (Nat.lt_trans hm P255_lt)] at h2
      exact h0 h2
  rw [e] at this
  exact this
theorem exec_moved {P : Program} {ev : Operand → Value} {o : Oper} {w : World} {x : Operand} {v : Value} (ho : o.op = .move x ∨ o.op = .assign x) (hx : ev x = v) : (execOp ev o).run P w = .ok (.value v) w := by
  unfold execOp
  rcases ho with ho | ho <;> simp [ho, hx]
theorem exec_part {P : Program} {ev : Operand → Value} {o : Oper} {w : World} {x : Operand} {i : Nat} {vs : Array Value} {v : Value} (ho : o.op = .extract x i) (hx : ev x = .tuple vs) (hv : vs[i]? = some v) : (execOp ev o).run P w = .ok (.value v) w := by
  unfold execOp
  simp [ho, hx, Instr.extract, hv]
theorem pubN_len (k : List UInt8) : (leB 32 (pubN k)).length = 32 := leB_length _ _
end Go.Proofs.YtmdoojfcgbokjaaDoor
