/- Numbers against each other, and what stands in a body (stage 12). -/
import Derived.Test.YtejbhjcopldekaaMathStuB
namespace Go.Proofs.Ytejbhjcopldekaa
set_option linter.unusedVariables false

theorem xor_lt32 (a b : Nat) (ha : a < 2 ^ 32) (hb : b < 2 ^ 32) : a ^^^ b < 4294967296 := Nat.xor_lt_two_pow (n := 32) ha hb
theorem xorI (a b : Nat) (ha : a < 4294967296) (hb : b < 4294967296) : bits .xor .i64 (a : Int) (b : Int) = ((a ^^^ b : Nat) : Int) := by
  have hx : a ^^^ b < 4294967296 := Nat.xor_lt_two_pow (n := 32) ha hb
  have e : (BitVec.ofInt 64 (a : Int) ^^^ BitVec.ofInt 64 (b : Int)).toNat = a ^^^ b := by
    rw [BitVec.toNat_xor, BitVec.toNat_ofInt, BitVec.toNat_ofInt]
    congr 1 <;> omega
  show IntKind.i64.wrap ((BitVec.ofInt 64 (a : Int) ^^^ BitVec.ofInt 64 (b : Int)).toNat : Int) = _
  rw [e, IntKind.wrap_i64]
  omega
theorem xorU (a b : Nat) (ha : a < 4294967296) (hb : b < 4294967296) : bits .xor .u32 (a : Int) (b : Int) = ((a ^^^ b : Nat) : Int) := by
  have hx : a ^^^ b < 4294967296 := Nat.xor_lt_two_pow (n := 32) ha hb
  have e : (BitVec.ofInt 32 (a : Int) ^^^ BitVec.ofInt 32 (b : Int)).toNat = a ^^^ b := by
    rw [BitVec.toNat_xor, BitVec.toNat_ofInt, BitVec.toNat_ofInt]
    congr 1 <;> omega
  show IntKind.u32.wrap ((BitVec.ofInt 32 (a : Int) ^^^ BitVec.ofInt 32 (b : Int)).toNat : Int) = _
  rw [e, IntKind.wrap_u32]
  omega
theorem sBody_snoc (A : List (Nat × List UInt8)) (p : Nat × List UInt8) : sBody (A ++ [p]) = sBody A ++ sAttr p := by simp [sBody]
theorem sBody_append (A B : List (Nat × List UInt8)) : sBody (A ++ B) = sBody A ++ sBody B := by simp [sBody]
theorem sBody_four : ∀ A : List (Nat × List UInt8), (sBody A).length % 4 = 0
  | [] => rfl
  | p :: A => by
    have e : sBody (p :: A) = sAttr p ++ sBody A := by simp [sBody]
    have h1 := sAttr_four p
    have h2 := sBody_four A
    rw [e, List.length_append]; omega
theorem unk_length : ∀ l : List Int, (sBody (l.map fun n => (n.toNat, ([] : List UInt8)))).length = 4 * l.length
  | [] => rfl
  | n :: l => by
    have e : sBody ((n :: l).map fun n => (n.toNat, ([] : List UInt8))) = sAttr (n.toNat, []) ++ sBody (l.map fun n => (n.toNat, ([] : List UInt8))) := by simp [sBody]
    have h1 := sAttr_length (n.toNat, [])
    have h2 := unk_length l
    rw [e, List.length_append, h1, h2, List.length_cons]
    simp; omega
theorem sUnk_take (l : List Int) (k : Nat) (hk : k < l.length) : sUnk (l.take (k + 1)) = sUnk (l.take k) ++ putB 2 (l[k]'hk).toNat true := by
  unfold sUnk
  rw [List.take_succ_eq_append_getElem hk, List.flatMap_append]
  simp only [List.flatMap_cons, List.flatMap_nil, List.append_nil]
end Go.Proofs.Ytejbhjcopldekaa
