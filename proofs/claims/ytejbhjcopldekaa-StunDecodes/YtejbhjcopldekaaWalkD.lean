/- The walks over words.Same and words.Xor. -/
import Derived.Test.YtejbhjcopldekaaWalkC
import Derived.Laws.BytesArg
namespace Go.Proofs.Ytejbhjcopldekaa
set_option maxRecDepth 100000
open Go.RowKit

/-- Bytes as a text. -/
def S (l : List UInt8) : ByteArray := ⟨l.toArray⟩
theorem S_inj {l m : List UInt8} : S l = S m ↔ l = m := by
  unfold S
  constructor
  · intro h
    have := congrArg (fun b : ByteArray => b.data.toList) h
    simpa using this
  · intro h; rw [h]
theorem S_toList (l : List UInt8) : (S l).toList = l := by rw [ByteArray.toList_eq]; rfl
theorem S_beq (l m : List UInt8) : ((S l).toList == (S m).toList) = decide (l = m) := by
  rw [S_toList, S_toList]
  by_cases h : l = m
  · rw [h]; simp
  · simp [h]
theorem conv_bytes (w : World) (a : Option Addr) (len cap : Nat) (l : List UInt8) (hB : Byt w a len l) :
    (convert 32 9 (.slice a len cap)).run Try.prog w = .ok (.string (S l)) w := by
  have hl := hB.1
  rcases hB.2 with h0 | ⟨b, off, rfl, hc⟩
  · have e : l = [] := List.eq_nil_of_length_eq_zero (by omega)
    subst e
    cases a with
    | none => exact run_convert_bytes_nil (P := Try.prog) w 32 5 Try.underlying32 Try.underlying5 len cap 9 Try.underlying9
    | some x =>
      rw [run_convert_bytes_string w 32 9 5 _ len cap Try.underlying32 Try.underlying5 Try.underlying9]
      rw [run_bytesToString w x len cap [] (by rw [h0]; rfl)]
      rfl
  · have h := run_convert_bytes_arg (P := Try.prog) w 32 5 Try.underlying32 Try.underlying5 b off len cap (l.map fun c => (c.toNat : Int)) (by simpa using hl)
      (fun i hi => by
        rw [hc i hi, at8_get l i (by omega)]
        simp [show i < l.length by omega]) 9 Try.underlying9
    rw [h]
    have e : strOfNums (l.map fun c => (c.toNat : Int)) = S l := by
      unfold strOfNums S
      rw [List.map_map]
      congr 2
      have hid : ((fun n : Int => UInt8.ofNat n.toNat) ∘ fun c : UInt8 => (c.toNat : Int)) = id := by
        funext c
        simp
      rw [hid, List.map_id]
    rw [e]

theorem ret_bool {a b : Bool} (h : a = b) : Ending.returned (.bool a) = .returned (.bool b) := by rw [h]
set_option maxHeartbeats 400000 in
set_option maxRecDepth 100000 in
theorem equal_any (a b : Option Addr) (len cap lenb capb : Nat) (l m : List UInt8) (w : World) (hA : Byt w a len l) (hB : Byt w b lenb m) :
    Calls Try.prog 51 #[.slice a len cap, .slice b lenb capb] w fun e w' => e = .returned (.bool (decide (l = m))) ∧ w' = w := by
  have h1 := conv_bytes w a len cap l hA
  have h2 := conv_bytes w b lenb capb m hB
  go_enter Try.func51, Try.ntmps51
  go_wp2
  go_ret
  exact ⟨ret_bool (S_beq l m), rfl⟩

set_option maxHeartbeats 400000 in
set_option maxRecDepth 100000 in
theorem same_any (a b : Option Addr) (len cap lenb capb : Nat) (l m : List UInt8) (w : World) (hA : Byt w a len l) (hB : Byt w b lenb m) :
    Calls Try.prog 35 #[.slice a len cap, .slice b lenb capb] w fun e w' => e = .returned (.bool (decide (l = m))) ∧ w' = w := by
  go_enter Try.func35, Try.ntmps35
  go_wp2_with (go_at_call 51; refine (equal_any _ _ _ _ _ _ l m _ hA hB).mono ?_; rintro e w' ⟨rfl, rfl⟩)
  go_ret
  exact ⟨rfl, rfl⟩

/-- The bits in which bytes differ, as far as both go. -/
def xorB (l m : List UInt8) : List UInt8 := List.zipWith (· ^^^ ·) l m
theorem xor_val8 (a b : UInt8) : bits .xor .u8 (a.toNat : Int) (b.toNat : Int) = ((a ^^^ b).toNat : Int) := by
  rw [u8_xor_nat _ _ (a.toNat_lt) (b.toNat_lt), UInt8.toNat_xor]
theorem xorB_length (l m : List UInt8) : (xorB l m).length = min l.length m.length := by simp [xorB]
theorem xorB_at (l m : List UInt8) (k : Nat) (h1 : k < l.length) (h2 : k < m.length) : at8 (xorB l m) k = at8 l k ^^^ at8 m k := by
  rw [at8_get _ _ (by rw [xorB_length]; omega), at8_get _ _ h1, at8_get _ _ h2]
  simp [xorB]
/-- What stands in the new row when k places are done. -/
def xorTo (l m : List UInt8) (n k : Nat) : List Value := ((xorB l m).take k).map bv ++ List.replicate (n - k) (.int .u8 0)
theorem xorTo_succ (l m : List UInt8) (n k : Nat) (hn : n = min l.length m.length) (h : k < n) : (xorTo l m n k).set k (bv (at8 l k ^^^ at8 m k)) = xorTo l m n (k + 1) := by
  unfold xorTo
  have hk : (((xorB l m).take k).map bv).length = k := by simp [xorB_length]; omega
  rw [List.set_append_right _ _ (by rw [hk]; exact Nat.le_refl _), hk, Nat.sub_self, take_at _ _ (by rw [xorB_length]; omega), xorB_at _ _ _ (by omega) (by omega)]
  rw [show n - k = (n - (k + 1)) + 1 by omega, List.replicate_succ]
  simp

theorem make_full (w : World) (n : Nat) (h : n ≤ 2000000) :
    ∃ w1, (Instr.makeSlice 32 (.int .i64 (n : Int)) (.int .i64 (n : Int))).run Try.prog w = .ok (.slice (some ⟨w.heap.size, 0, none⟩) n n) w1 ∧
      w1.ownsRow w.heap.size 5 1 (.slice (some ⟨w.heap.size, 0, none⟩) n n) n (List.replicate n (.int .u8 0)) ∧ Below w.heap.size w w1 := by
  obtain ⟨i0, hi, hz0, hz1, hz2⟩ := info_parts Try.infoU8
  obtain ⟨w1, h1, h2, h3⟩ := run_make_full (P := Try.prog) w w.heap.size 32 5 i0 (.int .u8 0) 1 Try.underlying32 hi hz0 hz1 .i64 .i64 n (by rw [hz2]; omega) (by unfold maxLen; omega) (Nat.le_refl _)
  refine ⟨w1, h1, ?_, (Below.refl _ _).grown h3 (Nat.le_refl _) (by intro k hk; cases hk)⟩
  have e : (madeCells (Value.int .u8 0).cells (n * 1)).toList = List.replicate n (.int .u8 0) := by
    rw [Nat.mul_one]; exact toList_madeCells_one _ _
  rwa [e] at h2

end Go.Proofs.Ytejbhjcopldekaa
