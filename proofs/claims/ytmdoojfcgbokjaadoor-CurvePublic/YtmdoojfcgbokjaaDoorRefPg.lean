/- The walk over the document's Bytes. -/
import Derived.Test.YtmdoojfcgbokjaaDoorRefPf
namespace Go.Proofs.YtmdoojfcgbokjaaDoor
set_option linter.unusedVariables false
open Go.RowKit

/-- The first k bytes of a number, and 0s behind them. -/
def padB (x size k : Nat) : List UInt8 := leB k x ++ List.replicate (size - k) 0
theorem padB_length (x size k : Nat) (h : k ≤ size) : (padB x size k).length = size := by simp [padB, leB_length]; omega
theorem padB_zero (x size : Nat) : padB x size 0 = List.replicate size 0 := by simp [padB, leB]
theorem padB_set (x size k : Nat) (h : k < size) : (padB x size k).set k (UInt8.ofNat (x / 256 ^ k % 256)) = padB x size (k + 1) := by
  unfold padB
  rw [List.set_append_right _ _ (by rw [leB_length]; exact Nat.le_refl _), leB_length, Nat.sub_self, leB_snoc, List.append_assoc]
  congr 1
  rw [show size - k = (size - (k + 1)) + 1 by omega, List.replicate_succ]
  rfl
theorem padB_all (x size k : Nat) (h : k ≤ size) (hx : k = size ∨ x < 256 ^ k) : padB x size k = leB size x := by
  have hpl := padB_length x size k h
  unfold padB at hpl ⊢
  apply List.ext_getElem
  · rw [hpl, leB_length]
  · intro i h1 h2
    rw [leB_length] at h2
    rw [leB_get size x i h2]
    rcases Nat.lt_or_ge i k with hi | hi
    · rw [List.getElem_append_left (by rw [leB_length]; exact hi), leB_get k x i hi]
    · rw [List.getElem_append_right (by rw [leB_length]; exact hi), List.getElem_replicate]
      rcases hx with hx | hx
      · omega
      · rw [Nat.div_eq_of_lt (Nat.lt_of_lt_of_le hx (Nat.pow_le_pow_right (by decide) hi))]
        rfl

set_option maxHeartbeats 400000 in
set_option maxRecDepth 100000 in
theorem refBytes_any (a : Option Addr) (len cap size x : Nat) (w : World) (hA : Ints w a len (dig x)) (hsz : size ≤ 1000) (hlm : len ≤ 20000) :
    Calls Tryd.prog 44 #[.slice a len cap, .int .i64 (size : Int)] w fun e w' => ∃ g, e = .returned (.slice (some ⟨g, 0, none⟩) size size) ∧ w.heap.size ≤ g ∧ Below w.heap.size w w' ∧ Byt w' (some ⟨g, 0, none⟩) size (leB size x) := by
  have hl := hA.1
  have HA : Hid (Ints w a len (dig x)) := hA
  have HL : Hid ((dig x).length = len) := hl
  clear hA hl
  obtain ⟨w1, hmk, hown1, hb1⟩ := make_full w size (by omega)
  have HO1 : Hid (w1.ownsRow w.heap.size 5 1 (.slice (some ⟨w.heap.size, 0, none⟩) size size) size ((padB x size 0).map bv)) := by
    rw [padB_zero]
    have e : (List.replicate size (0 : UInt8)).map bv = List.replicate size (.int .u8 0) := by simp [bv]
    rw [e]
    exact hown1
  have HB1 : Hid (Below w.heap.size w w1) := hb1
  clear hown1 hb1
  go_enter Tryd.func44, Tryd.ntmps44
  go_wp2
  clear hmk
  go_loopw [6] (fun i wr => ∃ k : Nat, k ≤ size ∧ k ≤ len ∧ i = .int .i64 k ∧ Hid (wr.ownsRow w.heap.size 5 1 (.slice (some ⟨w.heap.size, 0, none⟩) size size) size ((padB x size k).map bv)) ∧ Hid (Below w.heap.size w wr)) (fun i _ => size - (intOf i).toNat)
  case atStart => exact ⟨0, Nat.zero_le _, Nat.zero_le _, rfl, HO1, HB1⟩
  case round =>
    clear HO1 HB1
    obtain ⟨k, hk, hkl, rfl, hO, hW⟩ := hrel
    by_cases hlt : k < size ∧ k < len
    · obtain ⟨hk1, hk2⟩ := hlt
      obtain ⟨b, off, rfl, hc0⟩ := HA.out.at_ k hk2
      have hc : wr.cell? ⟨b, off + k, none⟩ = some (.int .i64 (atD (dig x) k : Int)) := by
        rw [hW.out.cell (p := ⟨b, off + k, none⟩) (World.block_lt_of_cell? w _ hc0)]; exact hc0
      have hx := atD_lt (dig x) (dig_lt x) k
      have hf := hO.out.frozenAt k
      have hcl : ∃ v0, wr.cell? ⟨w.heap.size, k, none⟩ = some v0 := by
        rw [hO.out.cellAt k (by omega)]
        have h1 : k < ((padB x size k).map bv).length := by have := hO.out.1; omega
        exact ⟨_, List.getElem?_eq_getElem h1⟩
      obtain ⟨v0, hv0⟩ := hcl
      have i1 : (k : Int) < (size : Int) := by omega
      have i2 : (k : Int) < (len : Int) := by omega
      have HO2 : Hid ((wr.setCell ⟨w.heap.size, k, none⟩ (.int .u8 (atD (dig x) k : Int))).ownsRow w.heap.size 5 1 (.slice (some ⟨w.heap.size, 0, none⟩) size size) size ((padB x size (k + 1)).map bv)) := by
        rw [← padB_set x size k hk1, List.map_set]
        have e : bv (UInt8.ofNat (x / 256 ^ k % 256)) = .int .u8 (atD (dig x) k : Int) := by
          rw [dig_at]; simp [bv]
        rw [e]
        exact (hO.out.stored k _).1
      have HW2 : Hid (Below w.heap.size w (wr.setCell ⟨w.heap.size, k, none⟩ (.int .u8 (atD (dig x) k : Int)))) := hW.out.setCell (Nat.le_refl _) _
      have hmod : (atD (dig x) k : Int) % 256 = (atD (dig x) k : Int) := by omega
      clear hc0 hO hW
      go_wp2
      exact ⟨⟨k + 1, by omega, by omega, by go_num, HO2, HW2⟩, by simp [intOf]; omega⟩
    · have HR : Hid (padB x size k = leB size x) := padB_all x size k hk (by
        rcases Nat.lt_or_ge k size with h1 | h1
        · right
          have h2 : k = len := by omega
          rw [h2, ← HL.out]
          exact lt_pow_length x
        · left; omega)
      have hE : Hid (Byt wr (some ⟨w.heap.size, 0, none⟩) size (leB size x)) := by rw [← HR.out]; exact Byt.ofOwn hO.out
      clear hO HR
      by_cases h1 : k < size
      · have i1 : (k : Int) < (size : Int) := by omega
        have i2 : ¬ (k : Int) < (len : Int) := by omega
        clear hlt
        go_wp2
        go_ret
        exact ⟨w.heap.size, rfl, Nat.le_refl _, hW.out, hE.out⟩
      · have i1 : ¬ (k : Int) < (size : Int) := by omega
        clear hlt
        go_wp2
        go_ret
        exact ⟨w.heap.size, rfl, Nat.le_refl _, hW.out, hE.out⟩
end Go.Proofs.YtmdoojfcgbokjaaDoor
