/- The walk over the law's own 'number' (poly), and plain facts on tags as two numbers. -/
import Derived.Test.YtcnihgjibiidpaaPolShown
namespace Go.Proofs.Ytcnihgjibiidpaa
set_option linter.unusedVariables false
open Go.RowKit

/-- What a tag's low and high eight bytes are as numbers. -/
def lowN (B : List UInt8) : Nat := leN (B.take 8)
def highN (B : List UInt8) : Nat := leN (B.drop 8)
theorem leN_drop_step (l : List UInt8) (j : Nat) (h : j < l.length) : leN (l.drop j) = (at8 l j).toNat + 256 * leN (l.drop (j + 1)) := by
  rw [List.drop_eq_getElem_cons h, leN, at8_get l j h]
theorem leN_drop_lt (l : List UInt8) (j : Nat) (h : l.length ≤ 8) : leN (l.drop j) < 256 ^ (8 - j) := by
  refine Nat.lt_of_lt_of_le (leN_lt _) (Nat.pow_le_pow_right (by decide) ?_)
  simp
  omega
theorem leN_bound8 (l : List UInt8) (j : Nat) (h : l.length ≤ 8) (hj : 1 ≤ j) : leN (l.drop j) < 72057594037927936 := by
  refine Nat.lt_of_lt_of_le (leN_drop_lt l j h) ?_
  exact Nat.le_trans (Nat.pow_le_pow_right (by decide) (show 8 - j ≤ 7 by omega)) (by decide)

set_option maxHeartbeats 800000 in
set_option maxRecDepth 100000 in
theorem number_any (B : List UInt8) (w : World) (hB : B.length = 16) :
    Calls Try.prog 17 #[.agg (B.map bv).toArray] w fun e w' => e = .returned (.tuple #[.int .u64 (lowN B : Int), .int .u64 (highN B : Int)]) ∧ Below w.heap.size w w' := by
  have hA0 : Arr (w.alloc (.cells (B.map bv).toArray 26)) w.heap.size 26 B := Arr.new w _ _
  have HW0 : Hid (Below w.heap.size w (w.alloc (.cells (B.map bv).toArray 26))) := (Below.refl _ _).alloc (Nat.le_refl _) _
  have hcell : ∀ i, i < 16 → (w.alloc (.cells (B.map bv).toArray 26)).cell? ⟨w.heap.size, i, none⟩ = some (.int .u8 ((at8 B i).toNat : Int)) := fun i hi => (hA0.at_ i (by omega)).1
  have Hcell : Hid (∀ i, i < 16 → (w.alloc (.cells (B.map bv).toArray 26)).cell? ⟨w.heap.size, i, none⟩ = some (.int .u8 ((at8 B i).toNat : Int))) := hcell
  clear hA0 hcell
  go_enter Try.func17, Try.ntmps17
  go_wp2
  generalize w.alloc (.cells (B.map bv).toArray 26) = W at HW0 Hcell ⊢
  go_loop [4, 5, 6] (fun lo hi i => ∃ j : Nat, j ≤ 8 ∧ i = .int .i64 ((j : Int) - 1) ∧ lo = .int .u64 (leN ((B.take 8).drop j) : Int) ∧ hi = .int .u64 (leN ((B.drop 8).drop j) : Int)) (fun _ _ i => (intOf i + 1).toNat)
  case atStart => exact ⟨8, by omega, rfl, by rw [List.drop_of_length_le (by simp; omega)]; rfl, by rw [List.drop_of_length_le (by simp; omega)]; rfl⟩
  case round =>
    obtain ⟨j, hj, rfl, rfl, rfl⟩ := hrel
    by_cases h0 : j = 0
    · subst h0
      go_wp2
      go_ret2
      exact ⟨rfl, HW0.out⟩
    · obtain ⟨k, rfl⟩ : ∃ k, j = k + 1 := ⟨j - 1, by omega⟩
      have e0 : ((k + 1 : Nat) : Int) - 1 = (k : Int) := by omega
      rw [e0]
      have hl1 : (B.take 8).length = 8 := by simp; omega
      have hl2 : (B.drop 8).length = 8 := by simp; omega
      have hb1 := leN_bound8 (B.take 8) (k + 1) (by omega) (by omega)
      have hb2 := leN_bound8 (B.drop 8) (k + 1) (by omega) (by omega)
      have s1 := leN_drop_step (B.take 8) k (by omega)
      have s2 := leN_drop_step (B.drop 8) k (by omega)
      have a1 : at8 (B.take 8) k = at8 B k := by simp [at8, show k < 8 by omega]
      have a2 : at8 (B.drop 8) k = at8 B (8 + k) := by simp [at8]
      rw [a1] at s1
      rw [a2] at s2
      have c1 := Hcell.out k (by omega)
      obtain ⟨p, hp⟩ : ∃ p, 8 + k = p := ⟨_, rfl⟩
      rw [hp] at s2
      have c2 := Hcell.out p (by omega)
      have hx1 := (at8 B k).toNat_lt
      have hx2 := (at8 B p).toNat_lt
      have ep : (8 : Int) + (k : Int) = (p : Int) := by omega
      have hp16 : (p : Int) < 16 := by omega
      have hk16 : (k : Int) < 16 := by omega
      have hk0 : (0 : Int) ≤ (k : Int) := by omega
      obtain ⟨L, hL⟩ : ∃ L, leN ((B.take 8).drop (k + 1)) = L := ⟨_, rfl⟩
      obtain ⟨H, hH⟩ : ∃ H, leN ((B.drop 8).drop (k + 1)) = H := ⟨_, rfl⟩
      rw [hL] at s1 hb1 ⊢
      rw [hH] at s2 hb2 ⊢
      have HS1 : Hid (leN ((B.take 8).drop k) = (at8 B k).toNat + 256 * L) := s1
      have HS2 : Hid (leN ((B.drop 8).drop k) = (at8 B p).toNat + 256 * H) := s2
      clear s1 s2 a1 a2 hL hH hp e0 hl1 hl2
      go_wp2
      refine ⟨⟨k, by omega, rfl, ?_, ?_⟩, by simp [intOf]⟩
      · rw [HS1.out]; congr 1; omega
      · rw [HS2.out]; congr 1; omega
theorem leN_leB16 (n : Nat) : lowN (leB 16 n) + 18446744073709551616 * highN (leB 16 n) = n % 256 ^ 16 := by
  have h := leN_append ((leB 16 n).take 8) ((leB 16 n).drop 8)
  rw [List.take_append_drop, leN_leB, List.length_take, leB_length] at h
  unfold lowN highN
  rw [h]
  rfl
theorem lowN_lt (B : List UInt8) : lowN B < 18446744073709551616 := by
  have h := leN_lt (B.take 8)
  exact Nat.lt_of_lt_of_le h (Nat.le_trans (Nat.pow_le_pow_right (by decide) (show (B.take 8).length ≤ 8 by rw [List.length_take]; omega)) (by decide))
theorem highN_lt (B : List UInt8) (hB : B.length = 16) : highN B < 18446744073709551616 := by
  have h := leN_lt (B.drop 8)
  exact Nat.lt_of_lt_of_le h (Nat.le_trans (Nat.pow_le_pow_right (by decide) (show (B.drop 8).length ≤ 8 by rw [List.length_drop]; omega)) (by decide))
theorem lowhigh (B : List UInt8) (hB : B.length = 16) : lowN B + 18446744073709551616 * highN B = leN B := by
  have h := leN_append (B.take 8) (B.drop 8)
  rw [List.take_append_drop, List.length_take, hB] at h
  unfold lowN highN
  rw [h]
  rfl
end Go.Proofs.Ytcnihgjibiidpaa
