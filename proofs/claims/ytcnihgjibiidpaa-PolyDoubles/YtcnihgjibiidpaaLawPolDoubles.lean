/- PolyDoubles: a key whose first half is 2 tells twice the number of one part. For every number, without a condition. -/
import Derived.Test.YtcnihgjibiidpaaPolNum
namespace Go.Proofs.Ytcnihgjibiidpaa.polyDoubles
open Go.ChangeShapes Go.WideShapes Go.ChangeAt Go.RowKit
set_option linter.unusedVariables false

def key2 : List UInt8 := 2 :: List.replicate 31 0
theorem key2_R : polyR key2 = 2 := by decide +kernel
theorem key2_S : polyS key2 = 0 := by decide +kernel
theorem part_num (n : Nat) (h : n < 256 ^ 16) : partN (leB 16 n) 0 = n + 340282366920938463463374607431768211456 := by
  unfold partN
  have e : cutB (leB 16 n) (16 * 0) 16 = leB 16 n := by
    unfold cutB
    rw [Nat.mul_zero, List.drop_zero, List.take_of_length_le (by rw [leB_length]; exact Nat.le_refl _)]
  rw [e, leN_append, leN_leB, leB_length, Nat.mod_eq_of_lt h]
  rfl
theorem P1305_val : P1305 = 1361129467683753853853498429727072845819 := by decide
theorem two_parts (n : Nat) (h : n < 18446744073709551616) : ((n + 340282366920938463463374607431768211456) * 2 % P1305) % 256 ^ 16 = 2 * n := by
  rw [P1305_val, show (256 : Nat) ^ 16 = 340282366920938463463374607431768211456 from by decide]
  rw [Nat.mod_eq_of_lt (show (n + 340282366920938463463374607431768211456) * 2 < 1361129467683753853853498429727072845819 by omega)]
  rw [show (n + 340282366920938463463374607431768211456) * 2 = 2 * n + 340282366920938463463374607431768211456 * 2 by omega, Nat.add_mul_mod_self_left, Nat.mod_eq_of_lt (by omega)]
theorem tag2 (n : Nat) (h : n < 18446744073709551616) : ∃ x y, lowN (tag key2 (leB 16 n)) = x ∧ highN (tag key2 (leB 16 n)) = y ∧ x < 18446744073709551616 ∧ x + 18446744073709551616 * y = 2 * n := by
  refine ⟨_, _, rfl, rfl, lowN_lt _, ?_⟩
  unfold tag
  rw [leN_leB16, key2_R, key2_S, leB_length, Nat.add_zero, show polyN 16 = 0 + 1 from rfl, polyTo, polyTo, part_num n (Nat.lt_trans h (by decide)), Nat.zero_add]
  exact two_parts n h

set_option maxHeartbeats 4000000 in
set_option maxRecDepth 100000 in
theorem walk (a0 : Int) (w : World) (w0 : (Lit.int .u64 a0).wf = true) :
    Calls Try.prog 8 #[.int .u64 a0] w fun e w' => e = .returned (.bool true) ∧ Below w.heap.size w w' := by
  obtain ⟨n, rfl, hn⟩ := u64_of a0 w0
  clear w0
  have IK : (Try.prog.info? 23).map (·.size) = some 32 := by kernel_rfl
  have hIK : Hid ((Try.prog.info? 23).map (·.size) = some 32) := IK
  clear IK
  go_enter Try.func8, Try.ntmps8
  go_wp2_with fail
  refine (polShown_any _).mono ?_
  rintro e w4 ⟨rfl, hb4⟩
  have hst := run_store_arr w4 23 key2 32 rfl (by kernel_rfl)
  obtain ⟨W5, hW5⟩ : ∃ W5, w4.alloc (.cells (key2.map bv).toArray 23) = W5 := ⟨_, rfl⟩
  rw [hW5] at hst
  have hb5 : Below w.heap.size w W5 := by rw [← hW5]; exact hb4.alloc hb4.size _
  have hK5 : Arr W5 w4.heap.size 23 key2 := by rw [← hW5]; exact Arr.new w4 _ _
  obtain ⟨W6, hmk, own6, hb6⟩ := make_full W5 16 (by omega)
  have hinf : Hid ((Try.prog.info? 23).map (·.size) = some (key2.map bv).toArray.size) := info_size hIK.out key2 rfl
  have hall : Hid ((key2.map bv).toArray.all (·.oneCell') = true) := by
    show _ = _
    rw [Array.all_eq_true_iff_forall_mem]
    intro u hu
    simp only [List.mem_toArray] at hu
    exact bv_oneCell key2 u hu
  have HW5 : Hid (w4.alloc (.cells (key2.map bv).toArray 23) = W5) := hW5
  have HO6 : Hid (W6.ownsRow W5.heap.size 5 1 (.slice (some ⟨W5.heap.size, 0, none⟩) 16 16) 16 ((padB n 16 0).map bv)) := by
    rw [padB_zero]
    have e : (List.replicate 16 (0 : UInt8)).map bv = List.replicate 16 (.int .u8 0) := by simp [bv]
    rw [e]
    exact own6
  have HK6 : Hid (Arr W6 w4.heap.size 23 key2) := hK5.later hb6
  have HW6 : Hid (Below w.heap.size w W6) := hb5.trans (hb6.mono hb5.size)
  have hmk' : (Instr.makeSlice 24 (.int .i64 16) (.int .i64 16)).run Try.prog W5 = .ok (.slice (some ⟨W5.heap.size, 0, none⟩) 16 16) W6 := hmk
  have hkg : w4.heap.size < W5.heap.size := hK5.lt
  have hwg : w.heap.size ≤ W5.heap.size := hb5.size
  clear hst hW5 hb4 hb5 hK5 hmk own6 hb6
  go_wp2_with (first | (refine wpList_store_row rfl 23 _ _ rfl w4.heap.size (key2.map bv).toArray rfl rfl 23 _ (heap_alloc_new w4 _) hinf.out rfl hall.out ?_; rw [World.setRow_alloc_new, HW5.out]))
  clear hmk' hinf hall HW5
  generalize W5.heap.size = g at HO6 hkg hwg ⊢
  generalize w4.heap.size = kg at HK6 hkg ⊢
  go_loopw [6] (fun i wr => ∃ k : Nat, k ≤ 8 ∧ i = .int .i64 k ∧ Hid (Arr wr kg 23 key2) ∧ Hid (wr.ownsRow g 5 1 (.slice (some ⟨g, 0, none⟩) 16 16) 16 ((padB n 16 k).map bv)) ∧ Hid (Below w.heap.size w wr)) (fun i _ => 8 - (intOf i).toNat)
  case atStart => exact ⟨0, by omega, rfl, HK6, HO6, HW6⟩
  case round =>
    clear HK6 HO6 HW6
    obtain ⟨k, hk, rfl, hK, hO, hW⟩ := hrel
    by_cases hlt : k < 8
    · obtain ⟨p, hp⟩ : ∃ p, 8 * k = p := ⟨_, rfl⟩
      have e1 : (8 : Int) * (k : Int) = (p : Int) := by omega
      have hk8 : (k : Int) < 8 := by omega
      have hk16 : (k : Int) < 16 := by omega
      have hf := hO.out.frozenAt k
      have hcl : ∃ v0, wr.cell? ⟨g, k, none⟩ = some v0 := by
        rw [hO.out.cellAt k (by omega)]
        have h1 : k < ((padB n 16 k).map bv).length := by have := hO.out.1; omega
        exact ⟨_, List.getElem?_eq_getElem h1⟩
      obtain ⟨v0, hv0⟩ := hcl
      obtain ⟨c, hc⟩ : ∃ c, n / 256 ^ k % 256 = c := ⟨_, rfl⟩
      have hcb : c < 256 := by omega
      have hv : (n : Int) / 2 ^ p % 256 = (c : Int) := by
        rw [← hc, ← hp, pow256]
        simp
      have HO2 : Hid ((wr.setCell ⟨g, k, none⟩ (.int .u8 (c : Int))).ownsRow g 5 1 (.slice (some ⟨g, 0, none⟩) 16 16) 16 ((padB n 16 (k + 1)).map bv)) := by
        rw [← padB_set n 16 k (by omega), List.map_set]
        have e : bv (UInt8.ofNat (n / 256 ^ k % 256)) = .int .u8 (c : Int) := by rw [hc]; simp [bv]; omega
        rw [e]
        exact (hO.out.stored k _).1
      have HK2 : Hid (Arr (wr.setCell ⟨g, k, none⟩ (.int .u8 (c : Int))) kg 23 key2) := hK.out.other (by omega) _ _
      have HW2 : Hid (Below w.heap.size w (wr.setCell ⟨g, k, none⟩ (.int .u8 (c : Int)))) := hW.out.setCell hwg _
      clear hK hO hW hp hc
      go_wp2
      exact ⟨⟨k + 1, by omega, by go_num, HK2, HO2, HW2⟩, by simp [intOf]; omega⟩
    · have hk8 : ¬ (k : Int) < 8 := by omega
      have ek : k = 8 := by omega
      have HB : Hid (Byt wr (some ⟨g, 0, none⟩) 16 (leB 16 n)) := by
        have h1 := Byt.ofOwn hO.out
        rw [padB_all n 16 k (by omega) (.inr (by rw [ek]; exact hn))] at h1
        exact h1
      clear hO ek
      go_wp2_with (first | refine wpList_load_row rfl 23 _ rfl kg rfl 23 _ (0, 0) _ hK.out Try.underlying23 rfl (info_size hIK.out _ rfl) ?_)
      refine (sum_any key2 _ 16 16 (leB 16 n) _ rfl HB.out (by omega) (by omega) (by unfold maxLen; omega)).mono ?_
      rintro e w10 ⟨rfl, hb10⟩
      have hT2 := tag_length key2 (leB 16 n)
      obtain ⟨x, y, hx, hy, hxb, hxy⟩ := tag2 n hn
      generalize tag key2 (leB 16 n) = T at hT2 hx hy ⊢
      have HW10 : Hid (Below w.heap.size w w10) := hW.out.trans (hb10.mono hW.out.size)
      clear hb10 HB hW hK
      go_wp2_with fail
      refine (number_any T _ hT2).mono ?_
      rintro e w11 ⟨rfl, hb11⟩
      have HW11 : Hid (Below w.heap.size w w11) := HW10.out.trans (hb11.mono HW10.out.size)
      clear hb11 HW10
      rw [hx, hy]
      have f1 : IntKind.u64.wrap (2 * (n : Int)) = (x : Int) := by rw [IntKind.wrap_u64]; omega
      have f2 : (n : Int) / 9223372036854775808 = (y : Int) := by omega
      clear hx hy hxy
      go_wp2
      go_ret
      exact ⟨rfl, HW11.out⟩
end Go.Proofs.Ytcnihgjibiidpaa.polyDoubles
