/- PolyOne: a key whose first half is 1 adds up the parts. For every three numbers, without a condition. -/
import Derived.Test.YtcnihgjibiidpaaLawPolDoubles
import Derived.Test.YtcnihgjibiidpaaAppZ
namespace Go.Proofs.Ytcnihgjibiidpaa.polyOne
open Go.ChangeShapes Go.WideShapes Go.ChangeAt Go.RowKit
open Go.Proofs.Ytcnihgjibiidpaa.polyDoubles (P1305_val)
set_option linter.unusedVariables false

def key1 : List UInt8 := 1 :: List.replicate 31 0
theorem key1_R : polyR key1 = 1 := by decide +kernel
theorem key1_S : polyS key1 = 0 := by decide +kernel
/-- Eight bytes of a number, and eight 0s. -/
def part8 (n : Nat) : List UInt8 := leB 8 n ++ List.replicate 8 0
theorem part8_length (n : Nat) : (part8 n).length = 16 := by simp [part8, leB_length]
theorem part8_val (n : Nat) (h : n < 18446744073709551616) : leN (part8 n ++ [1]) = n + 340282366920938463463374607431768211456 := by
  have e : leN (List.replicate 8 (0 : UInt8)) = 0 := by decide
  rw [leN_append, part8_length]
  unfold part8
  rw [leN_append, leN_leB, e, Nat.mod_eq_of_lt (show n < 256 ^ 8 from h)]
  rfl
def three (a c d : Nat) : List UInt8 := part8 a ++ part8 c ++ part8 d
theorem three_length (a c d : Nat) : (three a c d).length = 48 := by simp [three, part8_length]
theorem three_parts (a c d : Nat) : cutB (three a c d) (16 * 0) 16 = part8 a ∧ cutB (three a c d) (16 * 1) 16 = part8 c ∧ cutB (three a c d) (16 * 2) 16 = part8 d := by
  have la := part8_length a
  have lc := part8_length c
  have ld := part8_length d
  unfold three cutB
  refine ⟨?_, ?_, ?_⟩
  · rw [Nat.mul_zero, List.drop_zero, List.append_assoc, ← la, List.take_left]
  · rw [List.append_assoc, show 16 * 1 = (part8 a).length by rw [la], List.drop_left, ← lc, List.take_left]
  · rw [show 16 * 2 = (part8 a ++ part8 c).length by rw [List.length_append, la, lc], List.drop_left, ← ld, List.take_of_length_le (Nat.le_refl _)]
theorem sum_mod (a c d : Nat) (ha : a < 18446744073709551616) (hc : c < 18446744073709551616) (hd : d < 18446744073709551616) :
    (((0 + (a + 340282366920938463463374607431768211456)) * 1 % P1305 + (c + 340282366920938463463374607431768211456)) * 1 % P1305 + (d + 340282366920938463463374607431768211456)) * 1 % P1305 % 256 ^ 16 = a + c + d := by
  rw [P1305_val, show (256 : Nat) ^ 16 = 340282366920938463463374607431768211456 from by decide]
  rw [Nat.mul_one, Nat.mul_one, Nat.mul_one, Nat.zero_add]
  rw [Nat.mod_eq_of_lt (show a + 340282366920938463463374607431768211456 < 1361129467683753853853498429727072845819 by omega)]
  rw [Nat.mod_eq_of_lt (show a + 340282366920938463463374607431768211456 + (c + 340282366920938463463374607431768211456) < 1361129467683753853853498429727072845819 by omega)]
  rw [Nat.mod_eq_of_lt (show a + 340282366920938463463374607431768211456 + (c + 340282366920938463463374607431768211456) + (d + 340282366920938463463374607431768211456) < 1361129467683753853853498429727072845819 by omega)]
  rw [show a + 340282366920938463463374607431768211456 + (c + 340282366920938463463374607431768211456) + (d + 340282366920938463463374607431768211456) = (a + c + d) + 340282366920938463463374607431768211456 * 3 by omega, Nat.add_mul_mod_self_left, Nat.mod_eq_of_lt (by omega)]
theorem tag1 (a c d : Nat) (ha : a < 18446744073709551616) (hc : c < 18446744073709551616) (hd : d < 18446744073709551616) :
    ∃ x y, lowN (tag key1 (three a c d)) = x ∧ highN (tag key1 (three a c d)) = y ∧ x < 18446744073709551616 ∧ x + 18446744073709551616 * y = a + c + d := by
  refine ⟨_, _, rfl, rfl, lowN_lt _, ?_⟩
  obtain ⟨p0, p1, p2⟩ := three_parts a c d
  unfold tag
  rw [leN_leB16, key1_R, key1_S, three_length, Nat.add_zero, show polyN 48 = 2 + 1 from rfl, polyTo, show 2 = 1 + 1 from rfl, polyTo, show 1 = 0 + 1 from rfl, polyTo, polyTo]
  unfold partN
  rw [p0, show (16 * (0 + 1) : Nat) = 16 * 1 from rfl, p1, show (16 * (0 + 1 + 1) : Nat) = 16 * 2 from rfl, p2, part8_val a ha, part8_val c hc, part8_val d hd]
  exact sum_mod a c d ha hc hd
theorem arr_grown {w w' : World} {g : Nat} {t : TypeId} {l : List UInt8} {row : Option Nat} (h : Arr w g t l) (hg : w.grownBy w' row) (hne : some g ≠ row) : Arr w' g t l := by
  unfold Arr
  rw [hg.block g h.lt hne]
  exact h
/-- 'append(b, c)'. -/
theorem append_byte (w : World) (base : Nat) (v : Value) (n : Nat) (xs : List UInt8) (c : Nat) (hc : c < 256) (hown : w.ownsRow base 5 1 v n (xs.map bv)) (hb : base ≤ w.heap.size) (hsm : n ≤ 1000) :
    ∃ v' w', (Builtin.append_ #[24, 24] 24 #[v, .slice (some ⟨w.heap.size, 0, none⟩) 1 1]).run Try.prog (w.alloc (.cells #[.int .u8 (c : Int)] 5)) = .ok v' w' ∧ w'.ownsRow base 5 1 v' (n + 1) ((xs ++ [UInt8.ofNat c]).map bv) ∧ w.grownBy w' v.ownBlock := by
  have hs : Byt (w.alloc (.cells #[.int .u8 (c : Int)] 5)) (some ⟨w.heap.size, 0, none⟩) 1 [UInt8.ofNat c] := byt_lit _ [UInt8.ofNat c] w.heap.size _ _ _ (heap_alloc_new w _) (by simp [bv]; omega)
  obtain ⟨v', w', hr, ho, hg⟩ := append_bytes (w.alloc (.cells #[.int .u8 (c : Int)] 5)) base v n xs (hown.alloc _) ⟨w.heap.size, 0, none⟩ 1 1 _ hs (by simp; omega) (by omega)
  refine ⟨v', w', hr, ho, hg.os, hg.tape, hg.output, by have := hg.size; simp at this; omega, fun k hk hne => ?_⟩
  rw [hg.block k (by simp; omega) hne]
  exact Below.heap_alloc w _ k hk

set_option maxHeartbeats 8000000 in
set_option maxRecDepth 100000 in
theorem walk (a0 a1 a2 : Int) (w : World) (w0 : (Lit.int .u64 a0).wf = true) (w1 : (Lit.int .u64 a1).wf = true) (w2 : (Lit.int .u64 a2).wf = true) :
    Calls Try.prog 7 #[.int .u64 a0, .int .u64 a1, .int .u64 a2] w fun e w' => e = .returned (.bool true) ∧ Below w.heap.size w w' := by
  obtain ⟨a, rfl, ha⟩ := u64_of a0 w0
  obtain ⟨c, rfl, hc⟩ := u64_of a1 w1
  obtain ⟨d, rfl, hd⟩ := u64_of a2 w2
  clear w0 w1 w2
  have IK : (Try.prog.info? 23).map (·.size) = some 32 := by kernel_rfl
  have hIK : Hid ((Try.prog.info? 23).map (·.size) = some 32) := IK
  clear IK
  go_enter Try.func7, Try.ntmps7
  go_wp2_with fail
  refine (polShown_any _).mono ?_
  rintro e w4 ⟨rfl, hb4⟩
  have HAll : Hid (Arr (w4.alloc (.cells (key1.map bv).toArray 23)) w4.heap.size 23 key1 ∧ Below w.heap.size w (w4.alloc (.cells (key1.map bv).toArray 23))) := ⟨Arr.new w4 _ _, hb4.alloc hb4.size _⟩
  have hwk : w.heap.size ≤ w4.heap.size := hb4.size
  clear hb4
  go_wp2
  have hsz : Hid ((w4.alloc (.cells (key1.map bv).toArray 23)).heap.size = w4.heap.size + 1) := by show _ = _; simp
  refine from_world (P := Code.wp Try.prog _ _ _) (R := fun W => Hid (Arr W w4.heap.size 23 key1 ∧ Below w.heap.size w W) ∧ Hid (W.heap.size = w4.heap.size + 1)) _ ⟨HAll, hsz⟩ ?_
  clear HAll hsz
  rintro W5 ⟨hAll, hsz⟩
  generalize w4.heap.size = kg at hAll hsz hwk ⊢
  have hK : Hid (Arr W5 kg 23 key1) := hAll.out.1
  have hW : Hid (Below w.heap.size w W5) := hAll.out.2
  have hO : Hid (W5.ownsRow (kg + 1) 5 1 (.slice none 0 0) 0 (([] : List UInt8).map bv)) := World.ownsRow_nil _ _ _ _
  have hS : Hid (kg + 1 ≤ W5.heap.size) := Nat.le_of_eq hsz.out.symm
  clear hAll hsz
  go_loopw [9, 10] (fun v i wr => ∃ k : Nat, k ≤ 8 ∧ i = .int .i64 k ∧ Hid (kg + 1 ≤ wr.heap.size) ∧ Hid (Arr wr kg 23 key1) ∧ Hid (wr.ownsRow (kg + 1) 5 1 v (0 + k) ((([] : List UInt8) ++ leB k a).map bv)) ∧ Hid (Below w.heap.size w wr)) (fun _ i _ => 8 - (intOf i).toNat)
  case atStart => exact ⟨0, by omega, rfl, hS, hK, (by rw [show leB 0 a = [] from rfl, List.append_nil]; exact hO), hW⟩
  case round =>
    clear hS hK hO hW
    obtain ⟨k, hk, rfl, hS, hK, hO, hW⟩ := hrel
    by_cases hlt : k < 8
    · obtain ⟨p, hp⟩ : ∃ p, 8 * k = p := ⟨_, rfl⟩
      have e1 : (8 : Int) * (k : Int) = (p : Int) := by omega
      have hk8 : (k : Int) < 8 := by omega
      obtain ⟨b, hb⟩ : ∃ b, a / 256 ^ k % 256 = b := ⟨_, rfl⟩
      have hbb : b < 256 := by omega
      have hv : (a : Int) / 2 ^ p % 256 = (b : Int) := by
        rw [← hb, ← hp, pow256]
        simp
      obtain ⟨v2, w2, hap, own2, hg2⟩ := append_byte wr (kg + 1) _ _ _ b hbb hO.out hS.out (by omega)
      have HA2 : Hid (_) := hap
      have HO2 : Hid (w2.ownsRow (kg + 1) 5 1 v2 (0 + (k + 1)) ((([] : List UInt8) ++ leB (k + 1) a).map bv)) := by
        rw [leB_snoc, hb, ← List.append_assoc, ← Nat.add_assoc]
        exact own2
      have HK2 : Hid (Arr w2 kg 23 key1) := arr_grown hK.out hg2 (fun e => by have := (hO.out.lt kg e.symm).1; omega)
      have HS2 : Hid (kg + 1 ≤ w2.heap.size) := Nat.le_trans hS.out hg2.size
      have HW2 : Hid (Below w.heap.size w w2) := hW.out.grown hg2 hW.out.size (fun j hj => by have := (hO.out.lt j hj).1; omega)
      clear hap own2 hg2 hS hK hO hW hp hb
      go_wp2_with (at_builtin; refine wpList_append_run rfl (.tmp 24) (.tmp 31) 24 rfl _ _ _ _ rfl rfl HA2.out ?_)
      exact ⟨⟨k + 1, by omega, by go_num, HS2, HK2, HO2, HW2⟩, by simp [intOf]; omega⟩
    · have hk8 : ¬ (k : Int) < 8 := by omega
      obtain ⟨g0, gc0, rfl, hbg0, _⟩ := Seg.ofOwn hO.out (by omega)
      have ek : k = 8 := by omega
      obtain ⟨v2, w2, hap, own2, hg2⟩ := append_zeros wr (kg + 1) g0 _ gc0 _ 8 hO.out (by omega) (by omega) hS.out
      have HA2 : Hid ((Builtin.append_ #[24, 3] 24 #[.slice (some ⟨g0, 0, none⟩) (0 + k) gc0, .int .i64 8]).run Try.prog wr = .ok v2 w2) := hap
      have hO2 : Hid (w2.ownsRow (kg + 1) 5 1 v2 16 ((part8 a).map bv)) := by
        have e : ([] : List UInt8) ++ leB k a ++ List.replicate 8 0 = part8 a := by rw [ek]; simp [part8]
        rw [e] at own2
        have e2 : 0 + k + 8 = 16 := by omega
        rw [e2] at own2
        exact own2
      have hK2 : Hid (Arr w2 kg 23 key1) := arr_grown hK.out hg2 (fun e => by have := Option.some.inj e; omega)
      have hS2 : Hid (kg + 1 ≤ w2.heap.size) := Nat.le_trans hS.out hg2.size
      have hW2 : Hid (Below w.heap.size w w2) := hW.out.grown hg2 hW.out.size (fun j hj => by cases hj; omega)
      clear hap own2 hg2 hS hK hO hW ek
      go_wp2_with (at_builtin; refine wpList_append_run2 rfl (.tmp 33) _ 24 3 rfl _ _ _ _ rfl rfl HA2.out ?_)
      clear HA2
      have hO := hO2
      have hK := hK2
      have hS := hS2
      have hW := hW2
      clear hO2 hK2 hS2 hW2
      go_loopw [9, 11] (fun v i wr => ∃ k : Nat, k ≤ 8 ∧ i = .int .i64 k ∧ Hid (kg + 1 ≤ wr.heap.size) ∧ Hid (Arr wr kg 23 key1) ∧ Hid (wr.ownsRow (kg + 1) 5 1 v (16 + k) ((part8 a ++ leB k c).map bv)) ∧ Hid (Below w.heap.size w wr)) (fun _ i _ => 8 - (intOf i).toNat)
      case atStart => exact ⟨0, by omega, rfl, hS, hK, (by rw [show leB 0 c = [] from rfl, List.append_nil]; exact hO), hW⟩
      case round =>
        clear hS hK hO hW
        obtain ⟨k, hk, rfl, hS, hK, hO, hW⟩ := hrel
        by_cases hlt : k < 8
        · obtain ⟨p, hp⟩ : ∃ p, 8 * k = p := ⟨_, rfl⟩
          have e1 : (8 : Int) * (k : Int) = (p : Int) := by omega
          have hk8 : (k : Int) < 8 := by omega
          obtain ⟨b, hb⟩ : ∃ b, c / 256 ^ k % 256 = b := ⟨_, rfl⟩
          have hbb : b < 256 := by omega
          have hv : (c : Int) / 2 ^ p % 256 = (b : Int) := by
            rw [← hb, ← hp, pow256]
            simp
          obtain ⟨v2, w2, hap, own2, hg2⟩ := append_byte wr (kg + 1) _ _ _ b hbb hO.out hS.out (by omega)
          have HA2 : Hid (_) := hap
          have HO2 : Hid (w2.ownsRow (kg + 1) 5 1 v2 (16 + (k + 1)) ((part8 a ++ leB (k + 1) c).map bv)) := by
            rw [leB_snoc, hb, ← List.append_assoc, ← Nat.add_assoc]
            exact own2
          have HK2 : Hid (Arr w2 kg 23 key1) := arr_grown hK.out hg2 (fun e => by have := (hO.out.lt kg e.symm).1; omega)
          have HS2 : Hid (kg + 1 ≤ w2.heap.size) := Nat.le_trans hS.out hg2.size
          have HW2 : Hid (Below w.heap.size w w2) := hW.out.grown hg2 hW.out.size (fun j hj => by have := (hO.out.lt j hj).1; omega)
          clear hap own2 hg2 hS hK hO hW hp hb
          go_wp2_with (at_builtin; refine wpList_append_run rfl (.tmp 39) (.tmp 46) 24 rfl _ _ _ _ rfl rfl HA2.out ?_)
          exact ⟨⟨k + 1, by omega, by go_num, HS2, HK2, HO2, HW2⟩, by simp [intOf]; omega⟩
        · have hk8 : ¬ (k : Int) < 8 := by omega
          obtain ⟨g1, gc1, rfl, hbg1, _⟩ := Seg.ofOwn hO.out (by omega)
          have ek : k = 8 := by omega
          obtain ⟨v2, w2, hap, own2, hg2⟩ := append_zeros wr (kg + 1) g1 _ gc1 _ 8 hO.out (by omega) (by omega) hS.out
          have HA2 : Hid ((Builtin.append_ #[24, 3] 24 #[.slice (some ⟨g1, 0, none⟩) (16 + k) gc1, .int .i64 8]).run Try.prog wr = .ok v2 w2) := hap
          have hO2 : Hid (w2.ownsRow (kg + 1) 5 1 v2 32 ((part8 a ++ part8 c).map bv)) := by
            have e : part8 a ++ leB k c ++ List.replicate 8 0 = part8 a ++ part8 c := by rw [ek]; simp [part8, List.append_assoc]
            rw [e] at own2
            have e2 : 16 + k + 8 = 32 := by omega
            rw [e2] at own2
            exact own2
          have hK2 : Hid (Arr w2 kg 23 key1) := arr_grown hK.out hg2 (fun e => by have := Option.some.inj e; omega)
          have hS2 : Hid (kg + 1 ≤ w2.heap.size) := Nat.le_trans hS.out hg2.size
          have hW2 : Hid (Below w.heap.size w w2) := hW.out.grown hg2 hW.out.size (fun j hj => by cases hj; omega)
          clear hap own2 hg2 hS hK hO hW ek
          go_wp2_with (at_builtin; refine wpList_append_run2 rfl (.tmp 48) _ 24 3 rfl _ _ _ _ rfl rfl HA2.out ?_)
          clear HA2
          have hO := hO2
          have hK := hK2
          have hS := hS2
          have hW := hW2
          clear hO2 hK2 hS2 hW2
          go_loopw [9, 12] (fun v i wr => ∃ k : Nat, k ≤ 8 ∧ i = .int .i64 k ∧ Hid (kg + 1 ≤ wr.heap.size) ∧ Hid (Arr wr kg 23 key1) ∧ Hid (wr.ownsRow (kg + 1) 5 1 v (32 + k) ((part8 a ++ part8 c ++ leB k d).map bv)) ∧ Hid (Below w.heap.size w wr)) (fun _ i _ => 8 - (intOf i).toNat)
          case atStart => exact ⟨0, by omega, rfl, hS, hK, (by rw [show leB 0 d = [] from rfl, List.append_nil]; exact hO), hW⟩
          case round =>
            clear hS hK hO hW
            obtain ⟨k, hk, rfl, hS, hK, hO, hW⟩ := hrel
            by_cases hlt : k < 8
            · obtain ⟨p, hp⟩ : ∃ p, 8 * k = p := ⟨_, rfl⟩
              have e1 : (8 : Int) * (k : Int) = (p : Int) := by omega
              have hk8 : (k : Int) < 8 := by omega
              obtain ⟨b, hb⟩ : ∃ b, d / 256 ^ k % 256 = b := ⟨_, rfl⟩
              have hbb : b < 256 := by omega
              have hv : (d : Int) / 2 ^ p % 256 = (b : Int) := by
                rw [← hb, ← hp, pow256]
                simp
              obtain ⟨v2, w2, hap, own2, hg2⟩ := append_byte wr (kg + 1) _ _ _ b hbb hO.out hS.out (by omega)
              have HA2 : Hid (_) := hap
              have HO2 : Hid (w2.ownsRow (kg + 1) 5 1 v2 (32 + (k + 1)) ((part8 a ++ part8 c ++ leB (k + 1) d).map bv)) := by
                rw [leB_snoc, hb, ← List.append_assoc, ← Nat.add_assoc]
                exact own2
              have HK2 : Hid (Arr w2 kg 23 key1) := arr_grown hK.out hg2 (fun e => by have := (hO.out.lt kg e.symm).1; omega)
              have HS2 : Hid (kg + 1 ≤ w2.heap.size) := Nat.le_trans hS.out hg2.size
              have HW2 : Hid (Below w.heap.size w w2) := hW.out.grown hg2 hW.out.size (fun j hj => by have := (hO.out.lt j hj).1; omega)
              clear hap own2 hg2 hS hK hO hW hp hb
              go_wp2_with (at_builtin; refine wpList_append_run rfl (.tmp 54) (.tmp 61) 24 rfl _ _ _ _ rfl rfl HA2.out ?_)
              exact ⟨⟨k + 1, by omega, by go_num, HS2, HK2, HO2, HW2⟩, by simp [intOf]; omega⟩
            · have hk8 : ¬ (k : Int) < 8 := by omega
              obtain ⟨g2, gc2, rfl, hbg2, _⟩ := Seg.ofOwn hO.out (by omega)
              have ek : k = 8 := by omega
              obtain ⟨v2, w2, hap, own2, hg2⟩ := append_zeros wr (kg + 1) g2 _ gc2 _ 8 hO.out (by omega) (by omega) hS.out
              have HA2 : Hid ((Builtin.append_ #[24, 3] 24 #[.slice (some ⟨g2, 0, none⟩) (32 + k) gc2, .int .i64 8]).run Try.prog wr = .ok v2 w2) := hap
              have hO2 : Hid (w2.ownsRow (kg + 1) 5 1 v2 48 ((three a c d).map bv)) := by
                have e : part8 a ++ part8 c ++ leB k d ++ List.replicate 8 0 = three a c d := by rw [ek]; simp [part8, three, List.append_assoc]
                rw [e] at own2
                have e2 : 32 + k + 8 = 48 := by omega
                rw [e2] at own2
                exact own2
              have hK2 : Hid (Arr w2 kg 23 key1) := arr_grown hK.out hg2 (fun e => by have := Option.some.inj e; omega)
              have hS2 : Hid (kg + 1 ≤ w2.heap.size) := Nat.le_trans hS.out hg2.size
              have hW2 : Hid (Below w.heap.size w w2) := hW.out.grown hg2 hW.out.size (fun j hj => by cases hj; omega)
              clear hap own2 hg2 hS hK hO hW ek
              go_wp2_with (first | (at_builtin; refine wpList_append_run2 rfl (.tmp 63) _ 24 3 rfl _ _ _ _ rfl rfl HA2.out ?_) | refine wpList_load_row rfl 23 _ rfl kg rfl 23 _ (0, 0) _ hK2.out Try.underlying23 rfl (info_size hIK.out _ rfl) ?_)
              clear HA2
              obtain ⟨gA, cA, rfl, hbgA, _⟩ := Seg.ofOwn hO2.out (by omega)
              have HB : Hid (Byt w2 (some ⟨gA, 0, none⟩) 48 (three a c d)) := Byt.ofOwn hO2.out
              obtain ⟨aA, cB, eA, _, hcA, hcAm⟩ := own_out hO2.out
              cases eA
              clear hO2
              refine (sum_any key1 _ 48 cA (three a c d) _ rfl HB.out (by omega) (by omega) hcAm).mono ?_
              rintro e w10 ⟨rfl, hb10⟩
              have hT2 := tag_length key1 (three a c d)
              obtain ⟨x, y, hx, hy, hxb, hxy⟩ := tag1 a c d ha hc hd
              generalize tag key1 (three a c d) = T at hT2 hx hy ⊢
              have HW10 : Hid (Below w.heap.size w w10) := hW2.out.trans (hb10.mono hW2.out.size)
              clear hb10 HB hW2 hK2 hS2
              go_wp2_with fail
              refine (number_any T _ hT2).mono ?_
              rintro e w11 ⟨rfl, hb11⟩
              have HW11 : Hid (Below w.heap.size w w11) := HW10.out.trans (hb11.mono HW10.out.size)
              clear hb11 HW10
              rw [hx, hy]
              obtain ⟨s, hs⟩ : ∃ s, (a + c) % 18446744073709551616 = s := ⟨_, rfl⟩
              have hsb : s < 18446744073709551616 := by omega
              have f1 : IntKind.u64.wrap ((a : Int) + (c : Int)) = (s : Int) := by rw [IntKind.wrap_u64]; omega
              have f2 : IntKind.u64.wrap ((s : Int) + (d : Int)) = (x : Int) := by rw [IntKind.wrap_u64]; omega
              by_cases h1 : s < a
              · have h1i : (s : Int) < (a : Int) := by omega
                by_cases h2 : x < s
                · have h2i : (x : Int) < (s : Int) := by omega
                  have ey : y = 2 := by omega
                  subst ey
                  clear hx hy hxy hs
                  go_wp2
                  go_ret
                  exact ⟨rfl, HW11.out⟩
                · have h2i : ¬ (x : Int) < (s : Int) := by omega
                  have ey : y = 1 := by omega
                  subst ey
                  clear hx hy hxy hs
                  go_wp2
                  go_ret
                  exact ⟨rfl, HW11.out⟩
              · have h1i : ¬ (s : Int) < (a : Int) := by omega
                by_cases h2 : x < s
                · have h2i : (x : Int) < (s : Int) := by omega
                  have ey : y = 1 := by omega
                  subst ey
                  clear hx hy hxy hs
                  go_wp2
                  go_ret
                  exact ⟨rfl, HW11.out⟩
                · have h2i : ¬ (x : Int) < (s : Int) := by omega
                  have ey : y = 0 := by omega
                  subst ey
                  clear hx hy hxy hs
                  go_wp2
                  go_ret
                  exact ⟨rfl, HW11.out⟩
end Go.Proofs.Ytcnihgjibiidpaa.polyOne
